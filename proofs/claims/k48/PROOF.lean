import PyProof.Rows.All
import Wide.All
import OpenK.AllK
import Wide.FinOn
import Lean
import PyProof.EqAt
import PyProof.EqKinds
import PyProof.TupleCall
import PyProof.NeKinds
import PyProof.EnumStmt
import PyProof.WalkInts
import PyProof.ZipIter
import PyProof.Rows.ZipGen
import PyProof.Rows.SumAny
import PyProof.ReprBulk
import PyProof.FitsInt
import PyProof.Draws
import KE.KSortAsk
import PyProof.FactsAll.list_3
import PyProof.FactsAll.list_4
import KE.KDictList
import PyProof.CallStr
import PyProof.Rows.ReprOcc
import PyProof.Rows.StrWeight2
import PyProof.StrCalls2
import PyProof.StrCalls
import PyProof.StrBlockI
import KE.KIntText
import PyProof.Rows.StrSplitMax
import PyProof.StrWalks
import PyProof.StrLawsTight
import PyProof.StrLawsFirst
import PyProof.StrBlock2
import PyProof.StrCalls3
import KE.IntTextText
import PyProof.DictRoads
import PyProof.EqKinds
import KE.KTryMore
import PyProof.NsDelKeeps
import PyProof.ExcArgsOwn
import PyProof.ExcBaseAll.ValueError
import PySem.Challenge.RW_nearsums_k48_rows_that_are_none
set_option Elab.async false
set_option linter.all false
set_option maxRecDepth 100000
abbrev qA:=@List.length_map
abbrev qB:=@List.getElem?_eq_getElem
abbrev qC:=@List.getD_eq_getElem?_getD
abbrev qD:=@List.mem_cons_self
abbrev qE:=@Nat.le_refl
abbrev qF:=@List.mem_cons_of_mem
abbrev qG:=@List.mem_cons
abbrev qH:=@List.mem_singleton
abbrev qI:=@List.length_append
abbrev qJ:=@Array.length_toList
abbrev qK:=@Nat.le_trans
abbrev qL:=@List.length_cons
abbrev qM:=@Bool.and_eq_true
abbrev qN:=@Bool.false_ne_true
abbrev qO:=@List.mem_append
abbrev qP:=@Nat.lt_of_lt_of_le
abbrev qQ:=@List.map_cons
abbrev qR:=@List.getElem?_map
abbrev qS:=@List.map_append
abbrev qT:=@Nat.ne_of_lt
abbrev qU:=@List.map_map
abbrev qV:=@List.size_toArray
abbrev qW:=@List.mem_append_right
abbrev qX:=@List.contains_iff_mem
abbrev qY:=@List.mem_map
abbrev qZ:=@List.getElem?_eq_some_iff
abbrev QB:=@PySem.boot_len
abbrev QC:=@PySem.F.excBase_ValueError
abbrev QD:=@List.mem_filter
abbrev QF:=@List.getElem_mem
abbrev QG:=@Nat.zero_le
abbrev QH:=@Bool.false_and
abbrev QI:=@List.length_filter_le
abbrev QJ:=@PySem.F.plainAttrs_str
abbrev QK:=@PySem.F.plainAttrs_list
abbrev QL:=@Bool.true_and
abbrev QM:=@List.all_eq_true
abbrev QN:=@List.find?_cons
abbrev QO:=@List.take_of_length_le
abbrev QP:=@List.mem_range
abbrev QQ:=@Bool.not_eq_true'
abbrev QR:=@Bool.eq_false_iff
abbrev QT:=@List.pairwise_cons
abbrev QU:=@List.filter_cons
abbrev QV:=@PyProof.Rows.callWith_type1
abbrev QW:=@PySem.F.slot_list_append
abbrev QX:=@PySem.F.type_list_append
abbrev QY:=@Bool.eq_iff_iff
abbrev QZ:=@List.not_mem_nil
abbrev xA:=@List.mem_of_getElem?
abbrev xB:=@List.append_nil
abbrev xC:=@Array.toList_append
abbrev xE:=@Int.toNat_natCast
abbrev xF:=@List.nodup_cons
abbrev xG:=@List.length_take
abbrev xH:=@PyProof.Rows.boot_list
abbrev xI:=@List.map_congr_left
abbrev xJ:=@Nat.lt_succ_of_lt
abbrev xK:=@Nat.le_of_lt
abbrev xM:=@Array.getD_eq_getD_getElem?
abbrev xN:=@List.getElem?_append_right
abbrev xO:=@List.exists_cons_of_ne_nil
abbrev xP:=@List.getElem?_set_self
abbrev xQ:=@PySem.F.slot_str_split
abbrev xR:=@PySem.F.type_str_split
abbrev xS:=@List.append_assoc
abbrev xT:=@List.getElem?_append_left
abbrev xU:=@List.length_set
abbrev xV:=@List.filter_append
abbrev xW:=@List.find?_eq_none
abbrev xX:=@List.length_range
abbrev xY:=@Nat.lt_or_ge
abbrev xZ:=@List.pairwise_lt_range
abbrev XA:=@Nat.lt_irrefl
abbrev XB:=@List.length_singleton
abbrev XE:=@List.nodup_nil
abbrev XF:=@Option.map_some
abbrev XG:=@Nat.not_lt_zero
abbrev XH:=@Nat.pow_le_pow_right
abbrev XI:=@List.any_cons
abbrev XJ:=@List.filterMap_cons
abbrev XM:=@List.length_drop
abbrev XO:=@List.any_eq_true
abbrev XQ:=@List.getElem?_set_ne
abbrev XR:=@List.drop_eq_getElem_cons
abbrev XU:=@Bool.and_false
abbrev XV:=@List.lookup_cons
abbrev XX:=@PySem.mem_of_lookup
abbrev XY:=@List.pairwise_singleton
abbrev XZ:=@Int.emod_nonneg
namespace L2
open PySem PySem.Spec PyProof.Rows
abbrev ze:=Sum Int Str
def Jl:ze->Value->Bool
 | .inl k,v=>Value.isInt k v
 | .inr x,v=>Value.isStrOf x v
def zSZ (w:World):ze->Int
 | .inl k=>hashInt k
 | .inr x=>hashStr w x
theorem Z6:∀{k:ze} {v:Value},Jl k v=true->(∃i t,k=Sum.inl i/\v=Value.int i t)\/(∃x t,k=Sum.inr x/\v=Value.str x t)
 | .inl i,v,h=>by
  obtain ⟨t,e⟩:=Value.isInt_shape (k:=i) (v:=v) h;exact .inl ⟨i,t,rfl,e⟩
 | .inr x,v,h=>by
  obtain ⟨t,e⟩:=Value.isStrOf_shape (x:=x) (v:=v) h;exact .inr ⟨x,t,rfl,e⟩
theorem zJW (i:Int) (t:Tok):Jl (.inl i) (.int i t)=true:=by simp [Jl,Value.isInt]
theorem zIj (x:Str) (t:Tok):Jl (.inr x) (.str x t)=true:=by simp [Jl,Value.isStrOf]
theorem zOH (a b:Int):decide ((Sum.inl a:ze)=Sum.inl b)=(a==b):=by
 by_cases e:a=b
 ·subst e; simp
 ·have h:¬(Sum.inl a:ze)=Sum.inl b:=λq=>e (Sum.inl.inj q)
  rw [decide_eq_false h];exact (beq_eq_false_iff_ne.mpr e).symm
theorem zPV (a b:Str):decide ((Sum.inr a:ze)=Sum.inr b)=decide (a=b):=by
 by_cases e:a=b
 ·subst e; simp
 ·have h:¬(Sum.inr a:ze)=Sum.inr b:=λq=>e (Sum.inr.inj q)
  rw [decide_eq_false h,decide_eq_false e]
theorem zPj (a:Int) (b:Str):decide ((Sum.inl a:ze)=Sum.inr b)=false:=decide_eq_false (λq=>nomatch q)
theorem zPy (a:Str) (b:Int):decide ((Sum.inr a:ze)=Sum.inl b)=false:=decide_eq_false (λq=>nomatch q)
def ZV (prog:Program) (w:World):PySem.KeyKind prog w ze where
 is:=Jl
 hash:=zSZ w
 inj:=λv a b ha hb=>by
  rcases Z6 ha with ⟨i,t,rfl,rfl⟩ | ⟨x,t,rfl,rfl⟩
  ·rcases Z6 hb with ⟨j,u,rfl,e⟩ | ⟨y,u,rfl,e⟩
   ·injection e with e1 _; rw [e1]
   ·exact nomatch e
  ·rcases Z6 hb with ⟨j,u,rfl,e⟩ | ⟨y,u,rfl,e⟩
   ·exact nomatch e
   ·injection e with e1 _; rw [e1]
 byValue:=λk v h=>by
  rcases Z6 h with ⟨i,t,rfl,rfl⟩ | ⟨x,t,rfl,rfl⟩ <;> rfl
 pyHash:=λhv h=>by
  rcases Z6 hv with ⟨i,t,rfl,rfl⟩ | ⟨x,t,rfl,rfl⟩
  ·exact wpAny_pyHash_int h
  ·exact wpAny_pyHash_str h
 eqBool:=λhu hv h=>by
  rcases Z6 hu with ⟨i,t,rfl,rfl⟩ | ⟨x,t,rfl,rfl⟩
  ·rcases Z6 hv with ⟨j,u,rfl,rfl⟩ | ⟨y,u,rfl,rfl⟩
   ·rw [zOH] at h; exact wpAny_eqBool_int h
   ·rw [zPj] at h; exact SeqAt.EqAt.int_str i t y u _ _ _ _ h
  ·rcases Z6 hv with ⟨j,u,rfl,rfl⟩ | ⟨y,u,rfl,rfl⟩
   ·rw [zPy] at h; exact SeqAt.EqAt.str_int x t j u _ _ _ _ h
   ·rw [zPV] at h; exact wpAny_eqBool_str h
 «strs»:=λk x t v h=>by
  rcases Z6 h with ⟨i,u,rfl,e⟩ | ⟨y,u,rfl,e⟩
  ·exact nomatch e
  ·injection e with e1 _
   subst e1;cases v <;> rfl
theorem zFt (prog:Program) (w:World) (i:Int) (t:Tok):(ZV prog w).is (.inl i) (.int i t)=true:=zJW i t
theorem Jt (prog:Program) (w:World) (x:Str) (t:Tok):(ZV prog w).is (.inr x) (.str x t)=true:=zIj x t
end L2
namespace L2
open PySem PySem.Spec PyProof.Rows
inductive V where
 | non | bl (b:Bool) | int (i:Int) | str (x:Str) | byt (b:Array UInt8) | flt (b:UInt64) | ref (a:Addr) | ty (n:String)
 deriving DecidableEq
def zn:V->Value->Prop
 | .non,u=>u=Value.none
 | .bl b,u=>u=Value.bool b
 | .int i,u=>∃t,u=Value.int i t
 | .str x,u=>∃t,u=Value.str x t
 | .byt b,u=>∃t,u=Value.bytes b t
 | .flt b,u=>∃t,u=Value.float b t
 | .ref a,u=>u=Value.ref a
 | .ty n,u=>u=Value.type n
abbrev zi:List V->List Value->Prop:=Paired zn
theorem zi.length {xs:List V} {us:List Value} (r:zi xs us):xs.length=us.length:=Paired.length r
theorem zi.get:∀{xs:List V} {us:List Value} {i:Nat} {x:V},zi xs us->xs[i]?=some x->∃u,us[i]?=some u/\zn x u
 | _,_,_,_, .nil,e=>by simp at e
 | _,_,0,_, .cons r _,e=>by simp at e; subst e; exact ⟨_,rfl,r⟩
 | _,_,i+1,x, .cons _ t,e=>by
  obtain ⟨u,h1,h2⟩:=zi.get (i:=i) (x:=x) t (by simpa using e);exact ⟨u,by simpa using h1,h2⟩
theorem zi.set {x:V} {u:Value} (r:zn x u):∀{xs:List V} {us:List Value} (i:Nat),zi xs us->zi (xs.set i x) (us.set i u)
 | _,_,_, .nil=> .nil
 | _,_,0, .cons _ t=> .cons r t
 | _,_,i+1, .cons q t=> .cons q (zi.set r i t)
theorem zi.append:∀{xs ys:List V} {us ws:List Value},zi xs us->zi ys ws->zi (xs++ys) (us++ws)
 | _,_,_,_, .nil,s=>s
 | _,_,_,_, .cons r t,s=> .cons r (zi.append t s)
theorem zi.take:∀{xs:List V} {us:List Value} (n:Nat),zi xs us->zi (xs.take n) (us.take n)
 | _,_,0,_=> .nil
 | _,_,_+1, .nil=> .nil
 | _,_,n+1, .cons r t=> .cons r (zi.take n t)
theorem zi.drop:∀{xs:List V} {us:List Value} (n:Nat),zi xs us->zi (xs.drop n) (us.drop n)
 | _,_,0,r=>r
 | _,_,_+1, .nil=> .nil
 | _,_,n+1, .cons _ t=>zi.drop n t
def Yn:Option V->Option Value->Prop
 | some v,some u=>zn v u
 | none,none=>True
 | _,_=>False
def KV {κ:Type}:List (κ×V)->List (κ×Value)->Prop:=Paired λ(p:κ×V) (q:κ×Value)=>p.1=q.1/\zn p.2 q.2
def kV:ze->V
 | .inl i=> .int i
 | .inr x=> .str x
inductive HO where
  | lst (xs:List V)
  | tup (xs:List V)
  | dK (kvs:List (ze×V)) | dT (kvs:List (List ze×V))
  | set (S:Int->Bool) (n:Nat)
  | ins (C dx:Addr) (fs:List (Str×V))
  | own (x:Addr)
  | xd (fs:List (Str×V))
  | met (f x:Addr)
  | rng (lo hi:Int)
  | frz (o:Obj) (u:HO)
  | tbl (ps:Array Value)
  | ext (φ:Heap->Prop)
abbrev Hp:=Addr->Option HO
def upd (H:Hp) (a:Addr) (o:HO):Hp:=λb=>if b=a then some o else H b
theorem zD {H:Hp} {a:Addr} {o:HO}:upd H a o a=some o:=by unfold upd; rw [if_pos rfl]
theorem zI {H:Hp} {a b:Addr} {o:HO} (h:b≠a):upd H a o b=H b:=by unfold upd; rw [if_neg h]
theorem zMu {H:Hp} {a:Addr} {o u:HO}:upd (upd H a o) a u=upd H a u:=by
 funext b; unfold upd; split <;> rfl
theorem Zc {H:Hp} {a b:Addr} {o u:HO} (h:H a=some o) (h':H b=some u) (d:o≠u):a≠b:=by
 intro e; subst e; rw [h] at h'; exact d (Option.some.inj h')
theorem zJ {H:Hp} {a b:Addr} {o:HO} (h:H a=some o) (h':H b=none):a≠b:=by
 intro e; subst e; rw [h] at h'; cases h'
section
variable (P:Program) (w:World)
def ZU (H:Hp) (h:Heap) (a:Addr):HO->Prop
 | .lst xs=>xs.length≤sizeLine/\∃(its:List Value) (n:Nat),zi xs its/\h.get? a=some {cls:= .type "list",data:= .seq its.toArray n}
 | .tup xs=>xs.length≤sizeLine/\∃its:List Value,zi xs its/\IsTup h a its.toArray
 | .dK kvs=>kvs.length≤sizeLine/\(a==sysModules)=false/\∃vs,KV kvs vs/\h.DictOf (ZV P w) a vs
 | .dT kvs=>kvs.length≤sizeLine/\(a==sysModules)=false/\∃xs:List (List ze×Addr×Value),
   Paired (λ(p:List ze×V) (q:List ze×Addr×Value)=>p.1=q.1/\H q.2.1=some (.tup (p.1.map kV))/\zn p.2 q.2.2) kvs xs/\
   ∃o es ep,h.get? a=some o/\o.ExactDict/\o.data= .dict es ep/\es.toList=xs.map (entryOfKey (tupleKind (ZV P w)))/\(xs.map (·.1)).Nodup
 | .set S n=>h.SetOf (intKind P w) a S n
 | .ins C dx fs=>H dx=some (.own a)/\fs.length≤1000/\dx≠a/\h.get? a=some (PySem.W.instObj C dx)/\
   ∃mA,h.Ns1 dx mA/\(∀f,Yn (fs.lookup f) (mA f))/\PySem.Within mA (fs.map (·.1))
 | .own _=>∃o,h.get? a=some o
 | .xd fs=>∃mA,h.Ns1 a mA/\∀f,Yn (fs.lookup f) (mA f)
 | .rng lo hi=>∃t u v,h.get? a=some {cls:= .type "range",data:= .fields #[.int lo t, .int hi u, .int 1 v]}
 | .frz o u=>h.get? a=some o/\ZU H h a u
 | .tbl ps=>h.get? a=some {cls:= .none,data:= .fields ps}
 | .met f x=>h.get? a=some (PySem.W.methodObj (.ref f) (.ref x))
 | .ext φ=>φ h/\(∃o,h.get? a=some o)/\∀h1 h2:Heap,φ h1->(∀o,h1.get? a=some o->h2.get? a=some o)->φ h2
def yV (H:Hp) (h:Heap):Prop:=∀a o,H a=some o->ZU P w H h a o
end
section
variable {P:Program} {w:World} {H H':Hp} {h h':Heap} {a:Addr} {o:HO}
theorem ZU.lt (x:ZU P w H h a o):a<h.objs.size:=by
 cases o with
 | lst xs=>obtain ⟨_,_,_,_,e⟩:=x; exact Heap.lt_size e
 | tup xs=>obtain ⟨_,_,_,p⟩:=x; exact p.lt
 | dK kvs=>obtain ⟨_,_,_,_,o,_,_,e,_⟩:=x; exact Heap.lt_size e
 | dT kvs=>obtain ⟨_,_,_,_,o,_,_,e,_⟩:=x; exact Heap.lt_size e
 | set S n=>obtain ⟨o,_,_,_,e,_⟩:=x; exact Heap.lt_size e
 | ins C dx fs=>obtain ⟨_,_,_,e,_⟩:=x; exact Heap.lt_size e
 | own y=>obtain ⟨_,e⟩:=x; exact Heap.lt_size e
 | xd fs=>obtain ⟨_,⟨_,_,_,e,_⟩,_⟩:=x; exact Heap.lt_size e
 | rng lo hi=>obtain ⟨_,_,_,e⟩:=x; exact Heap.lt_size e
 | frz ob u=>obtain ⟨e,_⟩:=x; exact Heap.lt_size e
 | tbl ps=>exact Heap.lt_size (show h.get? a=some _ from x)
 | met f y=>exact Heap.lt_size (show h.get? a=some _ from x)
 | ext φ=>obtain ⟨_,⟨_,e⟩,_⟩:=x; exact Heap.lt_size e
theorem Paired.mapP {α β:Type} {F G:α->β->Prop}:∀{l₁:List α} {l₂:List β},Paired F l₁ l₂->(∀a b,F a b->G a b)->Paired G l₁ l₂
 | _,_, .nil,_=> .nil
 | _,_, .cons r t,f=> .cons (f _ _ r) (Paired.mapP t f)
theorem ZU.stay (x:ZU P w H h a o) (k:∀b u,(b=a\/H b=some (.own a))->h.get? b=some u->h'.get? b=some u)
  (ho:∀b,H b=some (.own a)->H' b=some (.own a)) (ht:∀b xs,H b=some (.tup xs)->H' b=some (.tup xs)):ZU P w H' h' a o:=by
 induction o with
 | lst xs=>obtain ⟨z,its,n,r,e⟩:=x; exact ⟨z,its,n,r,k _ _ (.inl rfl) e⟩
 | tup xs=>obtain ⟨z,its,r,ob,e,c⟩:=x; exact ⟨z,its,r,ob,k _ _ (.inl rfl) e,c⟩
 | dK kvs=>obtain ⟨z,y,vs,r,ob,es,ep,e,c⟩:=x; exact ⟨z,y,vs,r,ob,es,ep,k _ _ (.inl rfl) e,c⟩
 | dT kvs=>
  obtain ⟨z,y,xs,r,ob,es,ep,e,c⟩:=x;exact ⟨z,y,xs,Paired.mapP r λp q z=>⟨z.1,ht _ _ z.2.1,z.2.2⟩,ob,es,ep,k _ _ (.inl rfl) e,c⟩
 | set S n=>obtain ⟨ob,es,ep,t,e,c⟩:=x; exact ⟨ob,es,ep,t,k _ _ (.inl rfl) e,c⟩
 | ins C dx fs=>
  obtain ⟨d,z,ne,e,mA,⟨od,es,ep,e2,c⟩,r⟩:=x;exact ⟨ho _ d,z,ne,k _ _ (.inl rfl) e,mA,⟨od,es,ep,k _ _ (.inr d) e2,c⟩,r⟩
 | own y=>obtain ⟨ob,e⟩:=x; exact ⟨ob,k _ _ (.inl rfl) e⟩
 | xd fs=>obtain ⟨mA,⟨od,es,ep,e,c⟩,r⟩:=x; exact ⟨mA,⟨od,es,ep,k _ _ (.inl rfl) e,c⟩,r⟩
 | rng lo hi=>obtain ⟨t,u,v,e⟩:=x; exact ⟨t,u,v,k _ _ (.inl rfl) e⟩
 | frz ob u ih=>obtain ⟨e,q⟩:=x; exact ⟨k _ _ (.inl rfl) e,ih q⟩
 | tbl ps=>
  have e:h.get? a=some {cls:= .none,data:= .fields ps}:=x;show h'.get? a=some {cls:= .none,data:= .fields ps};exact k a _ (.inl rfl) e
 | met f y=>
  have e:h.get? a=some (PySem.W.methodObj (.ref f) (.ref y)):=x;show h'.get? a=some (PySem.W.methodObj (.ref f) (.ref y));exact k a _ (.inl rfl) e
 | ext φ=>obtain ⟨p,⟨o,e⟩,st⟩:=x; exact ⟨st _ _ p λo q=>k _ _ (.inl rfl) q,⟨o,k _ _ (.inl rfl) e⟩,st⟩
theorem yV.lt (x:yV P w H h) (e:H a=some o):a<h.objs.size:=(x a o e).lt
theorem yV.fresh (x:yV P w H h) (e:h.objs.size≤a):H a=none:=by
 cases q:H a with
 | none=>rfl
 | some u=>exact absurd (qP (x.lt q) e) (XA _)
theorem yV.kept (x:yV P w H h) (k:∀b u,h.get? b=some u->h'.get? b=some u):yV P w H h':=λa o e=>
 (x a o e).stay (λb u _ q=>k b u q) (λ_ q=>q) λ_ _ q=>q
theorem yV.laid (x:yV P w H h) (k:∀b u,h.get? b=some u->h'.get? b=some u) (hp:h.objs.size≤a) (new:ZU P w (upd H a o) h' a o):yV P w (upd H a o) h':=λb u e=>by
 have hn:=x.fresh hp;by_cases hb:b=a
 ·subst hb; rw [zD] at e; cases e; exact new
 ·rw [zI hb] at e
  exact (x b u e).stay (λc v _ q=>k c v q) (λc q=>by rw [zI (zJ q hn)]; exact q) λc xs q=>by rw [zI (zJ q hn)]; exact q
end
def Rd (H:Hp) (a:Addr) (u:HO):Prop:=H a=some u\/∃o,H a=some (.frz o u)
theorem Rd.ok {P:Program} {w:World} {H:Hp} {h:Heap} {a:Addr} {u:HO} (r:Rd H a u) (x:yV P w H h):ZU P w H h a u:=by
 rcases r with r | ⟨o,r⟩
 ·exact x a u r
 ·obtain ⟨_,q⟩:=x a _ r
  exact q
def Mut:Option HO->Prop
 | some (.lst _)=>True
 | some (.dK _)=>True
 | some (.dT _)=>True
 | some (.set _ _)=>True
 | some (.ins _ _ _)=>True
 | some (.ext _)=>True
 | _=>False
section
variable {P:Program} {w:World} {H:Hp} {h h':Heap} {x e:Addr} {o':HO}
theorem yV.write (ok:yV P w H h) (mu:Mut (H x)) (he:e=x\/H e=some (.own x)) (k:∀b u,b≠e->h.get? b=some u->h'.get? b=some u) (heo:∃u,h'.get? e=some u)
  (new:ZU P w (upd H x o') h' x o'):yV P w (upd H x o') h':=λb u q=>by
 have nown:∀c y,H c=some (.own y)->c≠x:=λc y r z=>by subst z; rw [r] at mu; exact mu
 have ntup:∀c xs,H c=some (.tup xs)->c≠x:=λc xs r z=>by subst z; rw [r] at mu; exact mu
 by_cases hb:b=x
 ·subst hb; rw [zD] at q; cases q; exact new
 ·rw [zI hb] at q
  by_cases hbe:b=e
  ·have q':H b=some (.own x):=by
    rcases he with z | z
    ·exact absurd (hbe.trans z) hb
    ·rw [hbe]; exact z
   rw [q] at q'; cases q';obtain ⟨v,hv⟩:=heo;exact ⟨v,by rw [hbe]; exact hv⟩
  ·refine (ok b u q).stay (λc v hc r=>k c v ?_ r) (λc r=>by rw [zI (nown c b r)]; exact r) λc xs r=>by rw [zI (ntup c xs r)]; exact r
   rcases hc with rfl | hc
   ·exact hbe
   ·rintro rfl
    rcases he with z | z
    ·exact nown c b hc z
    ·rw [hc] at z; cases z; exact hb rfl
end
structure Un (fs ex:List Addr) (H H':Hp) (h h':Heap):Prop where
 keep:∀b o,h.get? b=some o->H b=none->b∉fs->b∉ex->h'.get? b=some o
 slot:∀b o,h.get? b=some o->H b=none->b∈fs->b∉ex->∃sl,h'.get? b=some {o with slots:=sl}
 free:∀b o,h.get? b=some o->H b=none->b∉ex->H' b=none
 there:∀b o,h.get? b=some o->b∉ex->∃o',h'.get? b=some o'
 tups:∀b xs,H b=some (.tup xs)->H' b=some (.tup xs)
 frzs:∀b o u,H b=some (.frz o u)->H' b=some (.frz o u)
 tbls:∀b ps,H b=some (.tbl ps)->∃more,H' b=some (.tbl (ps++more))
section
variable {fs fs' ex ex':List Addr} {H H1 H2:Hp} {h h1 h2 h':Heap} {a x e:Addr} {o:HO}
theorem Un.any (u:Un fs ex H H1 h h1) {b:Addr} {ob:Obj} (q:h.get? b=some ob) (n:H b=none) (hx:b∉ex):∃sl,h1.get? b=some {ob with slots:=sl}:=by
 by_cases hb:b∈fs
 ·exact u.slot b ob q n hb hx
 ·exact ⟨ob.slots,u.keep b ob q n hb hx⟩
theorem Un.trans (a:Un fs ex H H1 h h1) (b:Un fs ex H1 H2 h1 h2):Un fs ex H H2 h h2 where
 keep:=λc ob q n hc hx=>b.keep c ob (a.keep c ob q n hc hx) (a.free c ob q n hx) hc hx
 slot:=λc ob q n hc hx=>by
  obtain ⟨sl,e1⟩:=a.slot c ob q n hc hx;obtain ⟨sl',e2⟩:=b.slot c _ e1 (a.free c ob q n hx) hc hx;exact ⟨sl',e2⟩
 free:=λc ob q n hx=>by
  obtain ⟨o',e1⟩:=a.there c ob q hx;exact b.free c o' e1 (a.free c ob q n hx) hx
 there:=λc ob q hx=>by
  obtain ⟨o',e1⟩:=a.there c ob q hx;exact b.there c o' e1 hx
 tups:=λc xs q=>b.tups c xs (a.tups c xs q)
 frzs:=λc ob xs q=>b.frzs c ob xs (a.frzs c ob xs q)
 tbls:=λc ps q=>by
  obtain ⟨m1,e1⟩:=a.tbls c ps q;obtain ⟨m2,e2⟩:=b.tbls c _ e1;exact ⟨m1++m2,by rw [e2,Array.append_assoc]⟩
theorem Un.kept (k:∀b u,h.get? b=some u->h'.get? b=some u):Un fs ex H H h h':=
 ⟨λb ob q _ _ _=>k b ob q,λb ob q _ _ _=>⟨ob.slots,k b ob q⟩,λ_ _ _ n _=>n,λb ob q _=>⟨ob,k b ob q⟩,λ_ _ q=>q,λ_ _ _ q=>q,λ_ ps q=>⟨#[],by rw [q]; simp⟩⟩
theorem Un.refl:Un fs ex H H h h:=Un.kept λ_ _ q=>q
theorem Un.laid (k:∀b u,h.get? b=some u->h'.get? b=some u) (hp:h.objs.size≤a) (hn:H a=none):Un fs ex H (upd H a o) h h' where
 keep:=λb u q _ _ _=>k b u q
 slot:=λb u q _ _ _=>⟨u.slots,k b u q⟩
 free:=λb u q n _=>by rw [zI (qT (qP (Heap.lt_size q) hp))]; exact n
 there:=λb u q _=>⟨u,k b u q⟩
 tups:=λb xs q=>by rw [zI (zJ q hn)]; exact q
 frzs:=λb u xs q=>by rw [zI (zJ q hn)]; exact q
 tbls:=λb ps q=>⟨#[],by rw [zI (zJ q hn),q]; simp⟩
theorem Un.write (mu:Mut (H x)) (he:e=x\/H e=some (.own x)) (k:∀b u,b≠e->h.get? b=some u->h'.get? b=some u) (heo:∃u,h'.get? e=some u):Un fs ex H (upd H x o) h h':=by
 have hx:∀b,H b=none->b≠x:=λb n z=>by subst z; rw [n] at mu; exact mu
 have hb:∀b,H b=none->b≠e:=λb n z=>by
  subst z;rcases he with r | r
  ·exact hx b n r
  ·rw [n] at r; cases r
 have hm:∀b u,H b=some u->¬Mut (some u)->b≠x:=λb u q nm z=>by subst z; rw [q] at mu; exact nm mu
 refine ⟨λb u q n _ _=>k b u (hb b n) q,λb u q n _ _=>⟨u.slots,k b u (hb b n) q⟩,λb u q n _=>by rw [zI (hx b n)]; exact n,λb u q _=>?_,
  λb xs q=>by rw [zI (hm b _ q λz=>z)]; exact q,λb u xs q=>by rw [zI (hm b _ q λz=>z)]; exact q,λb ps q=>⟨#[],by rw [zI (hm b _ q λz=>z),q]; simp⟩⟩
 by_cases hbe:b=e
 ·subst hbe; exact heo
 ·exact ⟨u,k b u hbe q⟩
end
def trk (h:Heap) (H:Hp):List Addr:=(List.range h.objs.size).filter λa=>(H a).isSome
def zAF (h:Heap) (H:Hp):Heap:=PySem.W.hideAll h (trk h H)
theorem zIY (h:Heap) (H:Hp):(zAF h H).objs.size=h.objs.size:=PySem.W.hideAll_size _ _
theorem zLO {h:Heap} {H:Hp} {b:Addr} {o:Obj} (e:h.get? b=some o) (n:H b=none):(zAF h H).get? b=some o:=
 PySem.W.hideAll_get _ e λhm=>by
  have q:(H b).isSome=true:=(QD.mp hm).2;rw [n] at q; simp at q
theorem zNW {h:Heap} {H:Hp} {b:Addr} {o:Obj} (e:(zAF h H).get? b=some o):h.get? b=some o/\H b=none:=by
 have e':h.get? b=some o:=PySem.W.of_hideAll (trk h H) e;refine ⟨e',?_⟩;cases q:H b with
 | none=>rfl
 | some x=>
  have hm:b∈trk h H:=QD.mpr ⟨QP.mpr (Heap.lt_size e'),by simp [q]⟩;have z:(zAF h H).get? b=none:=PySem.W.hideAll_none (trk h H) hm;rw [z] at e; cases e
end L2
namespace L2
open PySem PySem.Spec PyProof.Rows
structure Mod (K:PySem.W.Frag) (mg:Str->Option Value) (base:Heap):Prop where
 kin:K.In base
 glob:base.Ns mainGlobals mg
 blt:∃mb,base.Ns builtinsNs mb/\∀x:Str,x≠"__name__"->mb x=bootBuiltins x
 nolimit:base.NoLimit
structure Cx where
 prog:Program
 w:World
 K:PySem.W.Frag
 mg:Str->Option Value
 base:Heap
 A:Around
 N:List Str
 s₀:Shared
 H₀:Hp
 env:Env
 outer:List Env
 stack:List Env
 ex:List Addr
 fn:Str->Bool
 calm:Bool
 pn:List (Addr×Obj)
 xe:Value->Shared->Prop
def yP (l:List Env):List Addr:=l.filterMap (·.frame)
abbrev Cx.fs (X:Cx):List Addr:=yP X.outer
def Vis (sc:Scope) (x:Str):Prop:=sc.names.lookup x=some .local\/sc.names.lookup x=some .cell\/sc.names.lookup x=some .free
def Loc (sc:Scope) (x:Str):Prop:=sc.names.lookup x=some .local\/sc.names.lookup x=some .cell
def zSQ (env:Env) (h:Heap) (m:Str->Option Value) (x:Str) (u:Value):Prop:=
 (env.kindOf x=some .local/\m x=some u)\/((env.kindOf x=some .cell\/env.kindOf x=some .free)/\∃c,env.cells.lookup x=some c/\h.IsCell c (some u))
structure Cx.Ok (X:Cx):Prop where
 mod:Mod X.K X.mg X.base
 kind:X.env.scope.kind= .function
 glob:X.env.globals=mainGlobals
 blt:X.env.builtins=builtinsNs
 above:X.s₀.heap.objs.size≤X.env.locals
 inj:∀x y c,X.env.cells.lookup x=some c->X.env.cells.lookup y=some c->x=y
 has:∀x,(X.env.kindOf x=some .cell\/X.env.kindOf x=some .free)->∃c,X.env.cells.lookup x=some c
 cab:∀x c,X.fn x=true->X.env.cells.lookup x=some c->X.s₀.heap.objs.size≤c
 hd:X.calm=true->X.A.handled=none
 frames:X.A.frames=some X.stack
 stk:X.stack=X.outer\/(X.stack=X.env::X.outer/\X.env.frame=some X.env.locals)
 exf:∀b∈X.ex,b≠X.env.locals/\∀x c,X.env.cells.lookup x=some c->c≠b
 bs:∀b o,X.base.get? b=some o->X.s₀.heap.get? b=some o/\X.H₀ b=none
 bsz:X.base.objs.size≤X.s₀.heap.objs.size
 noex:∀b o,X.base.get? b=some o->b∉X.ex
 exfs:∀b∈X.ex,b∉X.fs
 funs:X.s₀.heap.FunFrames X.base X.outer
 frf:∀b∈X.fs,X.H₀ b=none
structure zN (X:Cx) (pins:List (Addr×Obj)) (σ:List (Option V)) (H:Hp) (s:Shared):Prop where
 ok:X.Ok
 os:s.os=X.s₀.os
 bare:AllBare s.gens
 base:Un X.fs X.ex X.H₀ H X.s₀.heap s.heap
 loc:∃m,s.heap.Ns X.env.locals m/\∀(i:Nat) (x:Str) (v:V),X.N[i]?=some x->σ[i]?=some (some v)->Vis X.env.scope x->∃u,zn v u/\zSQ X.env s.heap m x u
 cell:∀x c,X.env.cells.lookup x=some c->∃v,s.heap.IsCell c v
 free:H X.env.locals=none
 freeC:∀x c,X.env.cells.lookup x=some c->H c=none
 pin:∀p∈X.pn++pins,s.heap.get? p.1=some p.2/\H p.1=none/\p.1≠X.env.locals/\p.1∉X.fs/\∀v,p.2.data≠ .cell v
 hok:yV X.prog X.w H s.heap
 len:σ.length=X.N.length
section
variable {X:Cx} {pins:List (Addr×Obj)} {σ:List (Option V)} {H H':Hp} {s:Shared} {h':Heap}
theorem Cx.Ok.nofr (ok:X.Ok) {b:Addr} {o:Obj} (e:X.base.get? b=some o):b∉X.fs:=λhb=>by
 have:=(ok.funs.mem hb).1;rw [e] at this; cases this
theorem zN.bs (I:zN X pins σ H s):∀b o,X.base.get? b=some o->s.heap.get? b=some o/\H b=none:=λb o e=>
 ⟨I.base.keep b o (I.ok.bs b o e).1 (I.ok.bs b o e).2 (I.ok.nofr e) (I.ok.noex b o e),I.base.free b o (I.ok.bs b o e).1 (I.ok.bs b o e).2 (I.ok.noex b o e)⟩
theorem zN.bk (I:zN X pins σ H s):∀b o,X.base.get? b=some o->s.heap.get? b=some o:=λb o e=>(I.bs b o e).1
theorem zN.mod (I:zN X pins σ H s):Mod X.K X.mg X.base:=I.ok.mod
theorem zN.kIn (I:zN X pins σ H s):X.K.In s.heap:=I.ok.mod.kin.keeps I.bk
theorem zN.lt (I:zN X pins σ H s):X.env.locals<s.heap.objs.size:=let ⟨_,hn,_⟩:=I.loc; hn.lt
theorem zN.sz (I:zN X pins σ H s):X.s₀.heap.objs.size≤s.heap.objs.size:=qK I.ok.above (xK I.lt)
theorem zN.nofs (I:zN X pins σ H s) {a:Addr} (h:s.heap.objs.size≤a):a∉X.fs:=λhb=>by
 obtain ⟨_,o,ho,_⟩:=I.ok.funs.mem hb;exact absurd (qP (Heap.lt_size ho) (qK I.sz h)) (XA _)
theorem zN.cne (I:zN X pins σ H s):∀x c,X.env.cells.lookup x=some c->c≠X.env.locals:=λx c e z=>by
 obtain ⟨v,o,ho,hd⟩:=I.cell x c e;obtain ⟨m,⟨o',es,ep,ho',hd',_⟩,_⟩:=I.loc;rw [z,ho'] at ho; cases ho; rw [hd'] at hd; cases hd
theorem zN.funs (I:zN X pins σ H s):s.heap.FunFrames X.base X.outer:=by
 have all:∀(l:List Env),(∀b∈yP l,b∈X.fs)->X.s₀.heap.FunFrames X.base l->s.heap.FunFrames X.base l:=by
  intro l
  induction l with
  | nil=>intro _ _; trivial
  | cons env r ih=>
   intro hs hl;obtain ⟨hk,⟨L,o,hf,hn,ho,hd⟩,hr⟩:=hl;have hL:L∈X.fs:=hs L (by unfold yP; rw [XJ,hf]; exact qD);obtain ⟨sl,e⟩:=I.base.slot L o ho (I.ok.frf L hL) hL λz=>I.ok.exfs L z hL
   exact ⟨hk,⟨L,_,hf,hn,e,hd⟩,ih (λb hb=>hs b (by unfold yP; rw [XJ,hf]; exact qF _ hb)) hr⟩
 exact all X.outer (λ_ hb=>hb) I.ok.funs
theorem zN.stack (I:zN X pins σ H s):s.heap.FunFrames X.base X.stack:=by
 rcases I.ok.stk with e | ⟨e,hf⟩
 ·rw [e]; exact I.funs
 ·rw [e]
  obtain ⟨m,hn,_⟩:=I.loc;refine .cons (by rw [I.ok.kind]; decide) hf hn ?_ I.funs;exact Heap.get?_none_of_le (qK I.ok.bsz I.ok.above)
theorem zN.stkSub (I:zN X pins σ H s):∀b∈yP X.stack,b∈X.env.locals::X.fs:=λb hb=>by
 rcases I.ok.stk with e | ⟨e,hf⟩
 ·rw [e] at hb; exact qF _ hb
 ·rw [e] at hb
  unfold yP at hb;rw [XJ,hf] at hb;exact hb
theorem zN.stkFree (I:zN X pins σ H s):∀b∈yP X.stack,H b=none:=λb hb=>by
 rcases qG.mp (I.stkSub b hb) with e | hb
 ·rw [e]; exact I.free
 ·obtain ⟨_,o,ho,_⟩:=I.ok.funs.mem hb
  exact I.base.free b o ho (I.ok.frf b hb) λz=>I.ok.exfs b z hb
theorem zN.step {g':Array GenState} {t':Nat} {d':Drawn} {ch:List Addr} (I:zN X pins σ H s)
  (hch:∀b∈ch,(b∈X.ex\/X.s₀.heap.objs.size≤b)/\b≠X.env.locals/\(∀x c,X.env.cells.lookup x=some c->c≠b)/\∀p∈X.pn++pins,p.1≠b)
  (keep:∀b o,b≠X.env.locals->b∉X.fs->b∉ch->s.heap.get? b=some o->H b=none->h'.get? b=some o)
  (slot:∀b o,b≠X.env.locals->b∈X.fs->b∉ch->s.heap.get? b=some o->H b=none->∃sl,h'.get? b=some {o with slots:=sl}) (free:∀b o,b∉ch->s.heap.get? b=some o->H b=none->H' b=none)
  (there:∀b o,b∉ch->s.heap.get? b=some o->∃o',h'.get? b=some o')
  (tups:∀b xs,H b=some (.tup xs)->H' b=some (.tup xs)) (frzs:∀b o u,H b=some (.frz o u)->H' b=some (.frz o u)) (tbls:∀b ps,H b=some (.tbl ps)->∃more,H' b=some (.tbl (ps++more)))
  (ns:∀m,s.heap.Ns X.env.locals m->h'.Ns X.env.locals m) (hok:yV X.prog X.w H' h') (hg:AllBare g'):
  zN X pins σ H' {s with heap:=h',gens:=g',drawn:=d',toks:=t'}:=by
 have neL:∀b o,X.s₀.heap.get? b=some o->b≠X.env.locals:=λb o e=>qT (qP (Heap.lt_size e) I.ok.above)
 have neC:∀b o,X.s₀.heap.get? b=some o->b∉X.ex->b∉ch:=λb o e hx hb=>by
  rcases (hch b hb).1 with z | z
  ·exact hx z
  ·exact absurd (qP (Heap.lt_size e) z) (XA _)
 have cellK:∀x c,X.env.cells.lookup x=some c->∀v,s.heap.IsCell c v->h'.IsCell c v:=λx c e v ⟨o,ho,hd⟩=>by
  have nch:c∉ch:=λz=>(hch c z).2.2.1 x c e rfl
  by_cases hc:c∈X.fs
  ·obtain ⟨sl,q⟩:=slot c o (I.cne x c e) hc nch ho (I.freeC x c e)
   exact ⟨_,q,hd⟩
  ·exact ⟨o,keep c o (I.cne x c e) hc nch ho (I.freeC x c e),hd⟩
 refine ⟨I.ok,I.os,hg,⟨λb o e n hb hx=>?_,λb o e n hb hx=>?_,λb o e n hx=>?_,λb o e hx=>?_,λb xs e=>tups b xs (I.base.tups b xs e),λb o xs e=>frzs b o xs (I.base.frzs b o xs e),λb ps e=>?_⟩,?_,λx c e=>?_,?_,λx c e=>?_,λp hp=>?_,hok,I.len⟩
 ·exact keep b o (neL b o e) hb (neC b o e hx) (I.base.keep b o e n hb hx) (I.base.free b o e n hx)
 ·obtain ⟨sl,e1⟩:=I.base.slot b o e n hb hx
  obtain ⟨sl',e2⟩:=slot b _ (neL b o e) hb (neC b o e hx) e1 (I.base.free b o e n hx);exact ⟨sl',e2⟩
 ·obtain ⟨o',e1⟩:=I.base.there b o e hx
  exact free b o' (neC b o e hx) e1 (I.base.free b o e n hx)
 ·obtain ⟨o',e1⟩:=I.base.there b o e hx
  exact there b o' (neC b o e hx) e1
 ·obtain ⟨m1,e1⟩:=I.base.tbls b ps e
  obtain ⟨m2,e2⟩:=tbls b _ e1;exact ⟨m1++m2,by rw [e2,Array.append_assoc]⟩
 ·obtain ⟨m,hn,hl⟩:=I.loc
  refine ⟨m,ns m hn,λi x v e1 e2 e3=>?_⟩;obtain ⟨u,r,l⟩:=hl i x v e1 e2 e3;refine ⟨u,r,?_⟩;rcases l with l | ⟨k,c,e,z⟩
  ·exact .inl l
  ·exact .inr ⟨k,c,e,cellK x c e _ z⟩
 ·obtain ⟨v,z⟩:=I.cell x c e
  exact ⟨v,cellK x c e v z⟩
 ·obtain ⟨m,⟨o,_,_,ho,_⟩,_⟩:=I.loc
  exact free _ o (λz=>(hch _ z).2.1 rfl) ho I.free
 ·obtain ⟨v,o,ho,hd⟩:=I.cell x c e
  exact free c o (λz=>(hch c z).2.2.1 x c e rfl) ho (I.freeC x c e)
 ·obtain ⟨e,n,ne,nf,d⟩:=I.pin p hp
  have nch:p.1∉ch:=λz=>(hch p.1 z).2.2.2 p hp rfl
  exact ⟨keep p.1 p.2 ne nf nch e n,free p.1 p.2 nch e n,ne,nf,d⟩
theorem zN.un {t':Nat} (I:zN X pins σ H s) (u:Un X.fs [] H H' s.heap h') (hok:yV X.prog X.w H' h'):zN X pins σ H' {s with heap:=h',toks:=t'}:=by
 obtain ⟨m,⟨o,es,ep,ho,r⟩,_⟩:=id I.loc;obtain ⟨sl,hL⟩:=u.any ho I.free (by simp);exact I.step (g':=s.gens) (d':=s.drawn) (ch:=[]) (λ_ z=>nomatch z) (λb o _ hb _ e n=>u.keep b o e n hb (by simp)) (λb o _ hb _ e n=>u.slot b o e n hb (by simp)) (λb o _ e n=>u.free b o e n (by simp)) (λb o _ e=>u.there b o e (by simp)) u.tups u.frzs u.tbls (λm' hm=>by
  obtain ⟨o',es',ep',ho',r'⟩:=hm;rw [ho] at ho'; cases ho';exact ⟨_,es',ep',hL,r'⟩) hok I.bare
theorem zN.call {g':Array GenState} {t':Nat} {d':Drawn} {ch:List Addr} (I:zN X pins σ H s) (u:Un (yP X.stack) ch H H' s.heap h') (hok:yV X.prog X.w H' h') (hg:AllBare g')
  (hch:∀b∈ch,(b∈X.ex\/X.s₀.heap.objs.size≤b)/\b≠X.env.locals/\(∀x c,X.env.cells.lookup x=some c->c≠b)/\∀p∈X.pn++pins,p.1≠b):
  zN X pins σ H' {s with heap:=h',gens:=g',drawn:=d',toks:=t'}:=by
 obtain ⟨m,⟨o,es,ep,ho,r⟩,_⟩:=id I.loc;obtain ⟨sl,hL⟩:=u.any ho I.free λz=>(hch _ z).2.1 rfl
 exact I.step (ch:=ch) hch (λb o hL hb hc e n=>u.keep b o e n (λz=>(qG.mp (I.stkSub b z)).elim hL hb) hc) (λb o _ _ hc e n=>u.any e n hc) (λb o hc e n=>u.free b o e n hc) (λb o hc e=>u.there b o e hc) u.tups u.frzs u.tbls (λm' hm=>by
  obtain ⟨o',es',ep',ho',r'⟩:=hm;rw [ho] at ho'; cases ho';exact ⟨_,es',ep',hL,r'⟩) hok hg
theorem zN.turned {t':Nat} {it:Addr} (I:zN X pins σ H s) (k:∀b o,b≠it->s.heap.get? b=some o->h'.get? b=some o) (hn:H it=none) (hL:it≠X.env.locals)
  (h1:it∈X.ex\/X.s₀.heap.objs.size≤it) (h2:∀x c,X.env.cells.lookup x=some c->c≠it) (h3:∀p∈X.pn++pins,p.1≠it):zN X pins σ H {s with heap:=h',toks:=t'}:=by
 have nit:∀b u,H b=some u->b≠it:=λb u e z=>by rw [z,hn] at e; cases e
 refine I.step (g':=s.gens) (d':=s.drawn) (ch:=[it]) (λb hb=>?_) (λb o _ _ hc e _=>k b o (λz=>hc (by simp [z])) e) (λb o _ _ hc e _=>⟨o.slots,k b o (λz=>hc (by simp [z])) e⟩) (λ_ _ _ _ n=>n)
  (λb o hc e=>⟨o,k b o (λz=>hc (by simp [z])) e⟩) (λ_ _ e=>e) (λ_ _ _ e=>e) (λb ps e=>⟨#[],by rw [e]; simp⟩) (λm hm=>?_) (λb u e=>?_) I.bare
 ·have e:b=it:=by simpa using hb
  subst e;exact ⟨h1,hL,h2,h3⟩
 ·obtain ⟨o,es,ep,ho,r⟩:=hm
  exact ⟨o,es,ep,k _ o (Ne.symm hL) ho,r⟩
 ·refine (I.hok b u e).stay (λc v hc q=>k c v ?_ q) (λ_ q=>q) λ_ _ q=>q
  rcases hc with z | z
  ·rw [z]; exact nit b u e
  ·exact nit c _ z
theorem zN.tok (I:zN X pins σ H s) (t:Nat):zN X pins σ H {s with toks:=t}:=I.un (h':=s.heap) (t':=t) Un.refl I.hok
theorem zN.kept {t':Nat} (I:zN X pins σ H s) (k:∀b u,s.heap.get? b=some u->h'.get? b=some u):zN X pins σ H {s with heap:=h',toks:=t'}:=I.un (Un.kept k) (I.hok.kept k)
theorem zN.laid {a:Addr} {o:HO} {t':Nat} (I:zN X pins σ H s) (k:∀b u,s.heap.get? b=some u->h'.get? b=some u) (hp:s.heap.objs.size≤a) (new:ZU X.prog X.w (upd H a o) h' a o):
  zN X pins σ (upd H a o) {s with heap:=h',toks:=t'}:=I.un (Un.laid k hp (I.hok.fresh hp)) (I.hok.laid k hp new)
theorem zN.write {x e:Addr} {o:HO} {t':Nat} (I:zN X pins σ H s) (mu:Mut (H x)) (he:e=x\/H e=some (.own x)) (k:∀b u,b≠e->s.heap.get? b=some u->h'.get? b=some u) (heo:∃u,h'.get? e=some u)
  (new:ZU X.prog X.w (upd H x o) h' x o):zN X pins σ (upd H x o) {s with heap:=h',toks:=t'}:=I.un (Un.write mu he k heo) (I.hok.write mu he k heo new)
theorem zN.pins_of {pins':List (Addr×Obj)} (I:zN X pins σ H s) (h:∀p∈pins',s.heap.get? p.1=some p.2/\H p.1=none/\p.1≠X.env.locals/\p.1∉X.fs/\∀v,p.2.data≠ .cell v):zN X pins' σ H s:=
 ⟨I.ok,I.os,I.bare,I.base,I.loc,I.cell,I.free,I.freeC,λp hp=>(qO.mp hp).elim (λz=>I.pin p (List.mem_append_left _ z)) (h p),I.hok,I.len⟩
theorem zBj {N:List Str} (hN:N.Nodup) {i j:Nat} {x:Str} (a:N[i]?=some x) (b:N[j]?=some x):i=j:=by
 obtain ⟨h1,e1⟩:=qZ.mp a;obtain ⟨h2,e2⟩:=qZ.mp b;exact (List.getElem_inj hN).mp (e1.trans e2.symm)
theorem zDu {M:Model} {A:Around} {E:Value->Shared->Prop} {i:Nat} {x:Str} {v:V} {u:Value} {Q:Unit->Shared->Prop} (I:zN X pins σ H s) (hN:X.N.Nodup) (hi:X.N[i]?=some x) (hx:Loc X.env.scope x) (r:zn v u)
  (h:∀s',zN X pins (σ.set i (some v)) H s'->(∃a,Heap.SameBut a s.heap s'.heap/\(a=X.env.locals\/X.env.cells.lookup x=some a))->Q () s') (hf:X.fn x=true\/X.env.scope.names.lookup x=some .local:=by first | exact .inl rfl | exact .inr rfl | assumption):wpAny M A (storeName X.env x u) Q E s:=by
 obtain ⟨m,hn,hl⟩:=id I.loc;have hcls:(X.env.scope.kind== .class||(X.env.scope.kind== .module&&X.env.locals !=X.env.globals))=false:=by rw [I.ok.kind]; rfl
 have hiσ:i<σ.length:=by rw [I.len]; exact (qZ.mp hi).1
 have cne:=I.cne;have tracked:∀{a:Addr} {h':Heap},(∃o,s.heap.get? a=some o/\H a=none)->Heap.SameBut a s.heap h'->yV X.prog X.w H h':=λ{a h'} ha hs b ob e=>by
  obtain ⟨_,_,hfree⟩:=ha;refine (I.hok b ob e).stay (λc w' hc q=>(hs.2 c ?_).trans q) (λ_ q=>q) λ_ _ q=>q
  rintro rfl;rcases hc with rfl | hc
  ·rw [hfree] at e; cases e
  ·rw [hfree] at hc; cases hc
 rcases hx with hk | hk
 ·refine wpAny_storeName_local hk hn (λh' hn' hs=>?_) hcls
  obtain ⟨oL,_,_,hoL,_⟩:=id hn;refine h _ ⟨I.ok,I.os,I.bare,⟨λb o e n hb hx=>?_,λb o e n hb hx=>?_,I.base.free,λb o e hx=>?_,I.base.tups,I.base.frzs,I.base.tbls⟩,⟨_,hn',λj y v' e1 e2 e3=>?_⟩,λy c e=>?_,I.free,I.freeC,λp hp=>?_,tracked ⟨oL,hoL,I.free⟩ hs,by simpa using I.len⟩ ⟨_,hs, .inl rfl⟩
  ·exact (hs.2 b (qT (qP (Heap.lt_size e) I.ok.above))).trans (I.base.keep b o e n hb hx)
  ·obtain ⟨sl,e1⟩:=I.base.slot b o e n hb hx
   exact ⟨sl,(hs.2 b (qT (qP (Heap.lt_size e) I.ok.above))).trans e1⟩
  ·obtain ⟨o',e1⟩:=I.base.there b o e hx
   exact ⟨o',(hs.2 b (qT (qP (Heap.lt_size e) I.ok.above))).trans e1⟩
  ·by_cases hj:j=i
   ·subst hj
    rw [hi] at e1; cases e1;rw [xP hiσ] at e2;cases e2;exact ⟨u,r, .inl ⟨hk,by simp⟩⟩
   ·rw [XQ (Ne.symm hj)] at e2
    obtain ⟨u',r',q⟩:=hl j y v' e1 e2 e3;refine ⟨u',r',?_⟩;rcases q with ⟨k,e⟩ | ⟨k,c,e,z⟩
    ·refine .inl ⟨k,?_⟩
     have:y≠x:=λe=>hj (zBj hN e1 (e▸hi))
     simp [this,e]
    ·exact .inr ⟨k,c,e,z.sameBut hs (cne y c e)⟩
  ·obtain ⟨w',z⟩:=I.cell y c e
   exact ⟨w',z.sameBut hs (cne y c e)⟩
  ·obtain ⟨e,n,ne,nf,d⟩:=I.pin p hp
   exact ⟨(hs.2 p.1 ne).trans e,n,ne,nf,d⟩
 ·have hfn:X.fn x=true:=by
   rcases hf with z | z
   ·exact z
   ·rw [z] at hk; cases hk
  obtain ⟨c,hc⟩:=I.ok.has x (.inl hk);obtain ⟨w',z⟩:=I.cell x c hc;refine wpAny_storeName_cell I.ok.kind hk hc z (λh' hc' hs=>?_);obtain ⟨oc,hoc,hocd⟩:=id z;refine h {s with heap:=h'} ⟨I.ok,I.os,I.bare,⟨λb o e n hb hx=>?_,λb o e n hb hx=>?_,I.base.free,λb o e hx=>?_,I.base.tups,I.base.frzs,I.base.tbls⟩,⟨m,hn.sameBut hs (Ne.symm (cne x c hc)),λj y v' e1 e2 e3=>?_⟩,λy c' e=>?_,I.free,I.freeC,λp hp=>?_,tracked ⟨oc,hoc,I.freeC x c hc⟩ hs,by simpa using I.len⟩ ⟨c,hs, .inr hc⟩
  ·exact (hs.2 b (qT (qP (Heap.lt_size e) (I.ok.cab x c hfn hc)))).trans (I.base.keep b o e n hb hx)
  ·obtain ⟨sl,e1⟩:=I.base.slot b o e n hb hx
   exact ⟨sl,(hs.2 b (qT (qP (Heap.lt_size e) (I.ok.cab x c hfn hc)))).trans e1⟩
  ·obtain ⟨o',e1⟩:=I.base.there b o e hx
   exact ⟨o',(hs.2 b (qT (qP (Heap.lt_size e) (I.ok.cab x c hfn hc)))).trans e1⟩
  ·by_cases hj:j=i
   ·subst hj
    rw [hi] at e1; cases e1;rw [xP hiσ] at e2;cases e2;exact ⟨u,r, .inr ⟨.inl hk,c,hc,hc'⟩⟩
   ·rw [XQ (Ne.symm hj)] at e2
    obtain ⟨u',r',q⟩:=hl j y v' e1 e2 e3;refine ⟨u',r',?_⟩;rcases q with q | ⟨k,c',e,z'⟩
    ·exact .inl q
    ·refine .inr ⟨k,c',e,z'.sameBut hs ?_⟩
     rintro rfl;exact hj (zBj hN e1 (I.ok.inj _ _ _ e hc▸hi))
  ·by_cases hcc:c'=c
   ·subst hcc; exact ⟨_,hc'⟩
   ·obtain ⟨w2,z2⟩:=I.cell y c' e
    exact ⟨w2,z2.sameBut hs hcc⟩
  ·obtain ⟨e,n,ne,nf,d⟩:=I.pin p hp
   refine ⟨(hs.2 p.1 ?_).trans e,n,ne,nf,d⟩;intro q;rw [q,hoc] at e;have q':oc=p.2:=Option.some.inj e;exact d w' (by rw [<-q']; exact hocd)
theorem JW {M:Model} {A:Around} {E:Value->Shared->Prop} {i:Nat} {x:Str} {v:V} {u:Value} {Q:Unit->Shared->Prop} (I:zN X pins σ H s) (hN:X.N.Nodup) (hi:X.N[i]?=some x) (hx:Loc X.env.scope x) (r:zn v u)
  (h:∀s',zN X pins (σ.set i (some v)) H s'->Q () s') (hf:X.fn x=true\/X.env.scope.names.lookup x=some .local:=by first | exact .inl rfl | exact .inr rfl | assumption):wpAny M A (storeName X.env x u) Q E s:=
 zDu I hN hi hx r (λs' I' _=>h s' I') hf
theorem zN.call' {s':Shared} {ch:List Addr} (I:zN X pins σ H s) (ho:s'.os=s.os) (u:Un (yP X.stack) ch H H' s.heap s'.heap) (hok:yV X.prog X.w H' s'.heap) (hg:AllBare s'.gens)
  (hch:∀b∈ch,(b∈X.ex\/X.s₀.heap.objs.size≤b)/\b≠X.env.locals/\(∀x c,X.env.cells.lookup x=some c->c≠b)/\∀p∈X.pn++pins,p.1≠b):zN X pins σ H' s':=by
 obtain ⟨h',g',d',t',o'⟩:=s';have e:o'=s.os:=ho;subst e;exact I.call (g':=g') (t':=t') (d':=d') u hok hg hch
end
abbrev XK:=Value->Option Addr->Hp->Prop
abbrev St:=List (Option V)
abbrev VK:=V->Hp->Prop
abbrev TE:=St->Hp->VK->Prop
abbrev TT:=St->Hp->(Bool->Hp->Prop)->Prop
abbrev TA:=St->Hp->(List V->Hp->Prop)->Prop
structure Ym where
 nx:St->Hp->Prop
 rt:VK
 bk:St->Hp->Prop:=λ_ _=>False
 ct:St->Hp->Prop:=λ_ _=>False
abbrev TS:=Ym->St->Hp->Prop
def EP (X:Cx) (pins:List (Addr×Obj)) (σ:St) (Q:VK) (u:Value) (s':Shared):Prop:=∃v H',zN X pins σ H' s'/\zn v u/\Q v H'
def TP (X:Cx) (pins:List (Addr×Obj)) (σ:St) (Q:Bool->Hp->Prop) (b:Bool) (s':Shared):Prop:=∃H',zN X pins σ H' s'/\Q b H'
def AP (X:Cx) (pins:List (Addr×Obj)) (σ:St) (Q:List V->Hp->Prop) (us:List Value) (s':Shared):Prop:=∃vs H',zN X pins σ H' s'/\zi vs us/\Q vs H'
def SP (X:Cx) (pins:List (Addr×Obj)) (D:Ym) (f:Flow) (s':Shared):Prop:=
 match f with
 | .next=>∃σ' H',zN X pins σ' H' s'/\D.nx σ' H'
 | .brk=>∃σ' H',zN X pins σ' H' s'/\D.bk σ' H'
 | .cont=>∃σ' H',zN X pins σ' H' s'/\D.ct σ' H'
 | .ret u=>∃v σ' H',zN X pins σ' H' s'/\zn v u/\D.rt v H'
def PE (X:Cx) (e:Expr) (t:TE):Prop:=
 ∀(pins:List (Addr×Obj)) (s:Shared) (σ:St) (H:Hp) (Q:VK),zN X pins σ H s->t σ H Q->wpAny (model X.prog X.w) X.A (eval e X.env) (EP X pins σ Q) X.xe s
def PT (X:Cx) (e:Expr) (t:TT):Prop:=
 ∀(pins:List (Addr×Obj)) (s:Shared) (σ:St) (H:Hp) (Q:Bool->Hp->Prop),zN X pins σ H s->t σ H Q->wpAny (model X.prog X.w) X.A (isTrue e X.env (eval e X.env)) (TP X pins σ Q) X.xe s
def PW (X:Cx) (e:Expr) (t:TT):Prop:=
 ∀(whole:Sem Value) (pins:List (Addr×Obj)) (s:Shared) (σ:St) (H:Hp) (Q:Bool->Hp->Prop),zN X pins σ H s->t σ H Q->wpAny (model X.prog X.w) X.A (isTrue e X.env whole) (TP X pins σ Q) X.xe s
theorem PW.pt {X:Cx} {e:Expr} {t:TT} (h:PW X e t):PT X e t:=h _
def PA (X:Cx) (es:List Expr) (t:TA):Prop:=
 ∀(pos:Pos) (pins:List (Addr×Obj)) (s:Shared) (σ:St) (H:Hp) (Q:List V->Hp->Prop),zN X pins σ H s->t σ H Q->wpAny (model X.prog X.w) X.A (spliced (backTo pos (starEach es X.env))) (AP X pins σ Q) X.xe s
def PS (X:Cx) (st:Stmt) (t:TS):Prop:=
 ∀(pins:List (Addr×Obj)) (s:Shared) (σ:St) (H:Hp) (D:Ym),zN X pins σ H s->t D σ H->wpAny (model X.prog X.w) X.A (exec st X.env) (SP X pins D) X.xe s
def Yl (X:Cx) (st:List Stmt) (t:TS):Prop:=
 ∀(pins:List (Addr×Obj)) (s:Shared) (σ:St) (H:Hp) (D:Ym),zN X pins σ H s->t D σ H->wpAny (model X.prog X.w) X.A (execs st X.env) (SP X pins D) X.xe s
theorem zj {α:Type} {t:Sem α} {Q Q':α->Shared->Prop} {M:Model} {A:Around} {E:Value->Shared->Prop} {s:Shared} (h:wpAny M A t Q E s) (hQ:∀a s,Q a s->Q' a s):wpAny M A t Q' E s:=wpAny_mono h hQ λ_ _ x=>x
end L2
namespace L2
open PySem PySem.Spec PyProof.Rows
section
variable {X:Cx}
def zCE (i:Nat):TE:=λσ H Q=>∃v,σ[i]?=some (some v)/\Q v H
def tC (v:V):TE:=λ_ H Q=>Q v H
theorem zOe {i:Nat} {x:Str} {pos:Pos} (hN:X.N[i]?=some x) (hv:Vis X.env.scope x) (hd:(x==("__debug__":Str))=false:=by decide) (hcd:(x==("__classdict__":Str))=false:=by decide):PE X (.Name x pos) (zCE i):=by
 intro pins s σ H Q I h;obtain ⟨v,e,h⟩:=h;obtain ⟨m,hn,hl⟩:=I.loc;obtain ⟨u,r,l⟩:=hl i x v hN e hv;have fin:EP X pins σ Q u s:=⟨v,H,I,r,h⟩;rcases l with ⟨hk,hm⟩ | ⟨hk,c,hc,hcell⟩
 ·exact wpAny_Name (wpAny_loadName_local I.ok.kind hk hn hm fin) hd
 ·rcases hk with hk | hk
  ·exact wpAny_Name (wpAny_loadName_cell I.ok.kind hk hc hcell fin) hd
  ·exact wpAny_Name (wpAny_loadName_free I.ok.kind hk hc hcell fin hcd) hd
theorem zK {i j pos}:PE X (.Constant (.int i) j pos) (tC (.int i)):=λ_ _ _ H _ I h=>wpAny_Constant_int ⟨.int i,H,I.tok _,⟨_,rfl⟩,h⟩
theorem yW {b j pos}:PE X (.Constant (.bool b) j pos) (tC (.bl b)):=λ_ _ _ H _ I h=>Constant_bool ⟨.bl b,H,I,rfl,h⟩
theorem jH {j pos}:PE X (.Constant .none j pos) (tC .non):=λ_ _ _ H _ I h=>Constant_none ⟨.non,H,I,rfl,h⟩
theorem zV {x j pos}:PE X (.Constant (.str x) j pos) (tC (.str x)):=λ_ _ _ H _ I h=>Calls.Constant_str ⟨.str x,H,I.tok _,⟨_,rfl⟩,h⟩
def Gl (X:Cx) (x:Str):Prop:=X.env.kindOf x=some .globalImplicit
theorem jh {E:Value->Shared->Prop} {pins:List (Addr×Obj)} {s:Shared} {σ:St} {H:Hp} {x:Str} {u:Value} {pos:Pos} {Q:Value->Shared->Prop} (I:zN X pins σ H s) (hg:Gl X x) (hm:X.mg x=some u) (h:Q u s)
  (hd:(x==("__debug__":Str))=false:=by decide):wpAny (model X.prog X.w) X.A (eval (.Name x pos) X.env) Q E s:=
 Calls.Name_function_global I.ok.kind hg (Calls.loadGlobal_global (by rw [I.ok.glob]; exact I.mod.glob.keeps I.bk) hm h) hd
theorem Yc {E:Value->Shared->Prop} {pins:List (Addr×Obj)} {s:Shared} {σ:St} {H:Hp} {x:Str} {u:Value} {pos:Pos} {Q:Value->Shared->Prop} (I:zN X pins σ H s) (hg:Gl X x) (hm:X.mg x=none) (hv:bootBuiltins x=some u) (h:Q u s)
  (hn:x≠"__name__":=by decide) (hd:(x==("__debug__":Str))=false:=by decide):wpAny (model X.prog X.w) X.A (eval (.Name x pos) X.env) Q E s:=by
 obtain ⟨mb,h1,h2⟩:=I.mod.blt;exact Calls.Name_function_global I.ok.kind hg (Calls.loadGlobal_builtin (by rw [I.ok.glob]; exact I.mod.glob.keeps I.bk) hm (by rw [I.ok.blt]; exact h1.keeps I.bk) ((h2 x hn).trans hv) h) hd
theorem zr {x:Str} {v:V} {u:Value} {pos:Pos} (hg:Gl X x) (hm:X.mg x=some u) (r:zn v u) (hd:(x==("__debug__":Str))=false:=by decide):PE X (.Name x pos) (tC v):=
 λ_ _ _ H _ I h=>jh I hg hm ⟨v,H,I,r,h⟩ hd
theorem jC {x:Str} {v:V} {u:Value} {pos:Pos} (hg:Gl X x) (hm:X.mg x=none) (hv:bootBuiltins x=some u) (r:zn v u) (hn:x≠"__name__":=by decide) (hd:(x==("__debug__":Str))=false:=by decide):PE X (.Name x pos) (tC v):=
 λ_ _ _ H _ I h=>Yc I hg hm hv ⟨v,H,I,r,h⟩ hn hd
variable {a b:Expr} {ta tb:TE} {pos:Pos}
def PC (X:Cx) (op:CmpOp) (a b:Expr) (t:TE):Prop:=
 ∀(pins:List (Addr×Obj)) (s:Shared) (σ:St) (H:Hp) (Q:VK),zN X pins σ H s->t σ H Q->
  wpAny (model X.prog X.w) X.A (eval a X.env) (λv s₁=>wpAny (model X.prog X.w) X.A (eval b X.env) (λu s₂=>wpAny (model X.prog X.w) X.A (compareOp op v u) (EP X pins σ Q) X.xe s₂) X.xe s₁) X.xe s
def tB (t:TE):TT:=λσ H Q=>t σ H λx H1=>∃c,x= .bl c/\Q c H1
theorem jt {op:CmpOp} {t:TE} (h:PC X op a b t) (h1:behindInMarks op b=false:=by first | exact nobehind _ (by decide) (by decide) | rfl):PT X (.Compare a [op] [b] pos) (tB t):=by
 intro pins s σ H Q I hw;refine wpAny_isTrue_Compare1 (zj (h pins s σ H _ I hw) λv s1 h1=>zj h1 λu s2 h2=>zj h2 λc s3 ⟨x,H1,I1,r1,q1⟩=>?_) h1;obtain ⟨d,rfl,q⟩:=q1;cases r1;exact wpAny_truthy_bool ⟨H1,I1,q⟩
theorem Zf {e:Expr} {t:TE} (h:PE X e t) (he:∀whole,isTrue e X.env whole=(do let v <-whole; standAt e.pos; holding [v] (truthy v)):=by intro _; rfl):PT X e (tB t):=by
 intro pins s σ H Q I hw;refine isTrue_plain (zj (h pins s σ H _ I hw) λv s1 ⟨x,H1,I1,r1,q1⟩=>?_) (he _);obtain ⟨d,rfl,q⟩:=q1;cases r1;exact wpAny_truthy_bool ⟨H1,I1,q⟩
variable {tA tB':TT} {rest:List Expr}
def zSh (t u:TT):TT:=λσ H Q=>t σ H λc H1=>if c=true then u σ H1 Q else Q false H1
def tOr (t u:TT):TT:=λσ H Q=>t σ H λc H1=>if c=true then Q true H1 else u σ H1 Q
def zSY (t:TT):TT:=λσ H Q=>t σ H λc H1=>Q (!c) H1
theorem zBR (ha:PT X a tA):PW X (.BoolOp .And [a] pos) tA:=by
 intro wh pins s σ H Q I h;refine isTrue_and (zj (ha pins s σ H Q I h) λc s1 e=>?_);cases c with
 | true=>exact isTrue_and_nil e
 | false=>exact e
theorem YC (ha:PT X a tA):PW X (.BoolOp .Or [a] pos) tA:=by
 intro wh pins s σ H Q I h;refine isTrue_or (zj (ha pins s σ H Q I h) λc s1 e=>?_);cases c with
 | false=>exact isTrue_or_nil e
 | true=>exact e
theorem zAC (ha:PT X a tA) (hb:PW X (.BoolOp .And (b::rest) pos) tB'):PW X (.BoolOp .And (a::b::rest) pos) (zSh tA tB'):=by
 intro wh pins s σ H Q I h;refine isTrue_and (zj (ha pins s σ H _ I h) λc s1 ⟨H1,I1,q1⟩=>?_);cases c with
 | true=>exact hb wh pins s1 σ H1 Q I1 q1
 | false=>exact ⟨H1,I1,q1⟩
theorem Yd (ha:PT X a tA) (hb:PW X (.BoolOp .Or (b::rest) pos) tB'):PW X (.BoolOp .Or (a::b::rest) pos) (tOr tA tB'):=by
 intro wh pins s σ H Q I h;refine isTrue_or (zj (ha pins s σ H _ I h) λc s1 ⟨H1,I1,q1⟩=>?_);cases c with
 | true=>exact ⟨H1,I1,q1⟩
 | false=>exact hb wh pins s1 σ H1 Q I1 q1
theorem Zn (ha:PT X a tA):PT X (.UnaryOp .Not a pos) (zSY tA):=by
 intro pins s σ H Q I h;exact isTrue_not (ha pins s σ H (λc H1=>Q (!c) H1) I h)
def zRE (ta tb:TE):TE:=λσ H Q=>ta σ H λx H1=>∃c,x= .bl c/\if c=true then tb σ H1 Q else Q (.bl false) H1
def zSA (ta tb:TE):TE:=λσ H Q=>ta σ H λx H1=>∃c,x= .bl c/\if c=true then Q (.bl true) H1 else tb σ H1 Q
def zRc (ta:TE):TE:=λσ H Q=>ta σ H λx H1=>∃c,x= .bl c/\Q (.bl (!c)) H1
theorem Ya {op} {t:TE} (h:PE X a t):PE X (.BoolOp op [a] pos) t:=λpins s σ H Q I hw=>BoolOp_one (h pins s σ H Q I hw)
theorem Yv (ha:PE X a ta) (hb:PE X (.BoolOp .And (b::rest) pos) tb):PE X (.BoolOp .And (a::b::rest) pos) (zRE ta tb):=by
 intro pins s σ H Q I h;refine BoolOp_and (zj (ha pins s σ H _ I h) λv s1 ⟨x,H1,I1,r1,q1⟩=>?_);obtain ⟨c,rfl,q1⟩:=q1;cases r1;refine wpAny_truthy_bool ?_;cases c with
 | true=>exact hb pins s1 σ H1 Q I1 q1
 | false=>exact ⟨.bl false,H1,I1,rfl,q1⟩
theorem zMU (ha:PE X a ta) (hb:PE X (.BoolOp .Or (b::rest) pos) tb):PE X (.BoolOp .Or (a::b::rest) pos) (zSA ta tb):=by
 intro pins s σ H Q I h;refine BoolOp_or (zj (ha pins s σ H _ I h) λv s1 ⟨x,H1,I1,r1,q1⟩=>?_);obtain ⟨c,rfl,q1⟩:=q1;cases r1;refine wpAny_truthy_bool ?_;cases c with
 | false=>exact hb pins s1 σ H1 Q I1 q1
 | true=>exact ⟨.bl true,H1,I1,rfl,q1⟩
theorem zJs (ha:PE X a ta):PE X (.UnaryOp .Not a pos) (zRc ta):=by
 intro pins s σ H Q I h;refine UnaryOp_ (zj (ha pins s σ H _ I h) λv s1 ⟨x,H1,I1,r1,q1⟩=>?_);obtain ⟨c,rfl,q1⟩:=q1;cases r1;exact not_of (wpAny_truthy_bool ⟨.bl (!c),H1,I1,rfl,q1⟩)
def tIf (t:TT) (ta tb:TE):TE:=λσ H Q=>t σ H λc H1=>if c=true then ta σ H1 Q else tb σ H1 Q
theorem zAO {c:Expr} (hc:PT X c tA) (ha:PE X a ta) (hb:PE X b tb):PE X (.IfExp c a b pos) (tIf tA ta tb):=by
 intro pins s σ H Q I h;refine wpAny_IfExp (zj (hc pins s σ H _ I h) λd s1 ⟨H1,I1,q1⟩=>?_);cases d with
 | true=>exact ha pins s1 σ H1 Q I1 q1
 | false=>exact hb pins s1 σ H1 Q I1 q1
end
end L2
namespace L2
open PySem PySem.Spec PyProof.Rows
def zQ (K:PySem.W.Frag) (H:Hp) (a:Addr) (xs:List V):Prop:=
 Rd H a (.lst xs)\/
  ∃(o:Obj) (its:Array Value) (n:Nat),K.lookup a=some o/\o.cls= .type "list"/\o.dict=none/\o.data= .seq its n/\its.size≤sizeLine/\zi xs its.toList
def Zd (K:PySem.W.Frag) (H:Hp) (a:Addr) (xs:List V):Prop:=
 Rd H a (.tup xs)\/
  ∃(o:Obj) (its:Array Value) (n:Nat),K.lookup a=some o/\o.cls= .type "tuple"/\o.data= .seq its n/\its.size≤sizeLine/\zi xs its.toList
def zSN:Value->Option V
 | .none=>some .non
 | .bool b=>some (.bl b)
 | .int i _=>some (.int i)
 | .str x _=>some (.str x)
 | .bytes b _=>some (.byt b)
 | .float b _=>some (.flt b)
 | .ref a=>some (.ref a)
 | .type n=>some (.ty n)
 | _=>none
theorem zn.abs {x:V} {u:Value} (r:zn x u):zSN u=some x:=by
 cases x with
 | non=>cases r; rfl
 | bl _=>cases r; rfl
 | int _=>obtain ⟨t,rfl⟩:=r; rfl
 | str _=>obtain ⟨t,rfl⟩:=r; rfl
 | byt _=>obtain ⟨t,rfl⟩:=r; rfl
 | flt _=>obtain ⟨t,rfl⟩:=r; rfl
 | ref _=>cases r; rfl
 | ty _=>cases r; rfl
theorem zn.inj {x y:V} {u:Value} (r:zn x u) (q:zn y u):x=y:=Option.some.inj (r.abs.symm.trans q.abs)
theorem zi.inj:∀{xs ys:List V} {us:List Value},zi xs us->zi ys us->xs=ys
 | _,_,_, .nil, .nil=>rfl
 | _,_,_, .cons r t, .cons r' t'=>by rw [r.inj r',zi.inj t t']
section
variable {X:Cx} {pins:List (Addr×Obj)} {σ:St} {H:Hp} {s:Shared} {a:Addr} {xs ys:List V}
theorem zQ.of {K:PySem.W.Frag} (h:H a=some (.lst xs)):zQ K H a xs:= .inl (.inl h)
theorem Zd.of {K:PySem.W.Frag} (h:H a=some (.tup xs)):Zd K H a xs:= .inl (.inl h)
theorem zN.list (I:zN X pins σ H s) (h:zQ X.K H a xs):∃its:List Value,zi xs its/\PlainL s.heap a its.toArray/\xs.length≤sizeLine:=by
 rcases h with h | ⟨o,its,n,hk,hc,hd,hs,hz,r⟩
 ·obtain ⟨z,its,n,r,e⟩:=h.ok I.hok
  exact ⟨its,r,⟨_,n,e,rfl,rfl,rfl⟩,z⟩
 ·refine ⟨its.toList,r,⟨o,n,I.kIn a o hk,hc,hd,by simpa using hs⟩,?_⟩
  have e:=r.length;simp only [qJ] at e;omega
theorem zN.tuple (I:zN X pins σ H s) (h:Zd X.K H a xs):∃its:List Value,zi xs its/\IsTup s.heap a its.toArray/\xs.length≤sizeLine:=by
 rcases h with h | ⟨o,its,n,hk,hc,hs,hz,r⟩
 ·obtain ⟨z,its,r,p⟩:=h.ok I.hok
  exact ⟨its,r,p,z⟩
 ·refine ⟨its.toList,r,⟨o,I.kIn a o hk,hc,n,by simpa using hs⟩,?_⟩
  have e:=r.length;simp only [qJ] at e;omega
theorem zN.list_inj (I:zN X pins σ H s) (h:zQ X.K H a xs) (h':zQ X.K H a ys):xs=ys:=by
 obtain ⟨its,r,⟨o,n,e,_,_,d⟩,_⟩:=I.list h;obtain ⟨its',r',⟨o',n',e',_,_,d'⟩,_⟩:=I.list h';rw [e] at e'; cases e';rw [d] at d';injection d' with d1 _
 have:its=its':=by simpa using congrArg Array.toList d1
 subst this;exact r.inj r'
end
abbrev Cx.wish (X:Cx) (E:Value->Shared->Prop):Cx:={X with xe:=E}
abbrev Cx.nox (X:Cx):Cx:=X.wish λ_ _=>False
theorem Cx.Ok.wish {X:Cx} (ok:X.Ok) (E:Value->Shared->Prop):(X.wish E).Ok:=
 ⟨ok.mod,ok.kind,ok.glob,ok.blt,ok.above,ok.inj,ok.has,ok.cab,ok.hd,ok.frames,ok.stk,ok.exf,ok.bs,ok.bsz,ok.noex,ok.exfs,ok.funs,ok.frf⟩
theorem Cx.Ok.unwish {X:Cx} {E:Value->Shared->Prop} (ok:(X.wish E).Ok):X.Ok:=
 ⟨ok.mod,ok.kind,ok.glob,ok.blt,ok.above,ok.inj,ok.has,ok.cab,ok.hd,ok.frames,ok.stk,ok.exf,ok.bs,ok.bsz,ok.noex,ok.exfs,ok.funs,ok.frf⟩
section
variable {X:Cx} {pins:List (Addr×Obj)} {σ:St} {H:Hp} {s:Shared} {E:Value->Shared->Prop}
theorem zN.wish (I:zN X pins σ H s) (E:Value->Shared->Prop):zN (X.wish E) pins σ H s:=⟨I.ok.wish E,I.os,I.bare,I.base,I.loc,I.cell,I.free,I.freeC,I.pin,I.hok,I.len⟩
theorem zN.unwish (I:zN (X.wish E) pins σ H s):zN X pins σ H s:=⟨I.ok.unwish,I.os,I.bare,I.base,I.loc,I.cell,I.free,I.freeC,I.pin,I.hok,I.len⟩
theorem SP.unwish {D:Ym} {f:Flow} {s':Shared} (h:SP (X.wish E) pins D f s'):SP X pins D f s':=by
 cases f with
 | next=>obtain ⟨σ',H',I,q⟩:=h; exact ⟨σ',H',I.unwish,q⟩
 | brk=>obtain ⟨σ',H',I,q⟩:=h; exact ⟨σ',H',I.unwish,q⟩
 | cont=>obtain ⟨σ',H',I,q⟩:=h; exact ⟨σ',H',I.unwish,q⟩
 | ret u=>obtain ⟨v,σ',H',I,r,q⟩:=h; exact ⟨v,σ',H',I.unwish,r,q⟩
theorem PE.nox {e:Expr} {t:TE} (h:PE X.nox e t):PE X e t:=λpins s σ H Q I hw=>
 wpAny_mono (h pins s σ H Q (I.wish _) hw) (λ_ _ ⟨v,H',I',r,q⟩=>⟨v,H',I'.unwish,r,q⟩) λ_ _ z=>False.elim z
theorem Yl.nox {st:List Stmt} {t:TS} (h:Yl X.nox st t):Yl X st t:=λpins s σ H D I hw=>
 wpAny_mono (h pins s σ H D (I.wish _) hw) (λ_ _ q=>q.unwish) λ_ _ z=>False.elim z
end
section
variable {X:Cx} {st:Stmt} {rest:List Stmt} {t u:TS} {e:Expr} {te:TE} {pos:Pos}
def zRN:TS:=λD σ H=>D.nx σ H
def jK (t u:TS):TS:=λD σ H=>t {D with nx:=u D} σ H
theorem zf:Yl X [] zRN:=λ_ _ σ H _ I h=>wpAny_execs_nil ⟨σ,H,I,h⟩
theorem zE (h1:PS X st t) (h2:Yl X rest u):Yl X (st::rest) (jK t u):=by
 intro pins s σ H D I h;refine wpAny_execs_cons (zj (h1 pins s σ H {D with nx:=u D} I h) λf s1 q=>?_);cases f with
 | next=>
  obtain ⟨σ',H',I',q⟩:=q;exact h2 pins s1 σ' H' D I' q
 | ret v=>exact q
 | brk=>exact q
 | cont=>exact q
theorem zG (h1:PS X st t):Yl X [st] t:=by
 intro pins s σ H D I h;refine wpAny_execs_cons (zj (h1 pins s σ H D I h) λf s1 q=>?_);cases f with
 | next=>exact wpAny_execs_nil q
 | ret v=>exact q
 | brk=>exact q
 | cont=>exact q
theorem zN.quiet {pins:List (Addr×Obj)} {σ:St} {H:Hp} {s:Shared} (I:zN X pins σ H s):interactive X.env=false:=by simp [interactive,I.ok.kind]
def zRn (te:TE):TS:=λD σ H=>te σ H λ_ H1=>D.nx σ H1
theorem ZI (he:PE X e te) (hs:swapsWith e none pos.line X.env=pure false:=by rfl):PS X (.Expr e pos) (zRn te):=by
 intro pins s σ H D I h;exact wpAny_Expr_any (zj (he pins s σ H _ I h) λv s1 ⟨x,H1,I1,r1,q1⟩=>⟨σ,H1,I1,q1⟩) I.quiet hs
def zSK (te:TE):TS:=λD σ H=>te σ H D.rt
theorem zR (he:PE X e te):PS X (.Return (some e) pos) (zSK te):=by
 intro pins s σ H D I h;exact wpAny_Return_some (zj (he pins s σ H _ I h) λv s1 ⟨x,H1,I1,r1,q1⟩=>⟨x,σ,H1,I1,r1,q1⟩)
def zSe (c:TT) (t u:TS):TS:=λD σ H=>c σ H λb H1=>if b=true then t D σ H1 else u D σ H1
theorem zy {c:Expr} {a b:List Stmt} {tc:TT} (hc:PT X c tc) (ha:Yl X a t) (hb:Yl X b u):PS X (.If c a b pos) (zSe tc t u):=by
 intro pins s σ H D I h;refine wpAny_If (zj (hc pins s σ H _ I h) λd s1 ⟨H1,I1,q1⟩=>?_);cases d with
 | true=>exact ha pins s1 σ H1 D I1 q1
 | false=>exact hb pins s1 σ H1 D I1 q1
def zPe:TS:=λ_ _ _=>False
theorem zKh:PS X st zPe:=λ_ _ _ _ _ _ h=>h.elim
end
abbrev TG:=V->St->Hp->(St->Hp->Prop)->Prop
abbrev TGs:=List V->St->Hp->(St->Hp->Prop)->Prop
def PG (X:Cx) (target:Expr) (t:TG):Prop:=
 ∀(pins:List (Addr×Obj)) (s:Shared) (σ:St) (H:Hp) (v:V) (u:Value) (Q:St->Hp->Prop),zN X pins σ H s->zn v u->t v σ H Q->
  wpAny (model X.prog X.w) X.A (assign target X.env u) (λ_ s'=>∃σ' H',zN X pins σ' H' s'/\Q σ' H') X.xe s
def PGs (X:Cx) (ts:List Expr) (t:TGs):Prop:=
 ∀(pins:List (Addr×Obj)) (s:Shared) (σ:St) (H:Hp) (vs:List V) (us:List Value) (Q:St->Hp->Prop),zN X pins σ H s->zi vs us->t vs σ H Q->
  wpAny (model X.prog X.w) X.A (assignInOrder ((assignEach ts X.env).map (·.2)) us) (λ_ s'=>∃σ' H',zN X pins σ' H' s'/\Q σ' H') X.xe s
abbrev zLA:=V->V->V->Hp->(Hp->Prop)->Prop
def zPx (X:Cx) (t:zLA):Prop:=
 ∀(pins:List (Addr×Obj)) (s:Shared) (σ:St) (H:Hp) (o i v:V) (ov iv u:Value) (Q:Hp->Prop),zN X pins σ H s->zn o ov->zn i iv->zn v u->t o i v H Q->
  wpAny (model X.prog X.w) X.A (setItem ov iv u) (λ_ s'=>∃H',zN X pins σ H' s'/\Q H') X.xe s
section
variable {X:Cx} {pos:Pos}
def Zi (i:Nat):TG:=λv σ H Q=>Q (σ.set i (some v)) H
theorem zp {i:Nat} {x:Str} (hN:X.N.Nodup) (hi:X.N[i]?=some x) (hx:Loc X.env.scope x) (hf:X.fn x=true\/X.env.scope.names.lookup x=some .local:=by first | exact .inl rfl | exact .inr rfl | assumption):PG X (.Name x pos) (Zi i):=by
 intro pins s σ H v u Q I r h;exact wpAny_assign_Name (JW I hN hi hx r (λs' I'=>⟨_,H,I',h⟩) hf)
def zLV:TGs:=λvs σ H Q=>vs=[]/\Q σ H
def zCk (t:TG) (u:TGs):TGs:=λvs σ H Q=>∃v r,vs=v::r/\t v σ H λσ' H'=>u r σ' H' Q
theorem zBK:PGs X [] zLV:=by
 intro pins s σ H vs us Q I r h;obtain ⟨e,h⟩:=h;subst e;cases r;exact assignInOrder_nil ⟨σ,H,I,h⟩
theorem YZ {e:Expr} {es:List Expr} {t:TG} {u:TGs} (h1:PG X e t) (h2:PGs X es u)
  (hs:(assignEach (e::es) X.env).map (·.2)=assign e X.env::(assignEach es X.env).map (·.2):=by rfl):PGs X (e::es) (zCk t u):=by
 intro pins s σ H vs us Q I r h;obtain ⟨v,vr,e1,h⟩:=h;subst e1;cases r with
 | cons r rr=>
  rw [hs];refine assignInOrder_cons (zj (h1 pins s σ H _ _ _ I r h) λ_ s1 ⟨σ1,H1,I1,q1⟩=>?_);exact h2 pins s1 σ1 H1 _ _ Q I1 rr q1
def zHD (K:PySem.W.Frag) (n:Nat) (t:TGs):TG:=λv σ H Q=>∃a xs,v= .ref a/\Zd K H a xs/\xs.length=n/\t xs σ H Q
theorem zFC {es:List Expr} {k:Nat} {t:TGs} {n:Nat} (hc:X.calm=true) (h:PGs X es t)
  (hn:(assignEach es X.env).length=n:=by rfl) (hst:(assignEach es X.env).findIdx? (·.1)=none:=by rfl):PG X (.Tuple es k pos) (zHD X.K n t):=by
 intro pins s σ H v u Q I r hw;obtain ⟨a,xs,e1,hq,hl,hw⟩:=hw;subst e1;cases r;obtain ⟨its,rv,ht,hz⟩:=I.tuple hq;refine assign_Tuple_tuple (I.ok.hd hc) ht (by simp [hn,<-hl,rv.length]) hst λh' hx=>?_
 have I1:zN X pins σ H {s with heap:=h'}:=I.kept (t':=s.toks) λb o e=>hx b o (qT (Heap.lt_size e)) e
 exact h pins _ σ H xs _ Q I1 (by simpa using rv) hw
def zSd (to ti:TE) (t:zLA):TG:=λv σ H Q=>to σ H λo H1=>ti σ H1 λi H2=>t o i v H2 λH3=>Q σ H3
theorem Ja {o i:Expr} {to ti:TE} {t:zLA} (ho:PE X o to) (hi:PE X i ti) (hs:zPx X t)
  (ha:∀v,assign (.Subscript o i pos) X.env v=(do
   let ov <-holding [v] (eval o X.env)
   let iv <-holding [v,ov] (eval i X.env)
   standAt pos
   holding [v,ov,iv] (setItem ov iv v)
   release [v,ov,iv] []):=by intro _; rfl):PG X (.Subscript o i pos) (zSd to ti t):=by
 intro pins s σ H v u Q I r h;rw [ha];refine wpAny_bind (wpAny_holding (zj (ho pins s σ H _ I h) λov s1 ⟨x,H1,I1,r1,q1⟩=>?_));refine wpAny_bind (wpAny_holding (zj (hi pins s1 σ H1 _ I1 q1) λiv s2 ⟨y,H2,I2,r2,q2⟩=>?_));refine wpAny_bind (wpAny_standAt (wpAny_bind (wpAny_holding (zj (hs pins s2 σ H2 x y v ov iv u _ I2 r1 r2 r q2) λ_ s3 ⟨H3,I3,q3⟩=>?_))));exact wpAny_release ⟨σ,H3,I3,q3⟩
def zBg (te:TE) (g:TG):TS:=λD σ H=>te σ H λx H1=>g x σ H1 D.nx
theorem JU {tg e:Expr} {te:TE} {g:TG} (he:PE X e te) (hg:PG X tg g) (hs:swapsWithSole [tg] e pos.line X.env=pure false:=by rfl) (hw:swappedStores [tg] e X.env=pure none:=by rfl)
  (h1:(assignEach [tg] X.env).map (·.2)=[assign tg X.env]:=by rfl):PS X (.Assign [tg] e pos) (zBg te g):=by
 intro pins s σ H D I h;refine wpAny_Assign_stores (zj (he pins s σ H _ I h) λv s1 ⟨x,H1,I1,r1,q1⟩=>?_) hs hw;rw [h1];exact zj (hg pins s1 σ H1 x v _ I1 r1 q1) λ_ s2 q=>q
theorem za {i:Nat} {x:Str} {e:Expr} {te:TE} {pos':Pos} (hN:X.N.Nodup) (hi:X.N[i]?=some x) (hx:Loc X.env.scope x) (he:PE X e te) (hs:swapsWith e (some (.Name x pos')) pos.line X.env=pure false:=by rfl) (hf:X.fn x=true\/X.env.scope.names.lookup x=some .local:=by first | exact .inl rfl | exact .inr rfl | assumption):
  PS X (.Assign [.Name x pos'] e pos) (zBg te (Zi i)):=by
 intro pins s σ H D I h;refine wpAny_Assign_Name (zj (he pins s σ H _ I h) λv s1 ⟨y,H1,I1,r1,q1⟩=>?_) hs;exact JW I1 hN hi hx r1 (λs2 I2=>⟨_,H1,I2,q1⟩) hf
def zSS (i j:Nat) (ta:TA):TS:=λD σ H=>ta σ H λvs H1=>∃v w,vs=[v,w]/\D.nx ((σ.set i (some v)).set j (some w)) H1
theorem zQA {i j:Nat} {x y:Str} {a b:Expr} {ta:TA} {px py pt:Pos} {kt k2 pt2} (hc:X.calm=true) (hN:X.N.Nodup) (hi:X.N[i]?=some x) (hj:X.N[j]?=some y) (hij:i≠j)
  (hx:X.env.scope.names.lookup x=some .local) (hy:X.env.scope.names.lookup y=some .local) (ha:PA X [a,b] ta)
  (hw:swappedStores [.Tuple [.Name x px, .Name y py] kt pt] (.Tuple [a,b] k2 pt2) X.env=pure (some [x,y]))
  (hs:swapsWithSole [.Tuple [.Name x px, .Name y py] kt pt] (.Tuple [a,b] k2 pt2) pos.line X.env=pure false:=by rfl):
  PS X (.Assign [.Tuple [.Name x px, .Name y py] kt pt] (.Tuple [a,b] k2 pt2) pos) (zSS i j ta):=by
 intro pins s σ H D I h;rw [exec_Assign_arm];refine wpAny_bind (wpAny_standAt ?_);rw [hs];refine wpAny_bind (wpAny_pure ?_);rw [if_neg (by decide)];refine wpAny_bind (Tuple_ (zj (ha _ pins s σ H _ I h) λus s1 ⟨vs,H1,I1,r1,q1⟩=>?_));obtain ⟨v,w,e1,q1⟩:=q1;subst e1;obtain ⟨u1,u2,rfl,rv,rw'⟩:∃u1 u2,us=[u1,u2]/\zn v u1/\zn w u2:=by
  cases r1 with
  | cons p q=>
   cases q with
   | cons p' q'=>
    cases q';exact ⟨_,_,rfl,p,p'⟩
 refine wpAny_newObj_type ?_ (by show 2≤sizeLine; decide);have I2:zN X pins σ H1 {s1 with heap:=s1.heap.push {cls:= .type "tuple",data:= .seq [u1,u2].toArray}}:=I1.kept (t':=s1.toks) λb o e=>Heap.get?_push_of_some _ e
 rw [hw];refine wpAny_bind (wpAny_pure ?_);show wpAny (model X.prog X.w) X.A (do rule "assign.swapped-stores"; let items <-unpackItems (.ref s1.heap.objs.size) 2 none; assignInOrder [λv=>bindName X.env y v,λv=>bindName X.env x v] items.reverse; pure Flow.next) _ _ _;refine wpAny_bind (wpAny_rule (wpAny_bind (unpackItems_tuple (items:=#[u1,u2]) (I.ok.hd hc) (IsTup.new s1.heap _) λh' hx'=>?_)));have I3:=I2.kept (h':=h') (t':=s1.toks) λb o e=>hx' b o (qT (Heap.lt_size e)) e
 show wpAny _ _ (assignInOrder [λv=>bindName X.env y v,λv=>bindName X.env x v] [u2,u1] >>=λ_=>pure Flow.next) _ _ _;refine wpAny_bind (assignInOrder_cons (wpAny_bindName (JW I3 hN hj (.inl hy) rw' (λs2 I4=>?_) (.inr hy))));refine assignInOrder_cons (wpAny_bindName (JW I4 hN hi (.inl hx) rv (λs3 I5=>assignInOrder_nil (wpAny_pure ?_)) (.inr hx)));rw [List.set_comm _ _ (Ne.symm hij)] at I5;exact ⟨_,H1,I5,q1⟩
end
section
variable {X:Cx} {pos:Pos}
def zJj (c:TT) (tb:TS):TS:=λD σ H=>∃W:Nat->St->Hp->Prop,(∃m,W m σ H)/\∀m σ H,W m σ H->
 c σ H λb H1=>if b=true then ∃N:St->Hp->Prop,(∀σ' H',N σ' H'->∃m',m'<m/\W m' σ' H')/\tb {D with nx:=N,ct:=N,bk:=D.nx} σ H1 else D.nx σ H1
theorem JQ {c:Expr} {body:List Stmt} {tc:TT} {tb:TS} (hp:PassesOwn (model X.prog X.w) X.A X.env X.xe) (hc:PT X c tc) (hb:Yl X body tb):PS X (.While c body [] pos) (zJj tc tb):=by
 intro pins s σ H D I h;obtain ⟨W,⟨m0,w0⟩,turn⟩:=h;refine wpAny_While (codeAny_whileLoop (λn s'=>∃σ' H',zN X pins σ' H' s'/\W n σ' H') ?_ m0 ⟨σ,H,I,w0⟩);rintro n s1 ⟨σ1,H1,I1,w1⟩;refine wpAny_passesOwn hp (zj (hc pins s1 σ1 H1 _ I1 (turn n σ1 H1 w1)) λb s2 ⟨H2,I2,q2⟩=>?_);cases b with
 | true=>
  obtain ⟨N,hN,q2⟩:=q2;rw [if_pos rfl];refine wpAny_passesOwn hp (zj (hb pins s2 σ1 H2 _ I2 q2) λf s3 q3=>?_);cases f with
  | next=>
   obtain ⟨σ3,H3,I3,n3⟩:=q3;obtain ⟨m',hm,w3⟩:=hN σ3 H3 n3;exact ⟨m',hm,σ3,H3,I3,w3⟩
  | cont=>
   obtain ⟨σ3,H3,I3,n3⟩:=q3;obtain ⟨m',hm,w3⟩:=hN σ3 H3 n3;exact ⟨m',hm,σ3,H3,I3,w3⟩
  | brk=>exact q3
  | ret v=>exact q3
 | false=>
  rw [if_neg qN];exact wpAny_execs_nil ⟨σ1,H2,I2,q2⟩
end
structure It where
 go:Nat->Hp->Prop
 yld:Nat->Hp->V->Hp->Prop
 stop:Nat->Hp->Prop
def ja (X:Cx) (pins:List (Addr×Obj)) (H:Hp) (b:Addr):Prop:=
 H b=none/\b≠X.env.locals/\b∉X.fs/\(b∈X.ex\/X.s₀.heap.objs.size≤b)/\(∀x c,X.env.cells.lookup x=some c->c≠b)/\∀p∈X.pn++pins,p.1≠b
theorem zN.fpOk {X:Cx} {pins:List (Addr×Obj)} {σ:St} {H H':Hp} {s:Shared} {b:Addr} (I:zN X pins σ H s) (hb:s.heap.objs.size≤b) (hn:H' b=none):ja X pins H' b:=by
 refine ⟨hn,Nat.ne_of_gt (qP I.lt hb),I.nofs hb, .inr (qK I.sz hb),λx c e z=>?_,λp hp z=>?_⟩
 ·obtain ⟨v,q⟩:=I.cell x c e
  exact absurd (qP q.lt (by rw [z]; exact hb)) (XA _)
 ·exact absurd (qP (Heap.lt_size (I.pin p hp).1) (by rw [z]; exact hb)) (XA _)
structure zAa (P:Program) (w:World) (K:PySem.W.Frag) (tg:Expr) (J:It) (fp:List Addr) (it:Addr) (tn:Nat->Heap->Prop):Prop where
 mem:it∈fp
 obj:∀i h,tn i h->∀b∈fp,∃o,h.get? b=some o/\∀v,o.data≠ .cell v
 keep:∀i h h',tn i h->(∀b∈fp,∀o,h.get? b=some o->h'.get? b=some o)->tn i h'
 item:∀(X:Cx),X.prog=P->X.w=w->X.K=K->X.calm=true->∀(i:Nat) (pins:List (Addr×Obj)) (s:Shared) (σ:St) (H:Hp) (E:Value->Shared->Prop),zN X pins σ H s->(∀b∈fp,ja X pins H b)->tn i s.heap->J.go i H->
  wpAny (model P w) X.A (pyNext (.ref it)) (λr s1=>∃u,r=some u/\
   wpAny (model P w) X.A (letOwnedTupleGo tg (.ref it) u) (λ_ s2=>∃x H',zN X pins σ H' s2/\zn x u/\J.yld i H x H'/\tn (i+1) s2.heap/\∀b∈fp,H' b=none) E s1) E s
 done:∀(X:Cx),X.prog=P->X.w=w->X.K=K->X.calm=true->∀(i:Nat) (pins:List (Addr×Obj)) (s:Shared) (σ:St) (H:Hp) (E:Value->Shared->Prop),zN X pins σ H s->(∀b∈fp,ja X pins H b)->tn i s.heap->J.stop i H->
  wpAny (model P w) X.A (pyNext (.ref it)) (λr s1=>r=none/\zN X pins σ H s1) E s
 self:∀(A:Around) (i:Nat) (s:Shared) (Q:Value->Shared->Prop) (E:Value->Shared->Prop),tn i s.heap->Q (.ref it) s->wpAny (model P w) A (pyIter (.ref it)) Q E s
abbrev TI:=St->Hp->(It->Hp->Prop)->Prop
def PIE (X:Cx) (pins:List (Addr×Obj)) (σ:St) (tg:Expr) (R:It->Hp->Prop) (itv:Value) (s2:Shared):Prop:=
 ∃(it:Addr) (fp:List Addr) (tn:Nat->Heap->Prop) (J:It) (H':Hp),itv= .ref it/\zN X pins σ H' s2/\zAa X.prog X.w X.K tg J fp it tn/\tn 0 s2.heap/\(∀b∈fp,ja X pins H' b)/\R J H'
def PI (X:Cx) (tg iter:Expr) (wi:TI):Prop:=
 ∀(pins:List (Addr×Obj)) (s:Shared) (σ:St) (H:Hp) (R:It->Hp->Prop),zN X pins σ H s->wi σ H R->
  wpAny (model X.prog X.w) X.A (eval iter X.env) (λv s1=>wpAny (model X.prog X.w) X.A (pyIter v) (PIE X pins σ tg R) X.xe s1) X.xe s
theorem zCV {M:Model} {A:Around} {E:Value->Shared->Prop} {s:Shared} {tg:Expr} {it:Addr} {u:Value} {o:Obj} {n:String} {vs:Array Value} {Q:Unit->Shared->Prop} (ho:s.heap.get? it=some o) (hc:o.cls= .type n) (hd:o.data= .fields vs)
    (hn:["enumerate","zip","dict_itemiterator","dict_reverseitemiterator","odict_iterator","itertools.zip_longest","itertools.pairwise"].contains n=false) (hQ:Q () s):wpAny M A (letOwnedTupleGo tg (.ref it) u) Q E s:=by
  unfold letOwnedTupleGo;cases tg <;> first
    | exact wpAny_pure hQ
    | (cases u <;> first
        | exact wpAny_pure hQ
        | (refine wpAny_bind (wpAny_load ho ?_)
           rw [hc,hd];show wpAny M A (if (["enumerate","zip","dict_itemiterator","dict_reverseitemiterator","odict_iterator","itertools.zip_longest","itertools.pairwise"].contains n&&vs[0]?==some (rawInt _))=true then _ else _) Q E s;rw [if_neg (by intro h; rw [hn,QH] at h; cases h)];exact wpAny_pure hQ))
def Itl (K:PySem.W.Frag) (a:Addr):It:=
 ⟨λi H=>∃xs x,zQ K H a xs/\xs[i]?=some x,λi H x H'=>H'=H/\∀xs,zQ K H a xs->xs[i]?=some x,λi H=>∃xs,zQ K H a xs/\xs.length≤i⟩
def Itr (lo:Int) (n:Nat):It:=⟨λi _=>i<n,λi H x H'=>H'=H/\x= .int (lo+i),λi _=>n≤i⟩
theorem zJF {P:Program} {w:World} {K:PySem.W.Frag} {tg:Expr} (a it:Addr):zAa P w K tg (Itl K a) [it] it (λi h=>h.IsListIter it a i) where
 mem:=by simp
 obj:=λi h st b hb=>by
  have e:b=it:=by simpa using hb
  subst e;obtain ⟨o,e,c,d⟩:=st;exact ⟨o,e,λv z=>by rw [d] at z; cases z⟩
 keep:=λi h h' st k=>st.at λo e=>k it (by simp) o e
 item:=by
  intro X hP hw hK hc i pins s σ H E I hf st hg;subst hP hw hK;obtain ⟨xs,x,hq,hx⟩:=hg;obtain ⟨its,rv,p,hz⟩:=I.list hq;obtain ⟨u,hu,ru⟩:=rv.get hx;obtain ⟨f0,f1,f2,f3,f4,f5⟩:=hf it (by simp);refine wpAny_pyNext_list_item st p.isList (x:=u) (by simpa using hu) λh' st' sb=>?_
  have I1:zN X pins σ H {s with heap:=h'}:=I.turned (t':=s.toks) (λb o hb e=>(sb.2 b hb).trans e) f0 f1 f3 f4 f5;obtain ⟨o,e,c,d⟩:=id st';exact ⟨u,rfl,zCV (s:={s with heap:=h'}) e c d (by decide) ⟨x,H,I1,ru,⟨rfl,λys hy=>by rw [I.list_inj hy hq]; exact hx⟩,st',λb hb=>(hf b hb).1⟩⟩
 done:=by
  intro X hP hw hK hc i pins s σ H E I hf st hg;subst hP hw hK;obtain ⟨xs,hq,hx⟩:=hg;obtain ⟨its,rv,p,hz⟩:=I.list hq;obtain ⟨f0,f1,f2,f3,f4,f5⟩:=hf it (by simp);have hl:=rv.length;exact wpAny_pyNext_list_end (I.ok.hd hc) st p.isList (by simp; omega) λh' eb=>⟨rfl,I.turned (t':=s.toks) (λb o hb e=>eb b o hb e) f0 f1 f3 f4 f5⟩
 self:=λ_ _ _ _ _ st h=>wpAny_pyIter_listiter st h
theorem zHM {P:Program} {w:World} {K:PySem.W.Frag} {tg:Expr} (it:Addr) (lo:Int) (n:Nat):zAa P w K tg (Itr lo n) [it] it (λi h=>IsRangeIter h it (lo+(i:Nat)*1) ((n:Int) - (i:Nat)) 1) where
 mem:=by simp
 obj:=λi h st b hb=>by
  have e:b=it:=by simpa using hb
  subst e;exact ⟨_,st,λv z=>by
   have z':Data.fields _=Data.cell v:=z;cases z'⟩
 keep:=λi h h' st k=>k it (by simp) _ st
 item:=by
  intro X hP hw hK hc i pins s σ H E I hf st hg;subst hP hw hK;obtain ⟨f0,f1,f2,f3,f4,f5⟩:=hf it (by simp);have W:=Walks.range (prog:=X.prog) (w:=X.w) (I.ok.hd hc) it lo 1 n;refine W.item i s _ _ hg st λv h' tk hv st' kk=>?_
  obtain ⟨t,rfl⟩:=hv;have I1:zN X pins σ H {s with heap:=h',toks:=tk}:=I.turned (λb o hb e=>kk b o (by simpa using hb) e) f0 f1 f3 f4 f5;refine ⟨_,rfl,zCV (s:={s with heap:=h',toks:=tk}) (n:="range_iterator") st' rfl rfl (by decide) ⟨.int (lo+i),H,I1,⟨t,?_⟩,⟨rfl,rfl⟩,st',λb hb=>(hf b hb).1⟩⟩;rw [Int.mul_one]
 done:=by
  intro X hP hw hK hc i pins s σ H E I hf st hg;subst hP hw hK;obtain ⟨f0,f1,f2,f3,f4,f5⟩:=hf it (by simp);exact wpAny_pyNext_range_end (I.ok.hd hc) st (by have:n≤i:=hg; omega) λh' eb=>⟨rfl,I.turned (t':=s.toks) (λb o hb e=>eb b o hb e) f0 f1 f3 f4 f5⟩
 self:=λ_ _ _ _ _ st h=>wpAny_pyIter_rangeiter st h
end L2
namespace L2
open PySem PySem.Spec PyProof.Rows
section
variable {X:Cx} {tg:Expr}
def zQw (K:PySem.W.Frag) (tl:TE):TI:=λσ H R=>tl σ H λx H1=>∃a,x= .ref a/\(∃xs,zQ K H1 a xs)/\R (Itl K a) H1
theorem ZM {l:Expr} {tl:TE} (hl:PE X l tl):PI X tg l (zQw X.K tl):=by
 intro pins s σ H R I h;refine zj (hl pins s σ H _ I h) λv s1 ⟨x,H1,I1,r1,q1⟩=>?_
 obtain ⟨a,e,⟨xs,hq⟩,q⟩:=q1;subst e;cases r1;obtain ⟨its,rv,p,hz⟩:=I1.list hq;refine wpAny_pyIter_list p.isList ?_;refine ⟨s1.heap.objs.size,[s1.heap.objs.size],_,_,H1,rfl,I1.kept (t':=s1.toks) λb o e=>Heap.get?_push_of_some _ e,zJF a _,⟨_,Heap.get?_push_size _ rfl,rfl,rfl⟩,λb hb=>?_,q⟩;have e:b=s1.heap.objs.size:=by simpa using hb
 subst e;exact I1.fpOk (qE _) (I1.hok.fresh (qE _))
theorem zKO {pins:List (Addr×Obj)} {σ:St} {H:Hp} {s:Shared} {R:It->Hp->Prop} {E:Value->Shared->Prop} {lo hi:Int} {t u v:Tok} {tk:Nat} (I:zN X pins σ H s) (h1: -(2^62)≤lo) (h2:lo<2^62) (h3: -(2^62)≤hi) (h4:hi<2^62)
  (q:R (Itr lo (hi - lo).toNat) H):wpAny (model X.prog X.w) X.A (pyIter (.ref s.heap.objs.size)) (PIE X pins σ tg R) E {s with heap:=s.heap.push {cls:= .type "range",data:= .fields #[.int lo t, .int hi u, .int 1 v]},toks:=tk}:=by
 refine wpAny_pyIter_range (IsRange.new ..) (small_one h1 h2 h3 h4) ?_;have I1:zN X pins σ H {s with heap:=s.heap.push {cls:= .type "range",data:= .fields #[.int lo t, .int hi u, .int 1 v]},toks:=tk}:=I.kept λb o e=>Heap.get?_push_of_some _ e
 refine ⟨(s.heap.push {cls:= .type "range",data:= .fields #[.int lo t, .int hi u, .int 1 v]}).objs.size,[(s.heap.push {cls:= .type "range",data:= .fields #[.int lo t, .int hi u, .int 1 v]}).objs.size],_,_,H,rfl,
  I1.kept (t':=tk) λb o e=>Heap.get?_push_of_some _ e,zHM _ lo (hi - lo).toNat,?_,λb hb=>?_,q⟩
 ·have e1:lo+((0:Nat):Int)*1=lo:=by simp
  have e2:(((hi - lo).toNat:Nat):Int) - ((0:Nat):Int)=Builtin.Range.rangeSize lo hi 1:=by rw [rangeSize_one]; split <;> omega
  show IsRangeIter _ _ (lo+((0:Nat):Int)*1) ((((hi - lo).toNat:Nat):Int) - ((0:Nat):Int)) 1;rw [e1,e2];exact Heap.get?_push_size _ rfl
 ·have e:b=(s.heap.push {cls:= .type "range",data:= .fields #[.int lo t, .int hi u, .int 1 v]}).objs.size:=by simpa using hb
  subst e;exact I1.fpOk (qE _) (I1.hok.fresh (qE _))
def zQT (ta:TA):TI:=λσ H R=>ta σ H λvs H1=>∃j:Int,vs=[.int j]/\ -(2^62)≤j/\j<2^62/\R (Itr 0 j.toNat) H1
theorem zDa {a:Expr} {ta:TA} {p pos:Pos} (hg:Gl X "range") (hm:X.mg "range"=none) (ha:PA X [a] ta) (hs:starEach [a] X.env=[(false,eval a X.env)]:=by rfl):PI X tg (.Call (.Name "range" p) [a] [] pos) (zQT ta):=by
 intro pins s σ H R I h;refine Call_ (Yc I hg hm boot_range (QV (zj (ha pos pins s σ H _ I h) λus s1 ⟨vs,H1,I1,r1,q1⟩=>?_) hs rfl));obtain ⟨j,e,q1,q2,q⟩:=q1;subst e;cases r1 with
 | cons r rr=>
  cases rr;obtain ⟨t,rfl⟩:=r;exact call_range_1 (zKO I1 (by omega) (by omega) q1 q2 (by simpa using q))
def zSb (wi:TI) (g:TG) (tb:TS):TS:=λD σ H=>wi σ H λJ H1=>∃W:Nat->Nat->St->Hp->Prop,(∃m,W 0 m σ H1)/\∀i m σ H,W i m σ H->
 (J.stop i H/\D.nx σ H)\/(J.go i H/\∃N:St->Hp->Prop,(∀σ' H',N σ' H'->∃m',m'<m/\W (i+1) m' σ' H')/\∀x H',J.yld i H x H'->g x σ H' λσ2 H2=>tb {D with nx:=N,ct:=N,bk:=D.nx} σ2 H2)
def zAj (fp:List Addr) (h:Heap):List (Addr×Obj):=fp.filterMap λb=>(h.get? b).map λo=>(b,o)
theorem JC {fp:List Addr} {h:Heap} {b:Addr} {o:Obj} (hb:b∈fp) (e:h.get? b=some o):(b,o)∈zAj fp h:=List.mem_filterMap.mpr ⟨b,hb,by rw [e]; rfl⟩
theorem zIa {fp:List Addr} {h:Heap} {p:Addr×Obj} (hp:p∈zAj fp h):p.1∈fp/\h.get? p.1=some p.2:=by
 obtain ⟨b,hb,e⟩:=List.mem_filterMap.mp hp;cases q:h.get? b with
 | none=>rw [q] at e; cases e
 | some o=>
  rw [q] at e;have e':(b,o)=p:=Option.some.inj e;subst e';exact ⟨hb,q⟩
theorem zN.pinned {pins:List (Addr×Obj)} {σ:St} {H:Hp} {s:Shared} {fp:List Addr} (I:zN X pins σ H s) (hf:∀b∈fp,ja X pins H b) (ho:∀b∈fp,∃o,s.heap.get? b=some o/\∀v,o.data≠ .cell v):zN X (pins++zAj fp s.heap) σ H s:=
 I.pins_of λp hp=>(qO.mp hp).elim (λz=>I.pin p (qW _ z)) λz=>by
  obtain ⟨hb,e⟩:=zIa z;obtain ⟨f0,f1,f2,_⟩:=hf p.1 hb;obtain ⟨o,e',d⟩:=ho p.1 hb;rw [e] at e'; cases e';exact ⟨e,f0,f1,f2,d⟩
theorem zN.unpinned {pins pl:List (Addr×Obj)} {σ:St} {H:Hp} {s:Shared} (I:zN X (pins++pl) σ H s):zN X pins σ H s:=I.pins_of λp hp=>I.pin p (qW _ (List.mem_append_left _ hp))
theorem jO {iter:Expr} {body:List Stmt} {wi:TI} {g:TG} {tb:TS} {pos:Pos} (hp:PassesOwn (model X.prog X.w) X.A X.env X.xe) (hc:X.calm=true) (hi:PI X tg iter wi) (hg:PG X tg g) (hb:Yl X body tb)
  (hs:∀x,foldedSetIterable iter X.env x=pure x:=by intro _; rfl):PS X (.For tg iter body [] pos) (zSb wi g tb):=by
 intro pins s σ H D I h;refine wpAny_For (zj (hi pins s σ H _ I h) λv s1 h1=>zj h1 λitv s2 h2=>?_) hs;obtain ⟨it,fp,tn,J,H2,e,I2,T,st2,f2,W,⟨m0,w0⟩,turn⟩:=h2;subst e;have stat:∀{H':Hp},(∀b∈fp,H' b=none)->∀b∈fp,ja X pins H' b:=λhn b hb=>⟨hn b hb,(f2 b hb).2⟩
 refine codeAny_forLoop_any (λn s'=>∃i σ' H',zN X pins σ' H' s'/\tn i s'.heap/\(∀b∈fp,H' b=none)/\W i n σ' H') ?_ m0 ⟨0,σ,H2,I2,st2,λb hb=>(f2 b hb).1,w0⟩;rintro n s3 ⟨i,σ3,H3,I3,st3,fr3,w3⟩;rcases turn i n σ3 H3 w3 with ⟨stop,qn⟩ | ⟨go,N,hN,step⟩
 ·refine wpAny_passesOwn hp (zj (T.done X rfl rfl rfl hc i pins s3 σ3 H3 X.xe I3 (stat fr3) st3 stop) λr s4 ⟨hr,I4⟩=>?_)
  subst hr;exact wpAny_execs_nil ⟨σ3,H3,I4,qn⟩
 ·refine wpAny_passesOwn hp (zj (T.item X rfl rfl rfl hc i pins s3 σ3 H3 X.xe I3 (stat fr3) st3 go) λr s4 ⟨u,hr,h4⟩=>?_)
  subst hr;refine wpAny_passesOwn hp (zj h4 λ_ s5 ⟨x,H5,I5,r5,y5,st5,fr5⟩=>?_);have I5':=I5.pinned (stat fr5) (T.obj _ _ st5);refine wpAny_passesOwn hp (zj (hg _ s5 σ3 H5 x u _ I5' r5 (step x H5 y5)) λ_ s6 ⟨σ6,H6,I6,q6⟩=>?_);refine wpAny_passesOwn hp (zj (hb _ s6 σ6 H6 _ I6 q6) λf s7 q7=>?_);have again:∀{σ7:St} {H7:Hp},zN X (pins++zAj fp s5.heap) σ7 H7 s7->N σ7 H7->∃m,m<n/\∃i σ' H',zN X pins σ' H' s7/\tn i s7.heap/\(∀b∈fp,H' b=none)/\W i m σ' H':=λ{σ7 H7} I7 n7=>by
   obtain ⟨m',hm,w7⟩:=hN σ7 H7 n7;refine ⟨m',hm,i+1,σ7,H7,I7.unpinned,T.keep _ _ _ st5 λb hb o e=>(I7.pin (b,o) (qW _ (qW _ (JC hb e)))).1,λb hb=>?_,w7⟩;obtain ⟨o,e,d⟩:=T.obj _ _ st5 b hb;exact (I7.pin (b,o) (qW _ (qW _ (JC hb e)))).2.1
  cases f with
  | next=>obtain ⟨σ7,H7,I7,n7⟩:=q7; exact again I7 n7
  | cont=>obtain ⟨σ7,H7,I7,n7⟩:=q7; exact again I7 n7
  | brk=>obtain ⟨σ7,H7,I7,q7⟩:=q7; exact ⟨σ7,H7,I7.unpinned,q7⟩
  | ret v=>obtain ⟨x7,σ7,H7,I7,r7,q7⟩:=q7; exact ⟨x7,σ7,H7,I7.unpinned,r7,q7⟩
end
theorem zAQ {K:PySem.W.Frag} {a:Addr} {xs:List V} {g:TG} {tb:TS} {D:Ym} {σ:St} {H:Hp} (Pv:Nat->St->Hp->Prop) (h0:Pv 0 σ H) (hl:∀i σ H,i≤xs.length->Pv i σ H->zQ K H a xs)
  (hs:∀i x σ H,xs[i]?=some x->Pv i σ H->g x σ H λσ2 H2=>tb {D with nx:=Pv (i+1),ct:=Pv (i+1),bk:=D.nx} σ2 H2) (hd:∀σ H,Pv xs.length σ H->D.nx σ H):
  ∃W:Nat->Nat->St->Hp->Prop,(∃m,W 0 m σ H)/\∀i m σ H,W i m σ H->
   ((Itl K a).stop i H/\D.nx σ H)\/((Itl K a).go i H/\∃N:St->Hp->Prop,(∀σ' H',N σ' H'->∃m',m'<m/\W (i+1) m' σ' H')/\∀x H',(Itl K a).yld i H x H'->g x σ H' λσ2 H2=>tb {D with nx:=N,ct:=N,bk:=D.nx} σ2 H2):=by
 refine ⟨λi m σ H=>m=xs.length - i/\i≤xs.length/\Pv i σ H,⟨xs.length,by simp,QG _,h0⟩,?_⟩;rintro i m σ H ⟨rfl,hi,p⟩;have q:=hl i σ H hi p;by_cases hlt:i<xs.length
 ·refine .inr ⟨⟨xs,xs[i],q,by simp [hlt]⟩,Pv (i+1),λσ' H' p'=>⟨xs.length - (i+1),by omega,rfl,hlt,p'⟩,λx H' y=>?_⟩
  obtain ⟨e,y⟩:=y;subst e;exact hs i x σ _ (y xs q) p
 ·have e:i=xs.length:=by omega
  subst e;exact .inl ⟨⟨xs,q,qE _⟩,hd σ H p⟩
theorem zDo {lo:Int} {n:Nat} {g:TG} {tb:TS} {D:Ym} {σ:St} {H:Hp} (Pv:Nat->St->Hp->Prop) (h0:Pv 0 σ H)
  (hs:∀i σ H,i<n->Pv i σ H->g (.int (lo+i)) σ H λσ2 H2=>tb {D with nx:=Pv (i+1),ct:=Pv (i+1),bk:=D.nx} σ2 H2) (hd:∀σ H,Pv n σ H->D.nx σ H):
  ∃W:Nat->Nat->St->Hp->Prop,(∃m,W 0 m σ H)/\∀i m σ H,W i m σ H->
   ((Itr lo n).stop i H/\D.nx σ H)\/((Itr lo n).go i H/\∃N:St->Hp->Prop,(∀σ' H',N σ' H'->∃m',m'<m/\W (i+1) m' σ' H')/\∀x H',(Itr lo n).yld i H x H'->g x σ H' λσ2 H2=>tb {D with nx:=N,ct:=N,bk:=D.nx} σ2 H2):=by
 refine ⟨λi m σ H=>m=n - i/\i≤n/\Pv i σ H,⟨n,by simp,QG _,h0⟩,?_⟩;rintro i m σ H ⟨rfl,hi,p⟩;by_cases hlt:i<n
 ·refine .inr ⟨hlt,Pv (i+1),λσ' H' p'=>⟨n - (i+1),by omega,rfl,hlt,p'⟩,λx H' y=>?_⟩
  obtain ⟨e,y⟩:=y;subst e y;exact hs i σ _ hlt p
 ·have e:i=n:=by omega
  subst e;exact .inl ⟨qE _,hd σ H p⟩
end L2
namespace L2
open PySem PySem.Spec PyProof.Rows
abbrev R2:=V->V->Hp->VK->Prop
def yN (X:Cx) (f:Value->Value->Sem Value) (r:R2):Prop:=
 ∀(pins:List (Addr×Obj)) (s:Shared) (σ:St) (H:Hp) (x y:V) (v u:Value) (Q:VK),zN X pins σ H s->zn x v->zn y u->r x y H Q->
  wpAny (model X.prog X.w) X.A (f v u) (EP X pins σ Q) X.xe s
def UnR (X:Cx) (f:Value->Sem Value) (r:V->Hp->VK->Prop):Prop:=
 ∀(pins:List (Addr×Obj)) (s:Shared) (σ:St) (H:Hp) (x:V) (v:Value) (Q:VK),zN X pins σ H s->zn x v->r x H Q->
  wpAny (model X.prog X.w) X.A (f v) (EP X pins σ Q) X.xe s
def yS (X:Cx) (f:Value) (r:List V->Hp->VK->Prop):Prop:=
 ∀(pins:List (Addr×Obj)) (s:Shared) (σ:St) (H:Hp) (xs:List V) (us:List Value) (Q:VK),zN X pins σ H s->zi xs us->r xs H Q->
  wpAny (model X.prog X.w) X.A (call f us) (EP X pins σ Q) X.xe s
def zRu (X:Cx) (r:V->Hp->(Bool->Hp->Prop)->Prop):Prop:=
 ∀(pins:List (Addr×Obj)) (s:Shared) (σ:St) (H:Hp) (x:V) (v:Value) (Q:Bool->Hp->Prop),zN X pins σ H s->zn x v->r x H Q->
  wpAny (model X.prog X.w) X.A (truthy v) (TP X pins σ Q) X.xe s
def tOp (r:R2) (ta tb:TE):TE:=λσ H Q=>ta σ H λx H1=>tb σ H1 λy H2=>r x y H2 Q
def tUn (r:V->Hp->VK->Prop) (ta:TE):TE:=λσ H Q=>ta σ H λx H1=>r x H1 Q
def rI (C:Int->Int->Prop) (g:Int->Int->V):R2:=λx y H Q=>∃i j,x= .int i/\y= .int j/\C i j/\Q (g i j) H
def rI0 (g:Int->Int->V):R2:=λx y H Q=>∃i j,x= .int i/\y= .int j/\Q (g i j) H
def rU (g:Int->V):V->Hp->VK->Prop:=λx H Q=>∃i,x= .int i/\Q (g i) H
section
variable {X:Cx} {a b c:Expr} {ta tb tc:TE} {pos:Pos}
theorem zKH (ha:PE X a ta) (hb:PE X b tb) {pins:List (Addr×Obj)} {s:Shared} {σ:St} {H:Hp} {R:V->V->Hp->Prop} (I:zN X pins σ H s)
  (h:ta σ H λx H1=>tb σ H1 λy H2=>R x y H2) {Q:Value->Shared->Prop} {f:Value->Value->Sem Value}
  (hf:∀v u s2 x y H2,zN X pins σ H2 s2->zn x v->zn y u->R x y H2->wpAny (model X.prog X.w) X.A (f v u) Q X.xe s2):
  wpAny (model X.prog X.w) X.A (eval a X.env) (λv s₁=>wpAny (model X.prog X.w) X.A (eval b X.env) (λu s₂=>wpAny (model X.prog X.w) X.A (f v u) Q X.xe s₂) X.xe s₁) X.xe s:=by
 refine zj (ha pins s σ H _ I h) λv s1 ⟨x,H1,I1,r1,q1⟩=>?_
 refine zj (hb pins s1 σ H1 _ I1 q1) λu s2 ⟨y,H2,I2,r2,q2⟩=>?_
 exact hf v u s2 x y H2 I2 r1 r2 q2
theorem zZ {op:Operator} {r:R2} (ho:yN X (binaryOp op) r) (ha:PE X a ta) (hb:PE X b tb):PE X (.BinOp a op b pos) (tOp r ta tb):=by
 intro pins s σ H Q I h;exact wpAny_BinOp (zKH ha hb I h λv u s2 x y H2 I2 rx ry q=>ho pins s2 σ H2 x y v u Q I2 rx ry q)
theorem zCL {op:UnaryOp} {r:V->Hp->VK->Prop} (ho:UnR X (unaryOp op) r) (ha:PE X a ta):PE X (.UnaryOp op a pos) (tUn r ta):=by
 intro pins s σ H Q I h;exact UnaryOp_ (zj (ha pins s σ H _ I h) λv s1 ⟨x,H1,I1,r1,q1⟩=>ho pins s1 σ H1 x v Q I1 r1 q1)
theorem opI {f:Value->Value->Sem Value} {C:Int->Int->Prop} {g:Int->Int->Int}
  (rule:∀(i j:Int) (t u:Tok) (s:Shared) (Q:Value->Shared->Prop) (E:Value->Shared->Prop),C i j->Q (.int (g i j) s.toks) {s with toks:=s.toks+1}->wpAny (model X.prog X.w) X.A (f (.int i t) (.int j u)) Q E s):
  yN X f (rI C λi j=> .int (g i j)):=by
 intro pins s σ H x y v u Q I rx ry h;obtain ⟨i,j,rfl,rfl,hc,q⟩:=h;obtain ⟨t,rfl⟩:=rx;obtain ⟨t',rfl⟩:=ry;exact rule i j t t' s _ _ hc ⟨.int (g i j),H,I.tok _,⟨_,rfl⟩,q⟩
theorem zKe {f:Value->Value->Sem Value} {g:Int->Int->Int}
  (rule:∀(i j:Int) (t u:Tok) (s:Shared) (Q:Value->Shared->Prop) (E:Value->Shared->Prop),Q (.int (g i j) s.toks) {s with toks:=s.toks+1}->wpAny (model X.prog X.w) X.A (f (.int i t) (.int j u)) Q E s):
  yN X f (rI0 λi j=> .int (g i j)):=by
 intro pins s σ H x y v u Q I rx ry h;obtain ⟨i,j,rfl,rfl,q⟩:=h;obtain ⟨t,rfl⟩:=rx;obtain ⟨t',rfl⟩:=ry;exact rule i j t t' s _ _ ⟨.int (g i j),H,I.tok _,⟨_,rfl⟩,q⟩
theorem zGr {f:Value->Value->Sem Value} {g:Int->Int->Bool}
  (rule:∀(i j:Int) (t u:Tok) (s:Shared) (Q:Value->Shared->Prop) (E:Value->Shared->Prop),Q (.bool (g i j)) s->wpAny (model X.prog X.w) X.A (f (.int i t) (.int j u)) Q E s):
  yN X f (rI0 λi j=> .bl (g i j)):=by
 intro pins s σ H x y v u Q I rx ry h;obtain ⟨i,j,rfl,rfl,q⟩:=h;obtain ⟨t,rfl⟩:=rx;obtain ⟨t',rfl⟩:=ry;exact rule i j t t' s _ _ ⟨.bl (g i j),H,I,rfl,q⟩
def zSH (i j:Int):Prop:=0<j/\j<1073741824
def zSc (i j:Int):Prop:=0≤j/\j≤1000000/\i.natAbs<2^64
def zKX (i j:Int):Prop:=(-(2^64)<i/\i<2^64)\/(-(2^64)<j/\j<2^64)
theorem zKX.ok {i j:Int} (h:zKX i j):IntMulOk i j:=by
 rcases h with ⟨h1,h2⟩ | ⟨h1,h2⟩
 ·exact .of_left (intBits_le_64 h1 h2)
 ·exact .of_right (intBits_le_64 h1 h2)
theorem YG:yN X (binaryOp .Add) (rI0 λi j=> .int (i+j)):=zKe λ_ _ _ _ _ _ _ q=>add_int q
theorem Yz:yN X (binaryOp .Sub) (rI0 λi j=> .int (i - j)):=zKe λ_ _ _ _ _ _ _ q=>sub_int q
theorem zAA:yN X (binaryOp .Mult) (rI zKX λi j=> .int (i*j)):=opI λ_ _ _ _ _ _ _ hc q=>mul_int q hc.ok
theorem yR:yN X (binaryOp .FloorDiv) (rI zSH λi j=> .int (i / j)):=opI λi j _ _ _ _ _ hc q=>by
 have h1:(0:Int)<j:=hc.1;have h2:j<1073741824:=hc.2;exact floordiv_int (by omega) (by rw [Int.fdiv_eq_ediv_of_nonneg i (by omega)]; exact q) (.inl (PyProof.noPylong_small (by omega)))
theorem yG:yN X (binaryOp .Mod) (rI (λ_ j=>0<j) λi j=> .int (i % j)):=opI λi j _ _ _ _ _ hc q=>by
 have h1:(0:Int)<j:=hc;exact mod_int' (by omega) (by rw [Int.fmod_eq_emod_of_nonneg i (by omega)]; exact q)
theorem ju:yN X (binaryOp .LShift) (rI zSc λi j=> .int (i*2^j.toNat)):=opI λ_ _ _ _ _ _ _ hc q=>lshift_int_small hc.1 hc.2.1 hc.2.2 q
theorem zOI:yN X (binaryOp .BitAnd) (rI0 λi j=> .int (Builtin.bitAnd i j)):=zKe λ_ _ _ _ _ _ _ q=>and_int q
theorem unI {f:Value->Sem Value} {g:Int->Int}
  (rule:∀(i:Int) (t:Tok) (s:Shared) (Q:Value->Shared->Prop) (E:Value->Shared->Prop),Q (.int (g i) s.toks) {s with toks:=s.toks+1}->wpAny (model X.prog X.w) X.A (f (.int i t)) Q E s):
  UnR X f (rU λi=> .int (g i)):=by
 intro pins s σ H x v Q I rx h;obtain ⟨i,rfl,q⟩:=h;obtain ⟨t,rfl⟩:=rx;exact rule i t s _ _ ⟨.int (g i),H,I.tok _,⟨_,rfl⟩,q⟩
theorem zAq:UnR X (unaryOp .USub) (rU λi=> .int (-i)):=unI λ_ _ _ _ _ q=>neg_int q
end
def zPt:V->V->Bool
 | .non, .non=>true | .non, .int _=>true | .int _, .non=>true | .non, .bl _=>true | .bl _, .non=>true | .non, .str _=>true | .str _, .non=>true
 | .int _, .int _=>true | .bl _, .bl _=>true | .str _, .str _=>true | .byt _, .byt _=>true
 | .int _, .str _=>true | .str _, .int _=>true | .bl _, .str _=>true | .str _, .bl _=>true
 | _,_=>false
def rEq:R2:=λx y H Q=>zPt x y=true/\Q (.bl (decide (x=y))) H
def rNe:R2:=λx y H Q=>zPt x y=true/\Q (.bl (!decide (x=y))) H
theorem zGa {i j:Int}:decide (V.int i=V.int j)=(i==j):=by
 rw [QY];simp
theorem zJS {i j:Bool}:decide (V.bl i=V.bl j)=(i==j):=by
 rw [QY];simp
theorem zGd {i j:Str}:decide (V.str i=V.str j)=(i==j):=by
 rw [QY];simp
theorem zGZ {i j:Array UInt8}:decide (V.byt i=V.byt j)=(i.toList==j.toList):=by
 rw [QY];cases i;cases j;simp
section
variable {X:Cx} {a b c:Expr} {ta tb tc:TE} {pos:Pos}
theorem ZR {pins:List (Addr×Obj)} {σ:St} {H:Hp} {s:Shared} {Q:VK} {k k':Bool} (I:zN X pins σ H s) (q:Q (.bl k) H) (e:k=k'):EP X pins σ Q (.bool k') s:=by
 subst e;exact ⟨.bl k,H,I,rfl,q⟩
theorem ye:yN X (compareOp .Eq) rEq:=by
 intro pins s σ H x y v u Q I rx ry h;obtain ⟨hs,q⟩:=h;cases x with
 | non=>
  cases rx;cases y with
  | non=>cases ry; exact PySem.EqNone.eq_none_none (ZR I q (by simp))
  | bl j=>cases ry; exact PySem.EqNone.eq_none_bool (ZR I q (by simp))
  | int j=>obtain ⟨t',rfl⟩:=ry; exact PySem.EqNone.eq_none_int (ZR I q (by simp))
  | str j=>obtain ⟨t',rfl⟩:=ry; exact PySem.EqNone.eq_none_str (ZR I q (by simp))
  | _=>exact absurd (show false=true from hs) qN
 | bl i=>
  cases rx;cases y with
  | non=>cases ry; exact PySem.EqNone.eq_bool_none (ZR I q (by simp))
  | bl j=>cases ry; exact eq_bool (ZR I q zJS)
  | str j=>obtain ⟨t',rfl⟩:=ry; exact PySem.EqMixed.eq_bool_str (ZR I q (by simp))
  | _=>exact absurd (show false=true from hs) qN
 | int i=>
  obtain ⟨t,rfl⟩:=rx;cases y with
  | non=>cases ry; exact PySem.EqNone.eq_int_none (ZR I q (by simp))
  | int j=>obtain ⟨t',rfl⟩:=ry; exact eq_int (ZR I q zGa)
  | str j=>obtain ⟨t',rfl⟩:=ry; exact PySem.EqMixed.eq_int_str (ZR I q (by simp))
  | _=>exact absurd (show false=true from hs) qN
 | str i=>
  obtain ⟨t,rfl⟩:=rx;cases y with
  | non=>cases ry; exact PySem.EqNone.eq_str_none (ZR I q (by simp))
  | bl j=>cases ry; exact PySem.EqMixed.eq_str_bool (ZR I q (by simp))
  | int j=>obtain ⟨t',rfl⟩:=ry; exact PySem.EqMixed.eq_str_int (ZR I q (by simp))
  | str j=>obtain ⟨t',rfl⟩:=ry; exact eq_str (ZR I q zGd)
  | _=>exact absurd (show false=true from hs) qN
 | byt i=>
  obtain ⟨t,rfl⟩:=rx;cases y with
  | byt j=>obtain ⟨t',rfl⟩:=ry; exact PySem.W.eq_bytes (ZR I q zGZ)
  | _=>exact absurd (show false=true from hs) qN
 | _=>cases y <;> exact absurd (show false=true from hs) qN
theorem zAH:yN X (compareOp .NotEq) rNe:=by
 intro pins s σ H x y v u Q I rx ry h;obtain ⟨hs,q⟩:=h;cases x with
 | non=>
  cases rx;cases y with
  | non=>cases ry; exact PySem.EqNone.ne_none_none (ZR I q (by simp))
  | bl j=>cases ry; exact PySem.EqNone.ne_none_bool (ZR I q (by simp))
  | int j=>obtain ⟨t',rfl⟩:=ry; exact PySem.EqNone.ne_none_int (ZR I q (by simp))
  | str j=>obtain ⟨t',rfl⟩:=ry; exact PySem.EqNone.ne_none_str (ZR I q (by simp))
  | _=>exact absurd (show false=true from hs) qN
 | bl i=>
  cases rx;cases y with
  | non=>cases ry; exact PySem.EqNone.ne_bool_none (ZR I q (by simp))
  | bl j=>cases ry; exact ne_bool (ZR I q (congrArg not zJS))
  | str j=>obtain ⟨t',rfl⟩:=ry; exact PySem.EqMixed.ne_bool_str (ZR I q (by simp))
  | _=>exact absurd (show false=true from hs) qN
 | int i=>
  obtain ⟨t,rfl⟩:=rx;cases y with
  | non=>cases ry; exact PySem.EqNone.ne_int_none (ZR I q (by simp))
  | int j=>obtain ⟨t',rfl⟩:=ry; exact ne_int (ZR I q (congrArg not zGa))
  | str j=>obtain ⟨t',rfl⟩:=ry; exact PySem.EqMixed.ne_int_str (ZR I q (by simp))
  | _=>exact absurd (show false=true from hs) qN
 | str i=>
  obtain ⟨t,rfl⟩:=rx;cases y with
  | non=>cases ry; exact PySem.EqNone.ne_str_none (ZR I q (by simp))
  | bl j=>cases ry; exact PySem.EqMixed.ne_str_bool (ZR I q (by simp))
  | int j=>obtain ⟨t',rfl⟩:=ry; exact PySem.EqMixed.ne_str_int (ZR I q (by simp))
  | str j=>obtain ⟨t',rfl⟩:=ry; exact ne_str (ZR I q (congrArg not zGd))
  | _=>exact absurd (show false=true from hs) qN
 | byt i=>
  obtain ⟨t,rfl⟩:=rx;cases y with
  | byt j=>obtain ⟨t',rfl⟩:=ry; exact PySem.W.ne_bytes (ZR I q (congrArg not zGZ))
  | _=>exact absurd (show false=true from hs) qN
 | _=>cases y <;> exact absurd (show false=true from hs) qN
theorem zBD:yN X (compareOp .Lt) (rI0 λi j=> .bl (decide (i<j))):=zGr λ_ _ _ _ _ _ _ q=>lt_int q
theorem JA:yN X (compareOp .LtE) (rI0 λi j=> .bl (decide (i≤j))):=zGr λ_ _ _ _ _ _ _ q=>le_int q
theorem zLm:yN X (compareOp .Gt) (rI0 λi j=> .bl (decide (j<i))):=zGr λ_ _ _ _ _ _ _ q=>gt_int q
theorem zCN:yN X (compareOp .GtE) (rI0 λi j=> .bl (decide (j≤i))):=zGr λ_ _ _ _ _ _ _ q=>ge_int q
theorem zIq:yN X (compareOp .Is) (λx y H Q=>y= .non/\Q (.bl (decide (x= .non))) H):=by
 intro pins s σ H x y v u Q I rx ry h;obtain ⟨rfl,q⟩:=h;cases ry;refine is_none_gen (ZR I q ?_);cases x <;> first
  | (cases rx; rfl)
  | (obtain ⟨t,rfl⟩:=rx; rfl)
theorem zND:yN X (compareOp .IsNot) (λx y H Q=>y= .non/\Q (.bl (!decide (x= .non))) H):=by
 intro pins s σ H x y v u Q I rx ry h;obtain ⟨rfl,q⟩:=h;cases ry;refine isnot_none_gen (ZR I q ?_);cases x <;> first
  | (cases rx; rfl)
  | (obtain ⟨t,rfl⟩:=rx; rfl)
theorem zk (b:Expr) {op:CmpOp} (h:op≠ .In:=by decide) (h2:op≠ .NotIn:=by decide):behindInMarks op b=false:=by
 have e1:(op==CmpOp.In)=false:=by cases op <;> first | rfl | exact absurd rfl h
 have e2:(op==CmpOp.NotIn)=false:=by cases op <;> first | rfl | exact absurd rfl h2
 cases b <;> simp [behindInMarks,e1,e2]
theorem Z4 {op:CmpOp} {r:R2} (ho:yN X (compareOp op) r) (ha:PE X a ta) (hb:PE X b tb) (hm:behindInMarks op b=false):PE X (.Compare a [op] [b] pos) (tOp r ta tb):=by
 intro pins s σ H Q I h;exact wpAny_Compare1 (zKH ha hb I h λv u s2 x y H2 I2 rx ry q=>ho pins s2 σ H2 x y v u Q I2 rx ry q) hm
def zMA (t:TE):TT:=λσ H Q=>t σ H λx H'=>∃k,x= .bl k/\Q k H'
theorem zh {op:CmpOp} {r:R2} (ho:yN X (compareOp op) r) (ha:PE X a ta) (hb:PE X b tb) (hm:behindInMarks op b=false):PT X (.Compare a [op] [b] pos) (zMA (tOp r ta tb)):=by
 intro pins s σ H Q I h;refine wpAny_isTrue_Compare1 (zj (ha pins s σ H _ I h) λv s1 ⟨x,H1,I1,r1,q1⟩=>zj (hb pins s1 σ H1 _ I1 q1) λu s2 ⟨y,H2,I2,r2,q2⟩=>
  zj (ho pins s2 σ H2 x y v u _ I2 r1 r2 q2) λc s3 ⟨z,H3,I3,r3,k,e,q3⟩=>?_) hm
 subst e;cases r3;exact wpAny_truthy_bool ⟨H3,I3,q3⟩
def zOt (r r':R2) (ta tb tc:TE):TE:=λσ H Q=>ta σ H λx H1=>tb σ H1 λy H2=>r x y H2 λz H3=>∃k,z= .bl k/\
 (if k=true then tc σ H3 λw' H4=>r' y w' H4 Q else Q (.bl false) H3)
theorem zBs {op op':CmpOp} {r r':R2} (ho:yN X (compareOp op) r) (ho':yN X (compareOp op') r') (ha:PE X a ta) (hb:PE X b tb) (hc:PE X c tc)
  (hm:lastMarks [op,op'] [b,c]=false:=by with_unfolding_all rfl):PT X (.Compare a [op,op'] [b,c] pos) (zMA (zOt r r' ta tb tc)):=by
 intro pins s σ H Q I h;refine isTrue_chain (zj (ha pins s σ H _ I h) λv s1 ⟨x,H1,I1,r1,q1⟩=>test_link (zj (hb pins s1 σ H1 _ I1 q1) λu s2 ⟨y,H2,I2,r2,q2⟩=>
  zj (ho pins s2 σ H2 x y v u _ I2 r1 r2 q2) λd s3 ⟨z,H3,I3,r3,k,e,q3⟩=>?_)) hm
 subst e;cases r3;refine wpAny_truthy_bool ?_;cases k with
 | false=>
  obtain ⟨k',e',q'⟩:=q3;cases e';exact ite_ff ⟨H3,I3,q'⟩
 | true=>
  refine ite_tt (test_last (zj (hc pins s3 σ H3 _ I3 q3) λw' s4 ⟨z',H4,I4,r4,q4⟩=>zj (ho' pins s4 σ H4 y z' u w' _ I4 r2 r4 q4) λd' s5 ⟨z2,H5,I5,r5,k2,e2,q5⟩=>?_));subst e2;cases r5;exact wpAny_truthy_bool ⟨H5,I5,q5⟩
def zOS (K:PySem.W.Frag) (x:V) (H:Hp) (k:Bool):Prop:=
 match x with
 | .non=>k=false
 | .bl b=>k=b
 | .int i=>k=(i !=0)
 | .str y=>y.length≤sizeLine/\k=((y.length:Int) !=0)
 | .byt y=>y.size≤sizeLine/\k=((y.size:Int) !=0)
 | .ref p=>(∃xs,zQ K H p xs/\k= !xs.isEmpty)\/(∃xs,Zd K H p xs/\k= !xs.isEmpty)\/∃kvs,H p=some (.dK kvs)/\k= !kvs.isEmpty
 | _=>False
theorem zHl {κ:Type} {kvs:List (κ×V)} {vs:List (κ×Value)} (r:KV kvs vs):(!vs.isEmpty)= !kvs.isEmpty:=by
 cases r <;> rfl
theorem zCS {xs:List V} {its:List Value} (r:zi xs its):(!its.toArray.isEmpty)= !xs.isEmpty:=by
 cases r <;> simp
theorem JS:(sizeLine:Nat)<2^63:=by rw [sizeLine_eq]; decide
theorem zQC:zRu X (λx H Q=>∃k,zOS X.K x H k/\Q k H):=by
 intro pins s σ H x v Q I rx h;obtain ⟨k,e,q⟩:=h;have hl:=JS;have hs:sizeLine=16777216:=sizeLine_eq;cases x with
 | non=>
  cases rx;have e':k=false:=e;subst e';exact truthy_none ⟨H,I,q⟩
 | bl b=>
  cases rx;have e':k=b:=e;subst e';exact wpAny_truthy_bool ⟨H,I,q⟩
 | int i=>
  obtain ⟨t,rfl⟩:=rx;have e':k=(i !=0):=e;subst e';exact PySem.P.truthy_int ⟨H,I,q⟩
 | str y=>
  obtain ⟨t,rfl⟩:=rx;obtain ⟨hy,e'⟩:y.length≤sizeLine/\k=((y.length:Int) !=0):=e;subst e';exact PySem.P.truthy_str (by omega) ⟨H,I.tok _,q⟩
 | byt y=>
  obtain ⟨t,rfl⟩:=rx;obtain ⟨hy,e'⟩:y.size≤sizeLine/\k=((y.size:Int) !=0):=e;subst e';exact PySem.W.truthy_bytes (by omega) ⟨H,I.tok _,q⟩
 | ref p=>
  cases rx;have e':(∃xs,zQ X.K H p xs/\k= !xs.isEmpty)\/(∃xs,Zd X.K H p xs/\k= !xs.isEmpty)\/∃kvs,H p=some (.dK kvs)/\k= !kvs.isEmpty:=e;rcases e' with ⟨xs,hx,e'⟩ | ⟨xs,hx,e'⟩ | ⟨kvs,hx,e'⟩
  ·subst e'
   obtain ⟨its,r,pl,hz⟩:=I.list hx;have hlen:=r.length;exact wpAny_truthy_list pl.isList (by simp only [qV]; omega) ⟨H,I.tok _,by rw [zCS r]; exact q⟩
  ·subst e'
   obtain ⟨its,r,pl,hz⟩:=I.tuple hx;have hlen:=r.length;exact truthy_tuple pl (by simp only [qV]; omega) ⟨H,I.tok _,by rw [zCS r]; exact q⟩
  ·subst e'
   obtain ⟨hz,hS,vs,r,m⟩:kvs.length≤sizeLine/\(p==sysModules)=false/\∃vs,KV kvs vs/\s.heap.DictOf (ZV X.prog X.w) p vs:=I.hok p _ hx;have hlen:kvs.length=vs.length:=Paired.length r;exact wpAny_truthy_dict hS m (by omega) ⟨H,I.tok _,by rw [zHl r]; exact q⟩
 | _=>exact (show False from e).elim
theorem zLb (ha:PE X a ta) (he:∀whole,isTrue a X.env whole=(do let v <-whole; standAt a.pos; holding [v] (truthy v))):
  PT X a (λσ H Q=>ta σ H λx H'=>∃k,zOS X.K x H' k/\Q k H'):=by
 intro pins s σ H Q I h;exact isTrue_plain (zj (ha pins s σ H _ I h) λv s1 ⟨x,H1,I1,r1,q1⟩=>zQC pins s1 σ H1 x v Q I1 r1 q1) (he _)
theorem ZX:yN X (binaryOp .Add) (λx y H Q=>∃i j,x= .str i/\y= .str j/\i.length+j.length≤sizeLine/\Q (.str (i++j)) H):=by
 intro pins s σ H x y v u Q I rx ry h;obtain ⟨i,j,rfl,rfl,hz,q⟩:=h;obtain ⟨t,rfl⟩:=rx;obtain ⟨t',rfl⟩:=ry;exact add_str (λt' tk=>⟨.str (i++j),H,I.tok _,⟨_,rfl⟩,q⟩) hz
theorem zEZ {x:V} {us:List Value} (r:zi [x] us):∃u,us=[u]/\zn x u:=by
 cases r with
 | cons r1 r2=>cases r2; exact ⟨_,rfl,r1⟩
theorem zMH {x y:V} {us:List Value} (r:zi [x,y] us):∃u w',us=[u,w']/\zn x u/\zn y w':=by
 cases r with
 | cons r1 r2=>
  cases r2 with
  | cons r3 r4=>cases r4; exact ⟨_,_,rfl,r1,r3⟩
theorem zLe:yS X (.builtin "abs") (λxs H Q=>∃i,xs=[.int i]/\Q (.int (if i<0 then -i else i)) H):=by
 intro pins s σ H xs us Q I r h;obtain ⟨i,rfl,q⟩:=h;obtain ⟨u,rfl,t,rfl⟩:=zEZ r;exact call_abs_int λu tk=>⟨.int (if i<0 then -i else i),H,I.tok _,⟨_,rfl⟩,q⟩
theorem zJf (hc:X.calm=true):yS X (.builtin "max") (λxs H Q=>∃i j,xs=[.int i, .int j]/\Q (.int (if j > i then j else i)) H):=by
 intro pins s σ H xs us Q I r h;obtain ⟨i,j,rfl,q⟩:=h;obtain ⟨u,w',rfl,⟨t,rfl⟩,⟨t',rfl⟩⟩:=zMH r;refine max_two_ints (I.ok.hd hc) λh' tk k=>⟨_,H,I.kept k,?_,q⟩
 by_cases hj:j > i
 ·rw [if_pos hj,if_pos hj]; exact ⟨_,rfl⟩
 ·rw [if_neg hj,if_neg hj]; exact ⟨_,rfl⟩
theorem zIT (hc:X.calm=true):yS X (.builtin "min") (λxs H Q=>∃i j,xs=[.int i, .int j]/\Q (.int (if j<i then j else i)) H):=by
 intro pins s σ H xs us Q I r h;obtain ⟨i,j,rfl,q⟩:=h;obtain ⟨u,w',rfl,⟨t,rfl⟩,⟨t',rfl⟩⟩:=zMH r;refine min_two_ints (I.ok.hd hc) λh' tk k=>⟨_,H,I.kept k,?_,q⟩
 by_cases hj:j<i
 ·rw [if_pos hj,if_pos hj]; exact ⟨_,rfl⟩
 ·rw [if_neg hj,if_neg hj]; exact ⟨_,rfl⟩
end
end L2
namespace L2
open PySem PySem.Spec PyProof.Rows
structure zBw (h:Heap) (x dx C:Addr) (mA:Str->Option Value):Prop where
 obj:h.get? x=some (PySem.W.instObj C dx)
 ns:h.Ns1 dx mA
 ne:dx≠x
theorem zJC {h:Heap} {dx:Addr} {mA:Str->Option Value} (n:h.Ns1 dx mA):∃od,h.get? dx=some od/\∀name,PySem.W.lookIn name od=some (mA name):=by
 obtain ⟨o,es,ep,ho,hd,hk,_,hm⟩:=n;refine ⟨o,ho,λname=>?_⟩;have e:=hm name;unfold nsFind findBy at e;rw [<-Array.find?_toList] at e;unfold PySem.W.lookIn;rw [hd];dsimp only
 split
 ·rename_i y q
  rw [q] at e;exact congrArg some e
 ·rename_i q
  rw [q] at e;have a:es.toList.any (·.refKey)=false:=by
   rw [List.any_eq_false];intro y hy;obtain ⟨z,t,hkey⟩:=hk y (Array.mem_toList_iff.mp hy);simp [DictEntry.refKey,hkey]
  have a':¬es.toList.any (·.refKey)=true:=by rw [a]; exact qN
  rw [if_neg a'];exact congrArg some e
theorem zBw.look {h:Heap} {x dx C:Addr} {mA:Str->Option Value} (I:zBw h x dx C mA):∃od,PySem.W.InstAt h x (PySem.W.instObj C dx) C (some od)/\∀name,PySem.W.lookIn name od=some (mA name):=
 let ⟨od,ho,hl⟩:=zJC I.ns
 ⟨od,⟨I.obj,rfl,rfl,ho⟩,hl⟩
section
variable {prog:Program} {w:World} {A:Around} {E:Value->Shared->Prop} {s:Shared} {K:PySem.W.Frag} {x dx C f:Addr} {mA:Str->Option Value} {name:Str} {v:Value}
theorem zMs {expr:Bool} {Q:Value->Shared->Prop} (X:K.In s.heap) (I:zBw s.heap x dx C mA) (hg:PySem.W.plainGet K C name=true) (hh:PySem.W.hasDictIn K C=true)
  (ha:PySem.W.findIn K (.ref C) name=some none) (hv:mA name=some v) (hv':PySem.W.handedIn v=true) (h:Q v {s with toks:=s.toks+1}):
  wpAny (model prog w) A (getAttr (.ref x) name expr) Q E s:=by
 obtain ⟨od,J,hl⟩:=I.look;exact PySem.W.get_value X J (PySem.W.plainGet_of hg).1 (PySem.W.findObj_own hh ha rfl (by rw [hl,hv])) hv' h
theorem zKR {pl:Sem Bool} {Q:Value×List Value->Shared->Prop} (X:K.In s.heap) (I:zBw s.heap x dx C mA) (hg:PySem.W.plainGet K C name=true)
  (hf:PySem.W.findIn K (.ref C) name=some (some (.ref f))) (ht:PySem.W.isFn K (.ref f)=true) (hv:mA name=none) (h:Q (.ref f,[.ref x]) s):
  wpAny (model prog w) A (getMethod (.ref x) name pl) Q E s:=by
 obtain ⟨od,J,hl⟩:=I.look;exact PySem.W.method_fn X J (PySem.W.plainGet_of hg).1 (PySem.W.plainGet_of hg).2 hf (beq_iff_eq.mp ht) (by show (PySem.W.lookIn name od).map (·.isSome)=some false; rw [hl,hv]; rfl) h
theorem zNv {ns:List Str} {Q:Unit->Shared->Prop} (X:K.In s.heap) (I:zBw s.heap x dx C mA)
  (hs:PySem.W.findIn K (.ref C) "__setattr__"=some (some (.builtin "object.__setattr__"))) (hp:PySem.W.plainOver K C=true) (ht:PySem.W.takerIn K C name=some none) (hh:PySem.W.hasDictIn K C=true)
  (hw:PySem.Within mA ns) (hsz:ns.length≤sizeLine)
  (h:∀h',zBw h' x dx C (λy=>if y=name then some v else mA y)->Heap.SameBut dx s.heap h'->Q () {s with heap:=h',toks:=s.toks+2}):
  wpAny (model prog w) A (setAttr (.ref x) name v) Q E s:=by
 obtain ⟨od,J,hl⟩:=I.look;refine PySem.W.set_plain X J hs (PySem.W.osa_open (s:={s with toks:=s.toks+1}) (r:=none) X J hp ht λb=>?_);obtain ⟨cd,hc,hd'⟩:=PySem.W.any_some hh;have hx:s.heap.get? x=some ⟨.ref C,some dx, .plain,#[]⟩:=I.obj;refine wpAny_bind (wpAny_pure (wpAny_bind (wpAny_bind (wpAny_loadPart hx (wpAny_bind (PySem.W.Looks.here (s:={s with toks:=s.toks+1}) (PySem.W.looks_clsIn X hc) ?_))))));rw [hd'];refine wpAny_pure (a:=some dx) (wpAny_bind (wpAny_pure (wpAny_bind ?_)));refine wpAny_nsSet1 (s:={s with toks:=s.toks+1}) I.ns λh' hn2 hs2=>?_
 obtain ⟨oD,esD,epD,hoD,hdD,hcD⟩:=hn2.count (PySem.Within.cons name v hw);refine wpAny_bind (wpAny_lookBehind hoD (by rw [hdD]; exact pastItsLine_dict (qK hcD (by rw [qL]; omega))) ?_);exact wpAny_pure (h _ ⟨(hs2.2 _ (Ne.symm I.ne)).trans I.obj,hn2,I.ne⟩ hs2)
theorem zKg {R:Result->Shared->Prop} {vs:List Value} {kw:List (Str×Value)} (X:K.In s.heap) (hm:PySem.W.makesIn K C=true)
  (hi:PySem.W.findIn K (.ref C) "__init__"=some (some (.ref f))) (hf:PySem.W.typeIn K (.ref f)=some (.type "function"))
  (h:codeAny (model prog w) (A.under (.builtin "type.__call__" ⟨.ref C::vs,kw⟩)) (.call (.ref f) ⟨.ref (s.heap.objs.size+1)::vs,kw⟩) (PySem.W.InitBack (s.heap.objs.size+1) R)
   {s with heap:=(s.heap.push PySem.W.emptyDict).push (PySem.W.instObj C s.heap.objs.size)}):
  codeAny (model prog w) A (.call (.ref C) ⟨vs,kw⟩) R s:=by
 obtain ⟨hh,g,d,t,os⟩:=s;exact PySem.W.make_core (PySem.W.makes_of X hm) (PySem.W.looks_findIn X hi) (λself=>PySem.W.bind_fn X self hf) (.inl rfl) h
end
def yt (f:Str) (v:V):List (Str×V)->List (Str×V)
 | []=>[(f,v)]
 | (g,x)::r=>if g=f then (g,v)::r else (g,x)::yt f v r
theorem zBZ (f g:Str) (v:V):∀fs:List (Str×V),(yt f v fs).lookup g=if g=f then some v else fs.lookup g
 | []=>by
  show List.lookup g [(f,v)]=_;by_cases h:g=f
  ·have hb:(g==f)=true:=beq_iff_eq.mpr h
   simp only [List.lookup,hb,if_pos h]
  ·have hb:(g==f)=false:=beq_eq_false_iff_ne.mpr h
   simp only [List.lookup,hb,if_neg h]
 | (k,x)::r=>by
  have ih:=zBZ f g v r;rw [show yt f v ((k,x)::r)=(if k=f then (k,v)::r else (k,x)::yt f v r) from rfl];by_cases hk:k=f
  ·rw [if_pos hk]
   by_cases h:g=k
   ·have hb:(g==k)=true:=beq_iff_eq.mpr h
    simp only [List.lookup,hb,if_pos (h.trans hk)]
   ·have hb:(g==k)=false:=beq_eq_false_iff_ne.mpr h
    simp only [List.lookup,hb,if_neg (λe:g=f=>h (e.trans hk.symm))]
  ·rw [if_neg hk]
   by_cases h:g=k
   ·have hb:(g==k)=true:=beq_iff_eq.mpr h
    simp only [List.lookup,hb,if_neg (λe:g=f=>hk (h.symm.trans e))]
   ·have hb:(g==k)=false:=beq_eq_false_iff_ne.mpr h
    simp only [List.lookup,hb];exact ih
theorem zAm (f:Str) (v:V):∀fs:List (Str×V),f∈(yt f v fs).map (·.1)/\∀g,g∈fs.map (·.1)->g∈(yt f v fs).map (·.1)
 | []=>⟨by simp [yt],λg h=>by simp at h⟩
 | (k,x)::r=>by
  obtain ⟨i1,i2⟩:=zAm f v r;rw [show yt f v ((k,x)::r)=(if k=f then (k,v)::r else (k,x)::yt f v r) from rfl];by_cases hk:k=f
  ·rw [if_pos hk]
   subst hk;exact ⟨by simp,λg h=>by simpa using h⟩
  ·rw [if_neg hk]
   refine ⟨?_,λg h=>?_⟩
   ·rw [qQ]
    exact qF _ i1
   ·rw [qQ] at h ⊢
    rcases qG.mp h with e | e
    ·exact qG.mpr (.inl e)
    ·exact qF _ (i2 g e)
theorem zBa (f:Str) (v:V):∀fs:List (Str×V),(yt f v fs).length≤fs.length+1
 | []=>by simp [yt]
 | (k,x)::r=>by
  have ih:=zBa f v r;rw [show yt f v ((k,x)::r)=(if k=f then (k,v)::r else (k,x)::yt f v r) from rfl];by_cases hk:k=f
  ·rw [if_pos hk,qL,qL]; omega
  ·rw [if_neg hk,qL,qL]; omega
theorem Yn.some_of {v:V} {o:Option Value} (r:Yn (some v) o):∃u,o=some u/\zn v u:=by
 cases o with
 | none=>exact (show False from r).elim
 | some u=>exact ⟨u,rfl,r⟩
theorem Yn.none_of {o:Option Value} (r:Yn none o):o=none:=by
 cases o with
 | none=>rfl
 | some u=>exact (show False from r).elim
theorem zJT {v:V} {u:Value} (r:zn v u):PySem.W.handedIn u=true:=by
 cases v with
 | non=>cases (show u=Value.none from r); rfl
 | bl b=>cases (show u=Value.bool b from r); rfl
 | int i=>obtain ⟨t,e⟩:=(show ∃t,u=Value.int i t from r); cases e; rfl
 | str x=>obtain ⟨t,e⟩:=(show ∃t,u=Value.str x t from r); cases e; rfl
 | byt b=>obtain ⟨t,e⟩:=(show ∃t,u=Value.bytes b t from r); cases e; rfl
 | flt b=>obtain ⟨t,e⟩:=(show ∃t,u=Value.float b t from r); cases e; rfl
 | ref a=>cases (show u=Value.ref a from r); rfl
 | ty n=>cases (show u=Value.type n from r); rfl
section
variable {P:Program} {w:World} {H H':Hp} {h h':Heap} {a C dx:Addr} {fs fs':List (Str×V)}
theorem zBT (hok:yV P w H h) (e:H a=some (.ins C dx fs)):∃mA,zBw h a dx C mA/\(∀f,Yn (fs.lookup f) (mA f))/\PySem.Within mA (fs.map (·.1))/\fs.length≤1000/\H dx=some (.own a):=by
 obtain ⟨d,z,ne,ob,mA,n,r,q⟩:=(show ZU P w H h a (.ins C dx fs) from hok a _ e);exact ⟨mA,⟨ob,n,ne⟩,r,q,z,d⟩
end
structure JV (K:PySem.W.Frag) (C:Addr):Prop where
 pg:PySem.W.plainGet K C Str.empty=true
 hd:PySem.W.hasDictIn K C=true
 po:PySem.W.plainOver K C=true
 sa:PySem.W.findIn K (.ref C) "__setattr__"=some (some (.builtin "object.__setattr__"))
theorem JV.get {K:PySem.W.Frag} {C:Addr} (c:JV K C) (f:Str):PySem.W.plainGet K C f=true:=c.pg
def ZL (K:PySem.W.Frag) (C:Addr) (f:Str):Prop:=PySem.W.findIn K (.ref C) f=some none
theorem ZL.taker {K:PySem.W.Frag} {C:Addr} {f:Str} (n:ZL K C f):PySem.W.takerIn K C f=some none:=by
 unfold PySem.W.takerIn;rw [show PySem.W.findIn K (.ref C) f=some none from n];rfl
structure ZH (K:PySem.W.Frag) (C:Addr) (m:Str) (f:Addr):Prop where
 at_:PySem.W.findIn K (.ref C) m=some (some (.ref f))
 fn:PySem.W.isFn K (.ref f)=true
 kp:PySem.W.keepIn K (.ref f)=true
section
variable {X:Cx} {pins:List (Addr×Obj)} {σ:St} {H:Hp} {s:Shared} {a C dx:Addr} {fs:List (Str×V)} {f:Str} {v:V} {A:Around} {E:Value->Shared->Prop}
theorem zIE {b:Bool} {Q:Value->Shared->Prop} (I:zN X pins σ H s) (e:H a=some (.ins C dx fs)) (c:JV X.K C) (n:ZL X.K C f) (l:fs.lookup f=some v)
  (h:∀u s',zN X pins σ H s'->zn v u->Q u s'):wpAny (model X.prog X.w) A (getAttr (.ref a) f b) Q E s:=by
 obtain ⟨mA,O,r,_,_,_⟩:=zBT I.hok e;obtain ⟨u,hu,ru⟩:=Yn.some_of (v:=v) (o:=mA f) (by rw [<-l]; exact r f);exact zMs I.kIn O (c.get f) c.hd n hu (zJT ru) (h u _ (I.tok _) ru)
theorem zAe {m:Str} {g:Addr} {pl:Sem Bool} {Q:Value×List Value->Shared->Prop} (I:zN X pins σ H s) (e:H a=some (.ins C dx fs)) (c:JV X.K C) (k:ZH X.K C m g) (l:fs.lookup m=none)
  (h:Q (.ref g,[.ref a]) s):wpAny (model X.prog X.w) A (getMethod (.ref a) m pl) Q E s:=by
 obtain ⟨mA,O,r,_,_,_⟩:=zBT I.hok e;have hn:mA m=none:=Yn.none_of (by rw [<-l]; exact r m);exact zKR I.kIn O (c.get m) k.at_ k.fn hn h
theorem zGl {y:V} {u:Value} {Q:Unit->Shared->Prop} (I:zN X pins σ H s) (e:H a=some (.ins C dx fs)) (c:JV X.K C) (n:ZL X.K C f) (hl:fs.length<1000) (ry:zn y u)
  (h:∀s',zN X pins σ (upd H a (.ins C dx (yt f y fs))) s'->Q () s'):wpAny (model X.prog X.w) A (setAttr (.ref a) f u) Q E s:=by
 obtain ⟨mA,O,r,wi,_,ho⟩:=zBT I.hok e;have hz:(fs.map (·.1)).length≤sizeLine:=by rw [qA,sizeLine_eq]; omega
 refine zNv I.kIn O c.sa c.po n.taker c.hd wi hz λh' O' sb=>h _ ?_
 have hd:∃o,h'.get? dx=some o:=let ⟨o,_,_,e',_⟩:=O'.ns; ⟨o,e'⟩;refine I.write (x:=a) (e:=dx) (by rw [e]; exact True.intro) (.inr ho) (λb q hb z=>(sb.2 b hb).trans z) hd ?_;refine ⟨by rw [zI O.ne]; exact ho,?_,O.ne,O'.obj,_,O'.ns,λg=>?_,λg hg=>?_⟩
 ·have:=zBa f y fs; omega
 ·show Yn ((yt f y fs).lookup g) (if g=f then some u else mA g)
  rw [zBZ];by_cases q:g=f
  ·rw [if_pos q,if_pos q]; exact ry
  ·rw [if_neg q,if_neg q]; exact r g
 ·by_cases q:g=f
  ·rw [q]; exact (zAm f y fs).1
  ·refine (zAm f y fs).2 g (wi g λz=>hg ?_)
   show (if g=f then some u else mA g)=none;rw [if_neg q]; exact z
theorem zN.made (I:zN X pins σ H s):zN X pins σ (upd (upd H s.heap.objs.size (.own (s.heap.objs.size+1))) (s.heap.objs.size+1) (.ins C s.heap.objs.size []))
  {s with heap:=(s.heap.push PySem.W.emptyDict).push (PySem.W.instObj C s.heap.objs.size)}:=by
 have e1:(s.heap.push PySem.W.emptyDict).get? s.heap.objs.size=some PySem.W.emptyDict:=Heap.get?_push_size s.heap rfl;have e2:((s.heap.push PySem.W.emptyDict).push (PySem.W.instObj C s.heap.objs.size)).get? (s.heap.objs.size+1)=some (PySem.W.instObj C s.heap.objs.size):=by
  have:=Heap.get?_push_size (s.heap.push PySem.W.emptyDict) (o:=PySem.W.instObj C s.heap.objs.size) rfl
  rwa [Heap.size_push] at this
 have e3:(s.heap.push PySem.W.emptyDict).Ns s.heap.objs.size (λ_=>none):=⟨PySem.W.emptyDict,#[],_,e1,rfl,(λe he=>absurd he (by simp)),λ_=>rfl⟩;have I1:=I.laid (a:=s.heap.objs.size) (o:= .own (s.heap.objs.size+1)) (h':=s.heap.push PySem.W.emptyDict) (t':=s.toks) (λb u q=>Heap.get?_push_of_some _ q) (qE _) ⟨_,e1⟩;refine I1.laid (a:=s.heap.objs.size+1) (o:= .ins C s.heap.objs.size []) (t':=s.toks) (λb u q=>Heap.get?_push_of_some _ q) (Nat.le_of_eq (Heap.size_push _ _)) ?_;have ne:s.heap.objs.size≠s.heap.objs.size+1:=qT (Nat.lt_succ_self _);refine ⟨by rw [zI ne,zD],QG _,ne,e2,λ_=>none,(Heap.Ns1.of_empty e3).at λo q=>Heap.get?_push_of_some _ q,λ_=>True.intro,λy hy=>absurd rfl hy⟩
theorem zNl {prog:Program} {w:World} {env:Env} {e:Expr} {f:Str} {pos:Pos} {s:Shared} {Q:Value->Shared->Prop} (hb:attributeBase e f env (eval e env)=eval e env)
  (h:wpAny (model prog w) A (eval e env) (λo s₁=>wpAny (model prog w) A (getAttr o f true) Q E s₁) E s):wpAny (model prog w) A (eval (.Attribute e f pos) env) Q E s:=
 Attribute_any_ h (by rw [arm_eval_Attribute,hb])
end
def zSa (K:PySem.W.Frag) (ta:TE) (f:Str):TE:=λσ H Q=>ta σ H λx H1=>∃a C dx fs v,x= .ref a/\H1 a=some (.ins C dx fs)/\JV K C/\ZL K C f/\fs.lookup f=some v/\Q v H1
def zSB (K:PySem.W.Frag) (ta tv:TE) (f:Str):TS:=λD σ H=>tv σ H λy H1=>ta σ H1 λx H2=>∃a C dx fs,x= .ref a/\H2 a=some (.ins C dx fs)/\JV K C/\ZL K C f/\fs.length<1000/\
 D.nx σ (upd H2 a (.ins C dx (yt f y fs)))
section
variable {X:Cx} {o e value:Expr} {f:Str} {pos pos' tpos:Pos} {ta tv:TE}
theorem ZB (he:PE X e ta) (hb:attributeBase e f X.env (eval e X.env)=eval e X.env):PE X (.Attribute e f pos) (zSa X.K ta f):=by
 intro pins s σ H Q I h;refine zNl hb (zj (he pins s σ H _ I h) λu s1 ⟨x,H1,I1,rx,a,C,dx,fs,v,ex,ea,c,n,l,q⟩=>?_);subst ex;obtain rfl:u=Value.ref a:=rx;exact zIE I1 ea c n l λu' s2 I2 ru=>⟨v,H1,I2,ru,q⟩
theorem YW (ha:PE X o ta) (hv:PE X value tv) (hs:swapsWith value (some (.Attribute o f pos')) pos.line X.env=pure false):PS X (.Assign [.Attribute o f pos'] value pos) (zSB X.K ta tv f):=by
 intro pins s σ H D I h;refine plainObj_wpAny_Assign_Attribute (zj (hv pins s σ H _ I h) λu s1 ⟨y,H1,I1,ry,q⟩=>zj (ha pins s1 σ H1 _ I1 q) λov s2 ⟨x,H2,I2,rx,a,C,dx,fs,ex,ea,c,n,l,q2⟩=>?_) hs;subst ex;obtain rfl:ov=Value.ref a:=rx;exact zGl I2 ea c n l ry λs3 I3=>⟨σ,_,I3,q2⟩
end
section
variable {X:Cx} {pins:List (Addr×Obj)} {σ:St} {H:Hp} {s:Shared} {A:Around} {E:Value->Shared->Prop} {Q:Value->Shared->Prop} {c:Value} {b:Bool}
inductive YS (K:PySem.W.Frag) (H:Hp):V->Value->Prop where
 | non:YS K H .non (.type "NoneType")
 | bl (x:Bool):YS K H (.bl x) (.type "bool")
 | int (i:Int):YS K H (.int i) (.type "int")
 | str (x:Str):YS K H (.str x) (.type "str")
 | flt (x:UInt64):YS K H (.flt x) (.type "float")
 | lst {a:Addr} {xs:List V} (e:H a=some (.lst xs)):YS K H (.ref a) (.type "list")
 | frz {a:Addr} {o:Obj} {xs:List V} (e:H a=some (.frz o (.lst xs))):YS K H (.ref a) (.type "list")
 | tup {a:Addr} {xs:List V} (e:H a=some (.tup xs)):YS K H (.ref a) (.type "tuple")
 | dK {a:Addr} {kvs:List (ze×V)} (e:H a=some (.dK kvs)):YS K H (.ref a) (.type "dict")
 | dT {a:Addr} {kvs:List (List ze×V)} (e:H a=some (.dT kvs)):YS K H (.ref a) (.type "dict")
 | ins {a C dx:Addr} {fs:List (Str×V)} (e:H a=some (.ins C dx fs)) (cl:JV K C) (ha:PySem.W.findIn K (.ref C) "__class__"=some (some (.builtin "object.__class__")))
   (hn:PySem.W.specialIn K (.builtin "object.__class__") "__get__"=some (some (.builtin "getset_descriptor.__get__"))) (htk:PySem.W.takesIn K (.builtin "object.__class__")=some true)
   (hm:PySem.W.mroIn K C (.type "object")=some true):YS K H (.ref a) (.ref C)
theorem zJd {x:V} {u t:Value} (I:zN X pins σ H s) (rx:zn x u) (ty:YS X.K H x t) (e:PySem.W.kitOne X.K t c=some b) (h:∀tk,Q (.bool b) {s with toks:=tk}):
  wpAny (model X.prog X.w) A (call (.builtin "isinstance") [u,c]) Q E s:=by
 cases ty with
 | non=>cases (show u=Value.none from rx); exact PySem.W.kia_one PySem.W.kitx_none I.kIn True.intro e (λz=>nomatch z) h
 | bl y=>cases (show u=Value.bool y from rx); exact PySem.W.kia_one PySem.W.kitx_bool I.kIn True.intro e (λz=>nomatch z) h
 | int i=>obtain ⟨t,q⟩:=(show ∃t,u=Value.int i t from rx); cases q; exact PySem.W.kia_one PySem.W.kitx_int I.kIn True.intro e (λz=>nomatch z) h
 | str y=>obtain ⟨t,q⟩:=(show ∃t,u=Value.str y t from rx); cases q; exact PySem.W.kia_one PySem.W.kitx_str I.kIn True.intro e (λz=>nomatch z) h
 | flt y=>obtain ⟨t,q⟩:=(show ∃t,u=Value.float y t from rx); cases q; exact PySem.W.kia_one PySem.W.kitx_float I.kIn True.intro e (λz=>nomatch z) h
 | @lst a xs ea=>
  cases (show u=Value.ref a from rx);obtain ⟨_,_,n,_,h1⟩:=(show ZU X.prog X.w H s.heap a (.lst xs) from I.hok a _ ea);exact PySem.W.kia_one PySem.W.kitx_list I.kIn ⟨_,h1,rfl⟩ e (λz=>nomatch z) h
 | @frz a ob xs ea=>
  cases (show u=Value.ref a from rx);obtain ⟨_,_,_,n,_,h1⟩:=(show ZU X.prog X.w H s.heap a (.frz ob (.lst xs)) from I.hok a _ ea);exact PySem.W.kia_one PySem.W.kitx_list I.kIn ⟨_,h1,rfl⟩ e (λz=>nomatch z) h
 | @tup a xs ea=>
  cases (show u=Value.ref a from rx);obtain ⟨_,_,_,p⟩:=(show ZU X.prog X.w H s.heap a (.tup xs) from I.hok a _ ea);obtain ⟨o,h1,h2,_⟩:=p;exact PySem.W.kia_one PySem.W.kitx_tuple I.kIn ⟨o,h1,h2⟩ e (λz=>nomatch z) h
 | @dK a kvs ea=>
  cases (show u=Value.ref a from rx);obtain ⟨_,_,vs,_,p⟩:=(show ZU X.prog X.w H s.heap a (.dK kvs) from I.hok a _ ea);obtain ⟨o,es,ep,h1,h2,_⟩:=p;exact PySem.W.kia_one PySem.W.kitx_dict I.kIn ⟨o,h1,h2.1⟩ e (λz=>nomatch z) h
 | @dT a kvs ea=>
  cases (show u=Value.ref a from rx);obtain ⟨_,_,xs,_,o,es,ep,h1,h2,_⟩:=(show ZU X.prog X.w H s.heap a (.dT kvs) from I.hok a _ ea);exact PySem.W.kia_one PySem.W.kitx_dict I.kIn ⟨o,h1,h2.1⟩ e (λz=>nomatch z) h
 | @ins a C dx fs ea cl ha hn htk hm=>
  cases (show u=Value.ref a from rx);obtain ⟨mA,O,_⟩:=zBT I.hok ea;obtain ⟨od,J,_⟩:=O.look;exact PySem.W.kia_one (PySem.W.kitx_own (cl.get _) cl.hd ha hn htk hm) I.kIn J e (λz=>nomatch z) h
end
end L2
namespace L2
open PySem PySem.Spec PyProof.Rows
structure Zz (k:Nat) (A:Around):Prop where
 hd:A.handled=none
 dp:A.depth+3*k+5<recursionLimit
 un:A.units+16*k+200<cLine
 gd:A.guards=some []
theorem Zz.mono {j k:Nat} {A:Around} (r:Zz k A) (h:j≤k):Zz j A:=⟨r.hd,by have:=r.dp; omega,by have:=r.un; omega,r.gd⟩
theorem Zz.deeper {k:Nat} {A:Around} (r:Zz (k+1) A) (env:Env):Zz k (A.deeper env):=
 ⟨r.hd,by have:=r.dp; show A.depth+1+3*k+5<_; omega,by have:=r.un; show A.units+3+16*k+200<_; omega,r.gd⟩
theorem zHf {A:Around} {C:Addr} {us:List Value} {kw:List (Str×Value)}:(A.under (.builtin "type.__call__" ⟨.ref C::us,kw⟩)).depth=A.depth+1:=by
 first | rfl | simp [Around.under,Code.weight,Code.isCreation,Code.isGuard,Code.isCaller,Code.frames,Code.isFrame,guardIds]
theorem zHt {A:Around} {C:Addr} {us:List Value} {kw:List (Str×Value)}:(A.under (.builtin "type.__call__" ⟨.ref C::us,kw⟩)).units=A.units+1:=by
 first | rfl | simp [Around.under,Code.cUnits,Code.frames,Code.isFrame]
theorem Zz.make {k:Nat} {A:Around} (r:Zz (k+1) A) (C:Addr) (us:List Value) (kw:List (Str×Value)):Zz k (A.under (.builtin "type.__call__" ⟨.ref C::us,kw⟩)):=
 ⟨r.hd,by have:=r.dp; rw [zHf]; omega,by have:=r.un; rw [zHt]; omega,by first | exact r.gd | (simp [Around.under,Code.isGuard,guardIds]; exact r.gd)⟩
theorem Zz.depth {k:Nat} {A:Around} (r:Zz k A):A.depth<recursionLimit:=by have:=r.dp; omega
theorem Zz.units {k:Nat} {A:Around} (r:Zz k A):A.units+64<cLine:=by have:=r.un; omega
def Jp:TA:=λ_ H Q=>Q [] H
def yU (ta:TE) (tr:TA):TA:=λσ H Q=>ta σ H λx H1=>tr σ H1 λxs H2=>Q (x::xs) H2
section
variable {X:Cx} {e:Expr} {es:List Expr} {te:TE} {t:TA} {pos:Pos}
theorem zB:PA X [] Jp:=λ_ _ _ _ H Q I h=>Calls.spliced_nil ⟨[],H,I, .nil,h⟩
theorem zA (ha:PE X e te) (hr:PA X es t) (hs:starEach (e::es) X.env=(false,eval e X.env)::starEach es X.env:=by rfl):PA X (e::es) (yU te t):=by
 intro pos pins s σ H Q I h;rw [hs];show wpAny _ _ (spliced ((false,eval e X.env)::backTo pos (starEach es X.env))) _ _ s;refine Calls.spliced_cons (zj (ha pins s σ H _ I h) λu s1 ⟨x,H1,I1,r1,q1⟩=>?_);exact zj (hr pos pins s1 σ H1 _ I1 q1) λus s2 ⟨xs,H2,I2,r2,q2⟩=>⟨x::xs,H2,I2, .cons r1 r2,q2⟩
def zHV (t:TA):TE:=λσ H Q=>t σ H λxs H1=>xs.length≤sizeLine/\∀p,H1 p=none->Q (.ref p) (upd H1 p (.tup xs))
def zCD (t:TA):TE:=λσ H Q=>t σ H λxs H1=>xs.length≤sizeLine/\∀p,H1 p=none->Q (.ref p) (upd H1 p (.lst xs))
theorem yc {x1} (h:PA X es t):PE X (.Tuple es x1 pos) (zHV t):=by
 intro pins s σ H Q I hq;refine wpAny_Tuple_spliced (zj (h pos pins s σ H _ I hq) λus s1 ⟨xs,H1,I1,r,z,q⟩=>⟨by rw [<-r.length]; exact z,?_⟩);have hf:H1 s1.heap.objs.size=none:=I1.hok.fresh (qE _);refine ⟨.ref s1.heap.objs.size,upd H1 s1.heap.objs.size (.tup xs),I1.laid (t':=s1.toks) (λb u e=>Heap.get?_push_of_some _ e) (qE _) ?_,rfl,q _ hf⟩;exact ⟨z,us,r,⟨_,Heap.get?_push_size _ rfl,rfl,_,rfl⟩⟩
theorem ZG (h:PA X es t):PE X (.List es pos) (zCD t):=by
 intro pins s σ H Q I hq;refine wpAny_List_spliced (zj (h pos pins s σ H _ I hq) λus s1 ⟨xs,H1,I1,r,z,q⟩=>⟨by rw [<-r.length]; exact z,?_⟩);have hf:H1 s1.heap.objs.size=none:=I1.hok.fresh (qE _);refine ⟨.ref s1.heap.objs.size,upd H1 s1.heap.objs.size (.lst xs),I1.laid (t':=s1.toks) (λb u e=>Heap.get?_push_of_some _ e) (qE _) ?_,rfl,q _ hf⟩;exact ⟨z,us,0,r,Heap.get?_push_size _ rfl⟩
end
abbrev Sp:=List V->Hp->VK->XK->Prop
abbrev jJ:=List Env->Hp->Shared->XK->Value->Shared->Prop
structure zBc (P:Program) (w:World) (K:PySem.W.Frag) (mg:Str->Option Value) (base:Heap) (A:Around) (outer:List Env) (s:Shared) (H:Hp):Prop where
 frames:A.frames=some outer
 mod:Mod K mg base
 bs:∀b o,base.get? b=some o->s.heap.get? b=some o/\H b=none
 bsz:base.objs.size≤s.heap.objs.size
 funs:s.heap.FunFrames base outer
 frf:∀b∈yP outer,H b=none
 hok:yV P w H s.heap
 bare:AllBare s.gens
def CE (outer:List Env) (P:Program) (w:World) (H:Hp) (s:Shared) (Q:VK) (u:Value) (s':Shared):Prop:=
 ∃v H',s'.os=s.os/\AllBare s'.gens/\Un (yP outer) [] H H' s.heap s'.heap/\yV P w H' s'.heap/\zn v u/\Q v H'
def CR (CX:jJ) (outer:List Env) (P:Program) (w:World) (H:Hp) (s:Shared) (Q:VK) (E:XK) (r:Result) (s':Shared):Prop:=
 match r with
 | .ok (.ret u)=>CE outer P w H s Q u s'
 | .ok _=>False
 | .error e=>CX outer H s E e s'
structure zH (P:Program) (w:World) (K:PySem.W.Frag) (mg:Str->Option Value) (base:Heap) (CX:jJ) (k:Nat) (f:Addr) (fd:FuncData) (ps:List Str) (sp:Sp):Prop where
 len:∀vs H Q E,sp vs H Q E->vs.length=ps.length
 run:∀(A:Around) (outer:List Env) (s:Shared) (H:Hp) (args:Args) (us:List Value) (vs:List V) (Q:VK) (E:XK),Zz k A->zBc P w K mg base A outer s H->BindsTo s fd args (ps.zip us)->zi vs us->sp vs H Q E->
  codeAny (model P w) A (.call (.ref f) args) (CR CX outer P w H s Q E) s
theorem zH.mono {P:Program} {w:World} {K:PySem.W.Frag} {mg:Str->Option Value} {base:Heap} {CX:jJ} {j k:Nat} {f:Addr} {fd:FuncData} {ps:List Str} {sp:Sp} (F:zH P w K mg base CX j f fd ps sp) (h:j≤k):
  zH P w K mg base CX k f fd ps sp:=⟨F.len,λA outer s H args us vs Q E hr=>F.run A outer s H args us vs Q E (hr.mono h)⟩
theorem zH.imp {P:Program} {w:World} {K:PySem.W.Frag} {mg:Str->Option Value} {base:Heap} {CX:jJ} {k:Nat} {f:Addr} {fd:FuncData} {ps:List Str} {sp sp':Sp} (F:zH P w K mg base CX k f fd ps sp)
  (h:∀vs H Q E,sp' vs H Q E->sp vs H Q E):zH P w K mg base CX k f fd ps sp':=
 ⟨λvs H Q E q=>F.len vs H Q E (h _ _ _ _ q),λA outer s H args us vs Q E hr he hb hv hs=>F.run A outer s H args us vs Q E hr he hb hv (h _ _ _ _ hs)⟩
theorem zBc.make {P:Program} {w:World} {K:PySem.W.Frag} {mg:Str->Option Value} {base:Heap} {A:Around} {outer:List Env} {s:Shared} {H:Hp} (e:zBc P w K mg base A outer s H) (C:Addr) (us:List Value) (kw:List (Str×Value)):
  zBc P w K mg base (A.under (.builtin "type.__call__" ⟨.ref C::us,kw⟩)) outer s H:=⟨by first | exact e.frames | (simpa [Around.under,Code.envs,Code.isFrame,pushEnvs] using e.frames),e.mod,e.bs,e.bsz,e.funs,e.frf,e.hok,e.bare⟩
section
variable {X:Cx} {pins:List (Addr×Obj)} {σ:St} {H:Hp} {s s':Shared}
theorem zN.env0 (I:zN X pins σ H s):zBc X.prog X.w X.K X.mg X.base X.A X.stack s H:=
 ⟨I.ok.frames,I.ok.mod,I.bs,qK I.ok.bsz I.sz,I.stack,I.stkFree,I.hok,I.bare⟩
theorem zN.after {Q:VK} {u:Value} (I:zN X pins σ H s) (h:CE X.stack X.prog X.w H s Q u s'):EP X pins σ Q u s':=by
 obtain ⟨v,H',os,bare,un,hok,r,q⟩:=h;obtain ⟨hh,g,d,t,os'⟩:=s';obtain rfl:os'=s.os:=os;exact ⟨v,H',I.call (h':=hh) (g':=g) (d':=d) (t':=t) (ch:=[]) un hok bare (λb z=>absurd z (by simp)),r,q⟩
end
def zHg (sp:Sp) (dvs:List V) (E:XK) (t:TA):TE:=λσ H Q=>t σ H λvs H1=>sp (vs++dvs) H1 Q E
def zHB (C:Addr) (m:Str) (sp:Sp) (dvs:List V) (E:XK) (ta:TE) (t:TA):TE:=λσ H Q=>ta σ H λx H1=>∃a dx fs,x= .ref a/\H1 a=some (.ins C dx fs)/\fs.lookup m=none/\
 t σ H1 λvs H2=>sp (x::(vs++dvs)) H2 Q E
def zHW (C:Addr) (sp:Sp) (dvs:List V) (E:XK) (t:TA):TE:=λσ H Q=>t σ H λvs H1=>∀x dx,H1 x=none->H1 dx=none->dx≠x->
 sp (.ref x::(vs++dvs)) (upd (upd H1 dx (.own x)) x (.ins C dx [])) (λv H2=>v= .non/\Q (.ref x) H2) E
def zL (K:PySem.W.Frag) (fd:FuncData) (ps:List Str) (ds:List Value):Prop:=
 ∀(s:Shared) (us:List Value),K.In s.heap->(us++ds).length=ps.length->BindsTo s fd ⟨us,[]⟩ (ps.zip (us++ds))
theorem zL.all {K:PySem.W.Frag} {fd:FuncData} {ps:List Str} (h:∀us:List Value,us.length=ps.length->bindArgs fd ⟨us,[]⟩=pure (ps.zip us)):zL K fd ps []:=λs us _ hl=>by
 rw [xB] at hl ⊢;exact .of_eq (h us hl)
def YF (CX:jJ) (X:Cx) (E:XK):Prop:=∀(pins:List (Addr×Obj)) (σ:St) (H:Hp) (s:Shared) (e:Value) (s':Shared),zN X pins σ H s->CX X.stack H s E e s'->X.xe e s'
section
variable {X:Cx} {CX:jJ} {k:Nat} {f C:Addr} {fd:FuncData} {ps:List Str} {sp:Sp} {dvs:List V} {ds:List Value} {E:XK} {x m:Str} {p pos apos:Pos} {e o:Expr} {es:List Expr} {ta:TE} {t:TA}
theorem JZ {pins:List (Addr×Obj)} {σ:St} {H:Hp} {s:Shared} {Q:VK} {us:List Value} {vs:List V} (F:zH X.prog X.w X.K X.mg X.base CX k f fd ps sp) (hr:Zz k X.A) (hb:zL X.K fd ps ds) (hd:zi dvs ds) (hx:YF CX X E)
  (I:zN X pins σ H s) (r:zi vs us) (h:sp (vs++dvs) H Q E):wpAny (model X.prog X.w) X.A (call (.ref f) us) (EP X pins σ Q) X.xe s:=by
 have r2:zi (vs++dvs) (us++ds):=r.append hd;have hl:(us++ds).length=ps.length:=by rw [<-r2.length]; exact F.len _ _ _ _ h
 refine wpAny_call (codeAny_mono (F.run X.A X.stack s H ⟨us,[]⟩ (us++ds) (vs++dvs) Q E hr I.env0 (hb s us I.kIn hl) r2 h) λr s' hq=>?_);cases r with
 | error e=>exact hx pins σ H s e s' I hq
 | ok fl=>
  cases fl with
  | ret u=>exact I.after hq
  | next=>exact False.elim hq
  | brk=>exact False.elim hq
  | cont=>exact False.elim hq
theorem zU (F:zH X.prog X.w X.K X.mg X.base CX k f fd ps sp) (hr:Zz k X.A) (hg:Gl X x) (hm:X.mg x=some (.ref f)) (hk:PySem.W.keepIn X.K (.ref f)=true) (hb:zL X.K fd ps ds) (hd:zi dvs ds) (hx:YF CX X E)
  (ha:PA X (e::es) t) (hdb:(x==("__debug__":Str))=false:=by decide) (he:starEach (e::es) X.env=(false,eval e X.env)::starEach es X.env:=by rfl) (hpl:(backTo pos (starEach es X.env)).any (·.1)=false:=by rfl):
  PE X (.Call (.Name x p) (e::es) [] pos) (zHg sp dvs E t):=by
 intro pins s σ H Q I h;refine wpAny_Call_Name_kw (jh I hg hm ?_ hdb);refine PySem.W.callWith_K (h₀:=X.base) I.ok.mod.kin hk (zj (ha pos pins s σ H _ I h) λus s1 ⟨vs,H1,I1,r,q⟩=>⟨I1.kIn,?_⟩) he hpl;exact JZ F hr hb hd hx I1 r q
theorem zBm (F:zH X.prog X.w X.K X.mg X.base CX k f fd ps sp) (hr:Zz k X.A) (hg:Gl X x) (hm:X.mg x=some (.ref f)) (hk:PySem.W.keepIn X.K (.ref f)=true) (hb:zL X.K fd ps ds) (hd:zi dvs ds) (hx:YF CX X E)
  (hdb:(x==("__debug__":Str))=false:=by decide):PE X (.Call (.Name x p) [] [] pos) (zHg sp dvs E Jp):=by
 intro pins s σ H Q I h;refine wpAny_Call_Name_kw (jh I hg hm ?_ hdb);exact PySem.W.callWith_K0 I.kIn hk (JZ (us:=[]) F hr hb hd hx I .nil h)
theorem z0 {pl:Sem Bool} (he:PE X o ta) (c:JV X.K C) (hm:ZH X.K C m f) (F:zH X.prog X.w X.K X.mg X.base CX k f fd ps sp) (hr:Zz k X.A) (hb:zL X.K fd ps ds) (hd:zi dvs ds) (hx:YF CX X E) (ha:PA X (e::es) t)
  (hst:starEach (e::es) X.env=(false,eval e X.env)::starEach es X.env:=by rfl) (hpl:(backTo pos (starEach es X.env)).any (·.1)=false:=by rfl)
  (ht:eval (.Call (.Attribute o m apos) (e::es) [] pos) X.env=(do
   let ov <-eval o X.env
   standAt apos.atName
   let (f,first) <-holding [ov] (getMethod ov m pl)
   callWith pos f first (backTo pos (starEach (e::es) X.env)) (backToKw pos (keywordEach [] X.env))):=by rfl):
  PE X (.Call (.Attribute o m apos) (e::es) [] pos) (zHB C m sp dvs E ta t):=by
 intro pins s σ H Q I h;refine PySem.W.methodCall_KW (pl:=pl) (zj (he pins s σ H _ I h) λu s1 ⟨x,H1,I1,rx,a,dx,fs,ex,ea,l,q⟩=>?_) ht;subst ex;obtain rfl:u=Value.ref a:=rx;refine zAe I1 ea c hm l ?_;refine PySem.W.callWith_K (first:=[.ref a]) (h₀:=X.base) I.ok.mod.kin hm.kp (zj (ha pos pins s1 σ H1 _ I1 q) λus s2 ⟨vs,H2,I2,r,q2⟩=>⟨I2.kIn,?_⟩) hst hpl;exact JZ (us:= .ref a::us) (vs:= .ref a::vs) F hr hb hd hx I2 (.cons rfl r) q2
theorem YJ {pl:Sem Bool} (he:PE X o ta) (c:JV X.K C) (hm:ZH X.K C m f) (F:zH X.prog X.w X.K X.mg X.base CX k f fd ps sp) (hr:Zz k X.A) (hb:zL X.K fd ps ds) (hd:zi dvs ds) (hx:YF CX X E)
  (ht:eval (.Call (.Attribute o m apos) [] [] pos) X.env=(do
   let ov <-eval o X.env
   standAt apos.atName
   let (f,first) <-holding [ov] (getMethod ov m pl)
   callWith pos f first (backTo pos (starEach [] X.env)) (backToKw pos (keywordEach [] X.env))):=by rfl):
  PE X (.Call (.Attribute o m apos) [] [] pos) (zHB C m sp dvs E ta Jp):=by
 intro pins s σ H Q I h;refine PySem.W.methodCall_KW (pl:=pl) (zj (he pins s σ H _ I h) λu s1 ⟨x,H1,I1,rx,a,dx,fs,ex,ea,l,q⟩=>?_) ht;subst ex;obtain rfl:u=Value.ref a:=rx;refine zAe I1 ea c hm l ?_;exact PySem.W.callWith_K0 (first:=[.ref a]) I1.kIn hm.kp (JZ (us:=[.ref a]) (vs:=[.ref a]) F hr hb hd hx I1 (.cons rfl .nil) q)
structure Mk (K:PySem.W.Frag) (C f:Addr):Prop where
 makes:PySem.W.makesIn K C=true
 init:PySem.W.findIn K (.ref C) "__init__"=some (some (.ref f))
 fn:PySem.W.isFn K (.ref f)=true
 kp:PySem.W.keepIn K (.ref C)=true
theorem zFH {pins:List (Addr×Obj)} {σ:St} {H:Hp} {s:Shared} {Q:VK} {us:List Value} {vs:List V} (M:Mk X.K C f) (F:zH X.prog X.w X.K X.mg X.base CX k f fd ps sp) (hr:Zz (k+1) X.A) (hb:zL X.K fd ps ds) (hd:zi dvs ds)
  (hx:YF CX X E) (I:zN X pins σ H s) (r:zi vs us)
  (h:∀x dx,H x=none->H dx=none->dx≠x->sp (.ref x::(vs++dvs)) (upd (upd H dx (.own x)) x (.ins C dx [])) (λv H2=>v= .non/\Q (.ref x) H2) E):
  wpAny (model X.prog X.w) X.A (call (.ref C) us) (EP X pins σ Q) X.xe s:=by
 have hq:=h (s.heap.objs.size+1) s.heap.objs.size (I.hok.fresh (Nat.le_succ _)) (I.hok.fresh (qE _)) (qT (Nat.lt_succ_self _));have I2:=zN.made (C:=C) I;have r2:zi (V.ref (s.heap.objs.size+1)::(vs++dvs)) (Value.ref (s.heap.objs.size+1)::(us++ds)):= .cons rfl (r.append hd);have hl:(Value.ref (s.heap.objs.size+1)::us++ds).length=ps.length:=by
  have e:=r2.length;rw [F.len _ _ _ _ hq] at e;exact e.symm
 refine wpAny_call (zKg (f:=f) I.kIn M.makes M.init (beq_iff_eq.mp M.fn) (codeAny_mono (F.run _ X.stack _ _ ⟨Value.ref (s.heap.objs.size+1)::us,[]⟩ (Value.ref (s.heap.objs.size+1)::(us++ds)) _ _ E (hr.make C us [])
  (I2.env0.make C us []) (hb _ (Value.ref (s.heap.objs.size+1)::us) I2.kIn hl) r2 hq) λr s' hq'=>?_))
 cases r with
 | error e=>exact hx pins σ _ _ e s' I2 hq'
 | ok fl=>
  cases fl with
  | ret u=>
   obtain ⟨v,H',I3,rv,ev,q3⟩:=I2.after hq';subst ev;exact ⟨rv,⟨V.ref (s.heap.objs.size+1),H',I3,rfl,q3⟩⟩
  | next=>exact False.elim hq'
  | brk=>exact False.elim hq'
  | cont=>exact False.elim hq'
theorem Jy (M:Mk X.K C f) (F:zH X.prog X.w X.K X.mg X.base CX k f fd ps sp) (hr:Zz (k+1) X.A) (hg:Gl X x) (hm:X.mg x=some (.ref C)) (hb:zL X.K fd ps ds) (hd:zi dvs ds) (hx:YF CX X E)
  (ha:PA X (e::es) t) (hdb:(x==("__debug__":Str))=false:=by decide) (he:starEach (e::es) X.env=(false,eval e X.env)::starEach es X.env:=by rfl) (hpl:(backTo pos (starEach es X.env)).any (·.1)=false:=by rfl):
  PE X (.Call (.Name x p) (e::es) [] pos) (zHW C sp dvs E t):=by
 intro pins s σ H Q I h;refine wpAny_Call_Name_kw (jh I hg hm ?_ hdb);refine PySem.W.callWith_K (h₀:=X.base) I.ok.mod.kin M.kp (zj (ha pos pins s σ H _ I h) λus s1 ⟨vs,H1,I1,r,q⟩=>⟨I1.kIn,?_⟩) he hpl;exact zFH M F hr hb hd hx I1 r q
theorem zEs (M:Mk X.K C f) (F:zH X.prog X.w X.K X.mg X.base CX k f fd ps sp) (hr:Zz (k+1) X.A) (hg:Gl X x) (hm:X.mg x=some (.ref C)) (hb:zL X.K fd ps ds) (hd:zi dvs ds) (hx:YF CX X E)
  (hdb:(x==("__debug__":Str))=false:=by decide):PE X (.Call (.Name x p) [] [] pos) (zHW C sp dvs E Jp):=by
 intro pins s σ H Q I h;refine wpAny_Call_Name_kw (jh I hg hm ?_ hdb);exact PySem.W.callWith_K0 I.kIn M.kp (zFH (us:=[]) M F hr hb hd hx I .nil h)
end
section
variable {X:Cx} {CX:jJ} {k:Nat} {f C:Addr} {fd:FuncData} {ps ks:List Str} {sp:Sp} {E:XK} {x m:Str} {p pos apos kpos:Pos} {e o:Expr} {es:List Expr} {kws:List Keyword} {te ta:TE} {t tk:TA} {nm:Option Str}
variable {g:List Value->List Value->List Value} {gV:List V->List V->List V}
end
structure zP (N P:List Str) (sc:Scope):Prop where
 kind:sc.kind= .function
 co:sc.isCoroutine=false
 gen:sc.isGenerator=false
 nd:N.Nodup
 pre:N.take P.length=P
 par:∀x∈P,sc.names.lookup x=some .local\/sc.names.lookup x=some .cell
 nofree:∀y∈sc.names,y.2≠ .free
theorem zDY {kindOf:Str->Option NameKind} {x:Str}:∀{binds:List (Str×Value)} {m:Str->Option Value},(∀v,(x,v)∉binds)->bindL kindOf binds m x=m x
 | [],_,_=>rfl
 | (n,v)::r,m,h=>by
  unfold bindL;rw [zDY λw hw=>h w (qF _ hw)]
  split
  ·have:x≠n:=by rintro rfl; exact h v qD
   simp [this]
  ·rfl
theorem zEG {kindOf:Str->Option NameKind} {x:Str}:∀{binds:List (Str×Value)} {m:Str->Option Value},(∀v,(x,v)∉binds)->bindC kindOf binds m x=m x
 | [],_,_=>rfl
 | (n,v)::r,m,h=>by
  unfold bindC;rw [zEG λw hw=>h w (qF _ hw)]
  split
  ·rfl
  ·have:x≠n:=by rintro rfl; exact h v qD
   simp [this]
theorem zEE {kindOf:Str->Option NameKind} {x:Str} {v:Value}:∀{P:List Str} {vs:List Value} {i:Nat} {m:Str->Option Value},P.Nodup->P[i]?=some x->vs[i]?=some v->kindOf x=some .local->
  bindL kindOf (P.zip vs) m x=some v
 | [],_,_,_,_,h,_,_=>by simp at h
 | _::_,[],_,_,_,_,h,_=>by simp at h
 | p::P,w::vs,0,m,nd,h1,h2,hk=>by
  simp at h1 h2; subst h1; subst h2;show bindL kindOf ((p,w)::P.zip vs) m p=_;unfold bindL;rw [zDY λv hv=>(xF.mp nd).1 (List.of_mem_zip hv).1,if_pos hk];simp
 | p::P,w::vs,i+1,m,nd,h1,h2,hk=>by
  show bindL kindOf ((p,w)::P.zip vs) m x=_;unfold bindL;exact zEE (i:=i) (xF.mp nd).2 (by simpa using h1) (by simpa using h2) hk
theorem zEB {kindOf:Str->Option NameKind} {x:Str} {v:Value}:∀{P:List Str} {vs:List Value} {i:Nat} {m:Str->Option Value},P.Nodup->P[i]?=some x->vs[i]?=some v->kindOf x≠some .local->
  bindC kindOf (P.zip vs) m x=some v
 | [],_,_,_,_,h,_,_=>by simp at h
 | _::_,[],_,_,_,_,h,_=>by simp at h
 | p::P,w::vs,0,m,nd,h1,h2,hk=>by
  simp at h1 h2; subst h1; subst h2;show bindC kindOf ((p,w)::P.zip vs) m p=_;unfold bindC;rw [zEG λv hv=>(xF.mp nd).1 (List.of_mem_zip hv).1,if_neg hk];simp
 | p::P,w::vs,i+1,m,nd,h1,h2,hk=>by
  show bindC kindOf ((p,w)::P.zip vs) m x=_;unfold bindC;exact zEB (i:=i) (xF.mp nd).2 (by simpa using h1) (by simpa using h2) hk
def j5 (N:List Str) (vs:List V):St:=vs.map some++List.replicate (N.length - vs.length) none
def zAX (CX:jJ) (P:Program) (w:World) (K:PySem.W.Frag) (mg:Str->Option Value) (base:Heap) (N:List Str) (qual:Str) (scope:Scope) (f:Addr) (cd:Value) (A:Around) (outer:List Env) (s:Shared) (H:Hp) (E:XK):Cx where
 prog:=P
 w:=w
 K:=K
 mg:=mg
 base:=base
 A:=A.deeper (envOfC qual scope s.heap.objs.size f cd)
 N:=N
 s₀:=s
 H₀:=H
 env:=envOfC qual scope s.heap.objs.size f cd
 outer:=outer
 stack:=envOfC qual scope s.heap.objs.size f cd::outer
 ex:=[]
 calm:=true
 fn:=λ_=>true
 pn:=[]
 xe:=λe s'=>wpAny (model P w) (A.deeper (envOfC qual scope s.heap.objs.size f cd)) (leaving (envOfC qual scope s.heap.objs.size f cd) e) (λ_ s''=>CX outer H s E e s'') (λe' s''=>CX outer H s E e' s'') s'
theorem zFK {sc:Scope} {n:Nat} {x:Str} (h:sc.names.lookup x=some .cell):∃c,(cellsFrom n sc.names []).lookup x=some c:=by
 have q:=PySem.W.cellsFrom_some sc.names n [] (.inl h);exact Option.isSome_iff_exists.mp q
theorem zJn {CX:jJ} {P:Program} {w:World} {K:PySem.W.Frag} {mg:Str->Option Value} {base:Heap} {N ps:List Str} {qual:Str} {scope:Scope} {f:Addr} {cd:Value} {A:Around} {outer:List Env} {s s1:Shared} {H:Hp} {E:XK} {us:List Value} {vs:List V}
  (S:zP N ps scope) (hd:A.handled=none) (e0:zBc P w K mg base A outer s H) (hl:vs.length=ps.length) (r:zi vs us)
  (x:InCallC s s.heap.objs.size (bindL (envOfC qual scope s.heap.objs.size f cd).kindOf (ps.zip us) λ_=>none) (cellsFrom (s.heap.objs.size+1) scope.names []) (bindC (envOfC qual scope s.heap.objs.size f cd).kindOf (ps.zip us) λ_=>none) s1):
  zN (zAX CX P w K mg base N qual scope f cd A outer s H E) [] (j5 N vs) H s1:=by
 have hpl:ps.length≤N.length:=by have:=congrArg List.length S.pre; rw [xG] at this; omega
 obtain ⟨h1,tk,rfl,hk⟩:=x.done;have noA:∀b:Addr,b∉(zAX CX P w K mg base N qual scope f cd A outer s H E).ex:=λb z=>absurd (show b∈([]:List Addr) from z) (by simp)
 refine ⟨⟨e0.mod,S.kind,rfl,rfl,qE _,λy z c h1 h2=>?_,λy hy=>?_,λy c _ h=>?_,λ_=>hd,Around.frames_deeper e0.frames, .inr ⟨rfl,rfl⟩,λb z=>absurd z (noA b),e0.bs,e0.bsz,λb _ _=>noA b,λb z=>absurd z (noA b),e0.funs,e0.frf⟩,
  rfl,e0.bare,Un.kept hk,⟨_,x.toInCall.ns,λi y v h1 h2 h3=>?_⟩,λy c h=>⟨_,x.cell y c h⟩,e0.hok.fresh (qE _),λy c h=>?_,λp hp=>absurd (show p∈([]:List (Addr×Obj)) from hp) (by simp),e0.hok.kept hk,?_⟩
 ·exact name_of_addr x.apart (XX h1) (XX h2)
 ·have hy:scope.names.lookup y=some .cell\/scope.names.lookup y=some .free:=hy
  rcases hy with hy | hy
  ·exact zFK hy
  ·exact absurd rfl (S.nofree _ (XX hy))
 ·exact xK (x.above y c (XX h))
 ·have hi:i<vs.length:=by
   unfold j5 at h2;by_cases hi:i<vs.length
   ·exact hi
   ·rw [xN (by simpa using hi)] at h2
    rw [List.getElem?_replicate] at h2
    split at h2 <;> cases h2
  have ha:vs[i]?=some v:=by
   unfold j5 at h2;rw [xT (by simpa using hi),qR] at h2;cases e:vs[i]? with
   | none=>rw [e] at h2; cases h2
   | some a=>rw [e] at h2; cases h2; rfl
  obtain ⟨u,hu,rv⟩:=r.get ha;have hp:ps[i]?=some y:=by
   rw [<-S.pre,List.getElem?_take_of_lt (by omega)]; exact h1
  have ndP:ps.Nodup:=by rw [<-S.pre]; exact S.nd.sublist (List.take_sublist _ _)
  refine ⟨u,rv,?_⟩;rcases S.par y (xA hp) with k | k
  ·exact .inl ⟨k,zEE ndP hp hu k⟩
  ·obtain ⟨c,e⟩:=zFK (n:=s.heap.objs.size+1) k
   refine .inr ⟨.inl k,c,e,?_⟩;have q:=x.cell y c e;rw [zEB ndP hp hu (by show scope.names.lookup y≠_; rw [k]; decide)] at q;exact q
 ·exact e0.hok.fresh (xK (x.above y c (XX h)))
 ·unfold j5
  show _=N.length;rw [qI,qA,List.length_replicate];omega
theorem zLo {CX:jJ} {P:Program} {w:World} {K:PySem.W.Frag} {mg:Str->Option Value} {base:Heap} {k:Nat} {f:Addr} {name qual:Str} {params:Arguments} {body:List Stmt} {scope:Scope} {dV kV doc pm cdv ct oc:Value} {an od:Option Addr}
  {osl:Array (Option Value)} {N ps:List Str} {sp:Sp} (lk:K.lookup f=some ⟨oc,od, .func (PySem.W.fnOf name qual params body scope dV kV doc pm an cdv ct),osl⟩) (hcd:PySem.W.codeIn K cdv qual=true) (S:zP N ps scope)
  (len:∀vs H Q E,sp vs H Q E->vs.length=ps.length)
  (hbody:∀(A:Around) (outer:List Env) (s:Shared) (H:Hp) (vs:List V) (Q:VK) (E:XK),Zz k (A.deeper (envOfC qual scope s.heap.objs.size f cdv))->sp vs H Q E->
   ∃t,Yl (zAX CX P w K mg base N qual scope f cdv A outer s H E) body t/\t {nx:=λ_ H'=>Q .non H',rt:=Q} (j5 N vs) H):
  zH P w K mg base CX (k+1) f (PySem.W.fnOf name qual params body scope dV kV doc pm an cdv ct) ps sp:=by
 refine ⟨len,λA outer s H args us vs Q E hr e0 hb r hsp=>?_⟩;have hl:=len _ _ _ _ hsp;have KX:K.In s.heap:=e0.mod.kin.keeps λb o e=>(e0.bs b o e).1
 have lim:s.heap.NoLimit:=e0.mod.nolimit.keeps λb o e=>(e0.bs b o e).1
 have hkind:∀y∈ps.zip us,scope.names.lookup y.1=some .local\/(scope.names.lookup y.1=some .cell/\((cellsFrom (s.heap.objs.size+1) scope.names []).lookup y.1).isSome=true):=λ⟨n,v⟩ hy=>by
  rcases S.par n (List.of_mem_zip hy).1 with q | q
  ·exact .inl q
  ·exact .inr ⟨q,PySem.W.cellsFrom_some _ _ _ (.inl q)⟩
 refine codeAny_call_function hr.depth (KX _ _ lk) rfl S.co S.gen rfl (PySem.W.codeRec_of KX hcd) (hb _ _ _ _ ?_);refine wpAny_newFunctionEnv_cells S.kind hkind λenv he s1 x=>?_
 subst he;refine ⟨lim.keeps x.toInCall.keep,codeAny_func ?_⟩;obtain ⟨t,ht,hq⟩:=hbody A outer s H vs Q E (hr.deeper _) hsp;have I:zN (zAX CX P w K mg base N qual scope f cdv A outer s H E) [] (j5 N vs) H s1:=zJn S hr.hd e0 hl r x;refine wpAny_mono (ht [] s1 (j5 N vs) H _ I hq) (λfl s' hs=>?_) λe s' hs=>hs
 have fin:∀{σ':St} {H':Hp} {v:V} {u:Value},zN (zAX CX P w K mg base N qual scope f cdv A outer s H E) [] σ' H' s'->zn v u->Q v H'->CE outer P w H s Q u s':=
  λ{σ' H' v u} J rv q=>⟨v,H',J.os,J.bare,J.base,J.hok,rv,q⟩
 cases fl with
 | ret u=>
  obtain ⟨v,σ',H',J,rv,q⟩:=hs;exact fin J rv q
 | next=>
  obtain ⟨σ',H',J,q⟩:=hs;exact fin (v:=V.non) (u:=Value.none) J rfl q
 | brk=>
  obtain ⟨_,_,_,q⟩:=hs;exact False.elim q
 | cont=>
  obtain ⟨_,_,_,q⟩:=hs;exact False.elim q
end L2
namespace L2
open PySem PySem.Spec PyProof.Rows
section
variable {X:Cx} {x:Str} {p pos:Pos} {e:Expr} {es:List Expr} {t:TA} {id T:String} {r:List V->Hp->VK->Prop}
def tCB (r:List V->Hp->VK->Prop) (t:TA):TE:=λσ H Q=>t σ H λvs H1=>r vs H1 Q
theorem zY (hc:yS X (.builtin id) r) (hg:Gl X x) (hm:X.mg x=none) (hv:bootBuiltins x=some (.builtin id)) (ha:PA X (e::es) t) (hn:x≠"__name__":=by decide) (hdb:(x==("__debug__":Str))=false:=by decide)
  (he:starEach (e::es) X.env=(false,eval e X.env)::starEach es X.env:=by rfl) (hpl:(backTo pos (starEach es X.env)).any (·.1)=false:=by rfl):PE X (.Call (.Name x p) (e::es) [] pos) (tCB r t):=by
 intro pins s σ H Q I h;refine wpAny_Call_Name_kw (Yc I hg hm hv ?_ hn hdb);exact PyProof.Rows.callWith_builtin1 (zj (ha pos pins s σ H _ I h) λus s1 ⟨vs,H1,I1,r1,q1⟩=>hc pins s1 σ H1 vs us Q I1 r1 q1) he hpl
theorem Zu (hc:yS X (.type T) r) (hg:Gl X x) (hm:X.mg x=none) (hv:bootBuiltins x=some (.type T)) (ha:PA X (e::es) t) (hn:x≠"__name__":=by decide) (hdb:(x==("__debug__":Str))=false:=by decide)
  (he:starEach (e::es) X.env=(false,eval e X.env)::starEach es X.env:=by rfl) (hpl:(backTo pos (starEach es X.env)).any (·.1)=false:=by rfl):PE X (.Call (.Name x p) (e::es) [] pos) (tCB r t):=by
 intro pins s σ H Q I h;refine wpAny_Call_Name_kw (Yc I hg hm hv ?_ hn hdb);exact QV (zj (ha pos pins s σ H _ I h) λus s1 ⟨vs,H1,I1,r1,q1⟩=>hc pins s1 σ H1 vs us Q I1 r1 q1) he hpl
end
end L2
namespace HT
open PySem PyProof.Rows
section
open PySem.SeqAt
open PySem.AutoSeq1 (wpAny_loadPart')
open PySem.MeetsSeq PySem.MeetsSeq2 PySem.MeetsSeq3
end
section
variable {prog:Program} {w:World} {A:Around} {E:Value->Shared->Prop} {s:Shared}
def jA (n d:Nat):Option Int->Nat
 | none=>d
 | some v=>if v<0 then (v+(n:Int)).toNat else min v.toNat n
theorem zGU (n d k:Nat):jA n d (some (k:Int))=min k n:=by
 show (if (k:Int)<0 then ((k:Int)+(n:Int)).toNat else min (k:Int).toNat n)=min k n;rw [if_neg (by omega),xE]
end
end HT
namespace L2
open PySem PySem.Spec PyProof.Rows
abbrev TO:=St->Hp->(Option Int->Hp->Prop)->Prop
def PO (X:Cx) (e:Option Expr) (t:TO):Prop:=
 ∀(pins:List (Addr×Obj)) (s:Shared) (σ:St) (H:Hp) (Q:Option Int->Hp->Prop),zN X pins σ H s->t σ H Q->
  wpAny (model X.prog X.w) X.A (evalPart e X.env) (λu s'=>∃o H',zN X pins σ H' s'/\IsPart u o/\Q o H') X.xe s
def zNA:TO:=λ_ H Q=>Q none H
def zQV (t:TE):TO:=λσ H Q=>t σ H λx H1=>∃i,x= .int i/\Q (some i) H1
section
variable {X:Cx} {e:Expr} {te:TE} {lo hi:Option Expr} {tl th:TO} {pos p2:Pos}
theorem Yi:PO X none zNA:=by
 intro pins s σ H Q I h;rw [evalPart_none];exact wpAny_pure ⟨none,H,I, .none,h⟩
theorem Yh (h:PE X e te):PO X (some e) (zQV te):=by
 intro pins s σ H Q I hw;rw [evalPart_some];refine zj (h pins s σ H _ I hw) λu s1 ⟨x,H1,I1,r1,q1⟩=>?_
 obtain ⟨i,rfl,q⟩:=q1;obtain ⟨t,rfl⟩:=r1;exact ⟨some i,H1,I1, .int i t,q⟩
def SlR (X:Cx) (r:V->Option Int->Option Int->Hp->VK->Prop):Prop:=
 ∀(pins:List (Addr×Obj)) (s:Shared) (σ:St) (H:Hp) (x:V) (v vl vu:Value) (lo hi:Option Int) (sl:Addr) (Q:VK),zN X pins σ H s->zn x v->s.heap.IsSliceOf sl vl vu .none->IsPart vl lo->IsPart vu hi->r x lo hi H Q->
  ∃T id,typeLookup (.type T) "__getitem__"=pure (some (.builtin id))/\s.TypeIs v T/\wpAny (model X.prog X.w) X.A (getItem v (.ref sl)) (EP X pins σ Q) X.xe s
def tSl (r:V->Option Int->Option Int->Hp->VK->Prop) (te:TE) (tl th:TO):TE:=λσ H Q=>te σ H λx H1=>tl σ H1 λl H2=>th σ H2 λu H3=>r x l u H3 Q
theorem YL {r:V->Option Int->Option Int->Hp->VK->Prop} (hr:SlR X r) (he:PE X e te) (hl:PO X lo tl) (hu:PO X hi th):PE X (.Subscript e (.Slice lo hi none p2) pos) (tSl r te tl th):=by
 intro pins s σ H Q I h;refine Subscript_ (zj (he pins s σ H _ I h) λv s1 ⟨x,H1,I1,r1,q1⟩=>?_);refine wpAny_Slice (zj (hl pins s1 σ H1 _ I1 q1) λvl s2 ⟨l,H2,I2,pl,q2⟩=>zj (hu pins s2 σ H2 _ I2 q2) λvu s3 ⟨u,H3,I3,pu,q3⟩=>?_);rw [evalPart_none];refine wpAny_pure ?_;have I4:zN X pins σ H3 {s3 with heap:=s3.heap.push {cls:= .type "slice",data:= .fields #[vl,vu, .none]}}:=I3.kept (t':=s3.toks) λb ob q=>Heap.get?_push_of_some _ q
 obtain ⟨T,id,hT,ht,hg⟩:=hr pins {s3 with heap:=s3.heap.push {cls:= .type "slice",data:= .fields #[vl,vu, .none]}} σ H3 x v vl vu l u s3.heap.objs.size Q I4 r1 (Heap.IsSliceOf.new ..) pl pu q3;show wpAny (model X.prog X.w) X.A (subscriptTail e (.Slice lo hi none p2) v (.ref s3.heap.objs.size)) (EP X pins σ Q) X.xe {s3 with heap:=s3.heap.push {cls:= .type "slice",data:= .fields #[vl,vu, .none]}};exact tail_any (ops:=[.ref s3.heap.objs.size,v]) ht hT hg (by with_unfolding_all rfl)
def zAl (xs:List V) (lo hi:Option Int):List V:=(xs.drop (HT.jA xs.length 0 lo)).take (HT.jA xs.length xs.length hi - HT.jA xs.length 0 lo)
theorem zFy (xs:List V) (lo hi:Option Int):(zAl xs lo hi).length≤xs.length:=by
 unfold zAl;rw [xG,XM];omega
end
end L2
namespace L2
open PySem PySem.Spec PyProof.Rows
def J5 (n:Nat) (i:Int):Option Nat:=if 0≤i then (if i<n then some i.toNat else none) else if -(n:Int)≤i then some (i+n).toNat else none
def YB {α:Type} (xs:List α) (i:Int):Option α:=(J5 xs.length i).bind λj=>xs[j]?
theorem zGE {n:Nat} {i:Int} {j:Nat} (h:J5 n i=some j):seqIndex? i n=some j/\j<n/\ -(n:Int)≤i/\i<n:=by
 unfold J5 at h;by_cases h0:0≤i
 ·rw [if_pos h0] at h
  by_cases h1:i<n
  ·rw [if_pos h1] at h
   have e:i.toNat=j:=Option.some.inj h;exact ⟨by rw [seqIndex_of h0 h1,e],by omega,by omega,h1⟩
  ·rw [if_neg h1] at h; cases h
 ·rw [if_neg h0] at h
  by_cases h1: -(n:Int)≤i
  ·rw [if_pos h1] at h
   have e:(i+n).toNat=j:=Option.some.inj h;exact ⟨by rw [seqIndex_neg (by omega) h1,e],by omega,h1,by omega⟩
  ·rw [if_neg h1] at h; cases h
theorem zDN {α:Type} {xs:List α} {i:Int} {v:α} (h:YB xs i=some v):∃j,seqIndex? i xs.length=some j/\xs[j]?=some v/\j<xs.length/\ -(xs.length:Int)≤i/\i<xs.length:=by
 unfold YB at h;cases e:J5 xs.length i with
 | none=>rw [e] at h; cases h
 | some j=>
  rw [e] at h;obtain ⟨h1,h2,h3,h4⟩:=zGE e;exact ⟨j,h1,h,h2,h3,h4⟩
theorem Z2 {α:Type} {xs:List α} {j:Nat} {v:α} (h:xs[j]?=some v):YB xs (j:Int)=some v:=by
 have hj:j<xs.length:=(qZ.mp h).1;have e:J5 xs.length (j:Int)=some j:=by
  unfold J5;rw [if_pos (by omega),if_pos (by omega)]; simp
 unfold YB; rw [e]; exact h
theorem zFR {α:Type} (xs:List α) (v:α):YB (xs++[v]) (-1)=some v:=by
 have hl:(xs++[v]).length=xs.length+1:=by simp
 have e:J5 (xs++[v]).length (-1)=some xs.length:=by
  unfold J5;rw [hl,if_neg (by decide),if_pos (by omega)]
  congr 1
  omega
 unfold YB;rw [e];show (xs++[v])[xs.length]?=some v;simp
def zNS (b:Expr):Prop:=∀o i,subscripted b false o i=operate [o,i] (getItem o i)
def IxR (X:Cx) (r:R2):Prop:=
 ∀(value slice:Expr) (pins:List (Addr×Obj)) (s:Shared) (σ:St) (H:Hp) (x y:V) (v u:Value) (Q:VK),zN X pins σ H s->zn x v->zn y u->r x y H Q->
  subscripted slice false v u=operate [v,u] (getItem v u)->wpAny (model X.prog X.w) X.A (subscriptTail value slice v u) (EP X pins σ Q) X.xe s
def MtR (X:Cx) (id:String) (r:V->List V->Hp->VK->Prop):Prop:=
 ∀(pins:List (Addr×Obj)) (s:Shared) (σ:St) (H:Hp) (x:V) (xs:List V) (v:Value) (us:List Value) (Q:VK),zN X pins σ H s->zn x v->zi xs us->r x xs H Q->
  wpAny (model X.prog X.w) X.A (call (.builtin id) (v::us)) (EP X pins σ Q) X.xe s
section
variable {X:Cx} {a b:Expr} {ta tb:TE} {pos:Pos}
theorem zu {r:R2} (hr:IxR X r) (ha:PE X a ta) (hb:PE X b tb) (hs:zNS b):PE X (.Subscript a b pos) (tOp r ta tb):=by
 intro pins s σ H Q I h;exact Subscript_ (zKH ha hb I h λv u s2 x y H2 I2 rx ry q=>hr a b pins s2 σ H2 x y v u Q I2 rx ry q (hs _ _))
def zOa (K:PySem.W.Frag):R2:=λx y H Q=>∃p xs i v,x= .ref p/\y= .int i/\zQ K H p xs/\YB xs i=some v/\Q v H
def zQL (K:PySem.W.Frag):R2:=λx y H Q=>∃p xs i v,x= .ref p/\y= .int i/\Zd K H p xs/\YB xs i=some v/\Q v H
def zRx:R2:=λx y H Q=>∃z i c,x= .str z/\y= .int i/\z.length≤sizeLine/\YB z.cps.toList i=some c/\Q (.str ⟨#[c]⟩) H
theorem ZE:IxR X (zOa X.K):=by
 intro value slice pins s σ H x y v u Q I rx ry h hs;obtain ⟨p,xs,i,z,rfl,rfl,hq,he,q⟩:=h;cases rx;obtain ⟨t,rfl⟩:=ry;obtain ⟨its,r,pl,hz⟩:=I.list hq;obtain ⟨j,h1,h2,h3,h4,h5⟩:=zDN he;obtain ⟨w,ew,rw'⟩:=r.get h2;have hl:=r.length;have hn:=JS;have fin:EP X pins σ Q w s:=⟨z,H,I,rw',q⟩;by_cases h0:0≤i
 ·have hj:i.toNat=j:=by
   rw [seqIndex_of h0 h5] at h1;exact Option.some.inj h1
  exact item_listR pl.isList h0 (by omega) (by rw [hj]; simpa using ew) fin hs
 ·have hj:(i+(its.toArray.size:Int)).toNat=j:=by
   rw [seqIndex_neg (by omega) h4] at h1;rw [qV,<-hl];exact Option.some.inj h1
  exact subscriptTail_builtinR (x:=w) pl.isList.typeIs slot_list_getitem.lookup
   (wpAny_getItem_list_neg (Q:=λr s'=>r=w/\EP X pins σ Q r s') pl.isList (by omega) (by rw [qV] <;> omega) (by omega) (by rw [hj]; simpa using ew) ⟨rfl,fin⟩) hs
theorem Z3:IxR X (zQL X.K):=by
 intro value slice pins s σ H x y v u Q I rx ry h hs;obtain ⟨p,xs,i,z,rfl,rfl,hq,he,q⟩:=h;cases rx;obtain ⟨t,rfl⟩:=ry;obtain ⟨its,r,pl,hz⟩:=I.tuple hq;obtain ⟨j,h1,h2,h3,h4,h5⟩:=zDN he;obtain ⟨w,ew,rw'⟩:=r.get h2;have hl:=r.length;have hn:=JS;have fin:EP X pins σ Q w s:=⟨z,H,I,rw',q⟩;exact subscriptTail_builtinR (x:=w) pl.typeIs slot_tuple_getitem.lookup
  (getItem_tuple (j:=j) (Q:=λr s'=>r=w/\EP X pins σ Q r s') pl (by omega) (by omega) (by rw [qV,<-hl]; exact h1) (by simpa using ew) ⟨rfl,fin⟩) hs
theorem zEp:IxR X zRx:=by
 intro value slice pins s σ H x y v u Q I rx ry h hs;obtain ⟨z,i,c,rfl,rfl,hz,he,q⟩:=h;obtain ⟨t,rfl⟩:=rx;obtain ⟨t',rfl⟩:=ry;obtain ⟨j,h1,h2,h3,h4,h5⟩:=zDN he;have hl:z.cps.toList.length=z.length:=by simp [Str.length]
 rw [hl] at h1 h4 h5;have hn:=JS;exact tail_any (typeIs_str s z t) slot_str_getitem.lookup (getItem_str (c:=c) (by
  have e1:decide (i < -(2^63:Int))=false:=decide_eq_false (by omega);have e2:decide (i≥2^63)=false:=decide_eq_false (by omega);rw [e1,e2,Bool.or_false]) (by rw [h1]; simpa using h2) ⟨.str ⟨#[c]⟩,H,I.tok _,⟨_,rfl⟩,q⟩) hs
theorem zHS (its:List Value) (n j:Nat) (u:Value):Obj.mapSeq (·.setIfInBounds j u) {cls:= .type "list",data:= .seq its.toArray n}={cls:= .type "list",data:= .seq (its.set j u).toArray n}:=by
 simp [Obj.mapSeq]
theorem zN.lst {pins:List (Addr×Obj)} {σ:St} {H:Hp} {s:Shared} {p:Addr} {xs:List V} (I:zN X pins σ H s) (h:H p=some (.lst xs)):
  ∃(its:List Value) (n:Nat),zi xs its/\s.heap.get? p=some {cls:= .type "list",data:= .seq its.toArray n}/\xs.length≤sizeLine:=by
 obtain ⟨z,its,n,r,e⟩:=I.hok p _ h;exact ⟨its,n,r,e,z⟩
theorem zN.lstUpd {pins:List (Addr×Obj)} {σ:St} {H:Hp} {s:Shared} {p:Addr} {xs ys:List V} {its its':List Value} {n n':Nat} {f:Obj->Obj} (I:zN X pins σ H s) (h:H p=some (.lst xs))
  (ho:s.heap.get? p=some {cls:= .type "list",data:= .seq its.toArray n}) (hf:f {cls:= .type "list",data:= .seq its.toArray n}={cls:= .type "list",data:= .seq its'.toArray n'}) (r:zi ys its') (hz:ys.length≤sizeLine) (t:Nat):
  zN X pins σ (upd H p (.lst ys)) {s with heap:=s.heap.update p f,toks:=t}:=by
 have e:(s.heap.update p f).get? p=some {cls:= .type "list",data:= .seq its'.toArray n'}:=by
  rw [Heap.get?_update_self f ho (by rw [hf] <;> rfl),hf]
 refine I.write (x:=p) (e:=p) (by rw [h]; trivial) (.inl rfl) (λb u hb q=>(Heap.get?_update_other _ _ (Ne.symm hb)).trans q) ⟨_,e⟩ ?_;exact ⟨hz,its',n',r,e⟩
def zRk:V->V->V->Hp->(Hp->Prop)->Prop:=λo i v H Q=>∃p xs k j,o= .ref p/\i= .int k/\H p=some (.lst xs)/\J5 xs.length k=some j/\Q (upd H p (.lst (xs.set j v)))
theorem Y4:zPx X zRk:=by
 intro pins s σ H o i v ov iv u Q I ro ri rv h;obtain ⟨p,xs,k,j,rfl,rfl,hp,hj,q⟩:=h;cases ro;obtain ⟨t,rfl⟩:=ri;obtain ⟨its,n,r,ho,hz⟩:=I.lst hp;obtain ⟨h1,h2,h3,h4⟩:=zGE hj;have hl:=r.length;have hn:=JS;have I':zN X pins σ (upd H p (.lst (xs.set j v))) {s with heap:=s.heap.update p (Obj.mapSeq (·.setIfInBounds j u))}:=
  I.lstUpd hp ho (zHS its n j u) (r.set rv j) (by rw [xU]; exact hz) s.toks
 by_cases h0:0≤k
 ·have hk:k.toNat=j:=by
   rw [seqIndex_of h0 h4] at h1;exact Option.some.inj h1
  exact PySem.W.ki_setAt ho h0 (by omega) (by rw [qV,<-hl]; exact h4) (by rw [hk]; exact ⟨_,I',q⟩)
 ·have hk:(k+(its.toArray.size:Int)).toNat=j:=by
   rw [seqIndex_neg (by omega) h3] at h1;rw [qV,<-hl];exact Option.some.inj h1
  exact PySem.W.ki_setBack ho (by omega) (by rw [qV,<-hl]; exact h3) (by omega) (by rw [hk]; exact ⟨_,I',q⟩)
theorem zFL (lo hi:Option Int) (n:Nat):(sliceBounds lo hi none n).1=((HT.jA n 0 lo:Nat):Int)/\(sliceBounds lo hi none n).2.1=((HT.jA n n hi:Nat):Int)/\(sliceBounds lo hi none n).2.2=1:=by
 refine ⟨?_,?_,rfl⟩
 ·cases lo with
  | none=>simp [sliceBounds,HT.jA]
  | some i=>
   simp only [sliceBounds,HT.jA,Option.getD_none,show (1:Int) > 0 by decide,if_true];by_cases h:i<0
   ·simp only [h,if_true] <;> omega
   ·simp only [h,if_false] <;> omega
 ·cases hi with
  | none=>simp [sliceBounds,HT.jA]
  | some i=>
   simp only [sliceBounds,HT.jA,Option.getD_none,show (1:Int) > 0 by decide,if_true];by_cases h:i<0
   ·simp only [h,if_true] <;> omega
   ·simp only [h,if_false] <;> omega
theorem zEK (its:List Value) (lo hi:Option Int):slicePick its.toArray lo hi none=((its.drop (HT.jA its.length 0 lo)).take (HT.jA its.length its.length hi - HT.jA its.length 0 lo)).toArray:=by
 obtain ⟨h1,h2,h3⟩:=zFL lo hi its.toArray.size;unfold slicePick;rw [h1,h2,h3];simp only [sliceRange_one,pick_run,qV] <;> rfl
def zSW (K:PySem.W.Frag):V->Option Int->Option Int->Hp->VK->Prop:=λx lo hi H Q=>∃a xs,x= .ref a/\zQ K H a xs/\∀p,H p=none->Q (.ref p) (upd H p (.lst (zAl xs lo hi)))
theorem zGh:SlR X (zSW X.K):=by
 intro pins s σ H x v vl vu lo hi sl Q I rx hs pl pu h;obtain ⟨a,xs,rfl,hx,q⟩:=h;cases rx;obtain ⟨its,r,ht,hz⟩:=I.list hx;have hlen:=r.length;refine ⟨"list",_,slot_list_getitem.lookup,ht.isList.typeIs,?_⟩;refine wpAny_getItem_list_slice ht.isList hs pl pu .none (by simp) ?_ (by rw [qV] <;> omega);rw [zEK,<-hlen];refine ⟨.ref s.heap.objs.size,_,I.laid (t':=s.toks) (o:= .lst (zAl xs lo hi)) (λb ob q=>Heap.get?_push_of_some _ q) (qE _) ?_,rfl,q _ (I.hok.fresh (qE _))⟩;exact ⟨qK (zFy xs lo hi) hz,_,0,(r.drop (HT.jA xs.length 0 lo)).take (HT.jA xs.length xs.length hi - HT.jA xs.length 0 lo),Heap.get?_push_size _ rfl⟩
def jq:V->Bool
 | .non=>true
 | .bl _=>true
 | .int _=>true
 | .str _=>true
 | _=>false
def eqV:V->V->Bool
 | .non, .non=>true
 | .bl a, .bl b=>a==b
 | .bl a, .int b=>(if a then 1 else 0)==b
 | .int a, .bl b=>a==(if b then 1 else 0)
 | .int a, .int b=>a==b
 | .str a, .str b=>a==b
 | _,_=>false
theorem zQG {A:Around} {s:Shared} {y x:V} {u v:Value} (ry:zn y u) (rx:zn x v) (fy:jq y=true) (fx:jq x=true):SeqAt.EqAt A s u v (eqV y x):=by
 cases y with
 | non=>
  cases ry;cases x with
  | non=>cases rx; exact SeqAt.EqAt.same _
  | bl b=>cases rx; exact SeqAt.EqAt.none_bool b
  | int b=>obtain ⟨t,rfl⟩:=rx; exact SeqAt.EqAt.none_int b t
  | str b=>obtain ⟨t,rfl⟩:=rx; exact SeqAt.EqAt.none_str b t
  | _=>exact absurd (show false=true from fx) qN
 | bl a=>
  cases ry;cases x with
  | non=>cases rx; exact SeqAt.EqAt.bool_none a
  | bl b=>cases rx; exact SeqAt.EqAt.bool_bool a b
  | int b=>obtain ⟨t,rfl⟩:=rx; exact SeqAt.EqAt.bool_int a b t
  | str b=>obtain ⟨t,rfl⟩:=rx; exact SeqAt.EqAt.bool_str a b t
  | _=>exact absurd (show false=true from fx) qN
 | int a=>
  obtain ⟨t',rfl⟩:=ry;cases x with
  | non=>cases rx; exact SeqAt.EqAt.int_none a t'
  | bl b=>cases rx; exact SeqAt.EqAt.int_bool a t' b
  | int b=>obtain ⟨t,rfl⟩:=rx; exact SeqAt.EqAt.int_int a t' b t
  | str b=>obtain ⟨t,rfl⟩:=rx; exact SeqAt.EqAt.int_str a t' b t
  | _=>exact absurd (show false=true from fx) qN
 | str a=>
  obtain ⟨t',rfl⟩:=ry;cases x with
  | non=>cases rx; exact SeqAt.EqAt.str_none a t'
  | bl b=>cases rx; exact SeqAt.EqAt.str_bool a t' b
  | int b=>obtain ⟨t,rfl⟩:=rx; exact SeqAt.EqAt.str_int a t' b t
  | str b=>obtain ⟨t,rfl⟩:=rx; exact SeqAt.EqAt.str_str a t' b t
  | _=>exact absurd (show false=true from fx) qN
 | _=>exact absurd (show false=true from fy) qN
def JM (x:V) (u:Value):Bool:=match u with
 | .none=>eqV .non x
 | .bool b=>eqV (.bl b) x
 | .int i _=>eqV (.int i) x
 | .str z _=>eqV (.str z) x
 | _=>false
theorem zIp {x y:V} {u:Value} (r:zn y u) (f:jq y=true):JM x u=eqV y x:=by
 cases y with
 | non=>cases r; rfl
 | bl b=>cases r; rfl
 | int i=>obtain ⟨t,rfl⟩:=r; rfl
 | str z=>obtain ⟨t,rfl⟩:=r; rfl
 | _=>exact absurd (show false=true from f) qN
theorem Jw {x:V}:∀{xs:List V} {us:List Value},zi xs us->xs.all jq=true->us.any (JM x)=xs.any λy=>eqV y x
 | _,_, .nil,_=>rfl
 | y::xs,u::us, .cons r t,f=>by
  rw [List.all_cons,qM] at f;rw [XI,XI,zIp r f.1,Jw t f.2]
theorem JP {A:Around} {s:Shared} {x:V} {v:Value} (rx:zn x v) (fx:jq x=true):∀{xs:List V} {us:List Value},zi xs us->xs.all jq=true->∀u∈us,SeqAt.EqAt A s u v (JM x u)
 | _,_, .nil,_=>λu hu=>by cases hu
 | y::xs,u::us, .cons r t,f=>λu' hu=>by
  rw [List.all_cons,qM] at f;rcases qG.mp hu with rfl | hu
  ·rw [zIp r f.1]; exact zQG r rx f.1 fx
  ·exact JP rx fx t f.2 u' hu
def inV (x:V) (xs:List V):Bool:=xs.any λy=>eqV y x
def rIn (K:PySem.W.Frag) (neg:Bool):R2:=λx y H Q=>∃p xs,y= .ref p/\(zQ K H p xs\/Zd K H p xs)/\jq x=true/\xs.all jq=true/\Q (.bl (if neg then !inV x xs else inV x xs)) H
theorem zDp:yN X (compareOp .In) (rIn X.K false):=by
 intro pins s σ H x y v u Q I rx ry h;obtain ⟨p,xs,rfl,hq,fx,fs,q⟩:=h;cases ry;rcases hq with hq | hq
 ·obtain ⟨its,r,pl,hz⟩:=I.list hq
  refine SeqAt.in_listAt (JM x) pl.isList (λw hw=>JP rx fx r fs w (by simpa using hw)) ⟨.bl _,H,I,rfl,?_⟩;rw [show its.toArray.any (JM x)=its.any (JM x) by simp,Jw r fs];exact q
 ·obtain ⟨its,r,pl,hz⟩:=I.tuple hq
  refine SeqAt.in_tupleAt (JM x) pl (λw hw=>JP rx fx r fs w (by simpa using hw)) ⟨.bl _,H,I,rfl,?_⟩;rw [show its.toArray.any (JM x)=its.any (JM x) by simp,Jw r fs];exact q
theorem zEg:yN X (compareOp .NotIn) (rIn X.K true):=by
 intro pins s σ H x y v u Q I rx ry h;obtain ⟨p,xs,rfl,hq,fx,fs,q⟩:=h;cases ry;rcases hq with hq | hq
 ·obtain ⟨its,r,pl,hz⟩:=I.list hq
  refine SeqAt.notIn_listAt (JM x) pl.isList (λw hw=>JP rx fx r fs w (by simpa using hw)) ⟨.bl _,H,I,rfl,?_⟩;rw [show its.toArray.any (JM x)=its.any (JM x) by simp,Jw r fs];exact q
 ·obtain ⟨its,r,pl,hz⟩:=I.tuple hq
  refine SeqAt.notIn_tupleAt (JM x) pl (λw hw=>JP rx fx r fs w (by simpa using hw)) ⟨.bl _,H,I,rfl,?_⟩;rw [show its.toArray.any (JM x)=its.any (JM x) by simp,Jw r fs];exact q
theorem ZD:yS X (.builtin "len") (λxs H Q=>∃p ys,xs=[.ref p]/\(zQ X.K H p ys\/Zd X.K H p ys)/\Q (.int ys.length) H):=by
 intro pins s σ H xs us Q I r h;obtain ⟨p,ys,rfl,hq,q⟩:=h;obtain ⟨u,rfl,rx⟩:=zEZ r;cases rx;have hn:=JS;rcases hq with hq | hq
 ·obtain ⟨its,r',pl,hz⟩:=I.list hq
  have hlen:=r'.length;exact Calls.call_len_list pl.isList (by simp only [qV] <;> omega) ⟨.int ys.length,H,I.tok _,⟨s.toks+1,by rw [qV,hlen]⟩,q⟩
 ·obtain ⟨its,r',pl,hz⟩:=I.tuple hq
  have hlen:=r'.length;exact len_tuple pl (by simp only [qV] <;> omega) ⟨.int ys.length,H,I.tok _,⟨s.toks+1,by rw [qV,hlen]⟩,q⟩
theorem YX:yS X (.builtin "len") (λxs H Q=>∃z,xs=[.str z]/\z.length≤sizeLine/\Q (.int z.length) H):=by
 intro pins s σ H xs us Q I r h;obtain ⟨z,rfl,hz,q⟩:=h;obtain ⟨u,rfl,t,rfl⟩:=zEZ r;have hn:=JS;exact len_str (by omega) ⟨.int z.length,H,I.tok _,⟨_,rfl⟩,q⟩
theorem ym:yS X (.type "list") (λxs H Q=>∃p ys,xs=[.ref p]/\(zQ X.K H p ys\/Zd X.K H p ys)/\∀l,H l=none->Q (.ref l) (upd H l (.lst ys))):=by
 intro pins s σ H xs us Q I r h;obtain ⟨p,ys,rfl,hq,q⟩:=h;obtain ⟨u,rfl,rx⟩:=zEZ r;cases rx;have fin:∀(its:List Value),zi ys its->ys.length≤sizeLine->∀(h':Heap) (c':Nat),(∀b o',s.heap.get? b=some o'->h'.get? b=some o')->
   h'.get? s.heap.objs.size=some {cls:= .type "list",dict:=none,data:= .seq its.toArray c',slots:=#[]}->EP X pins σ Q (.ref s.heap.objs.size) {s with heap:=h'}:=λits r' hz h' c' kp e=>
  ⟨.ref s.heap.objs.size,_,I.laid (t':=s.toks) kp (qE _) (show ZU X.prog X.w _ h' _ (.lst ys) from ⟨hz,its,c',r',e⟩),rfl,q _ (I.hok.fresh (qE _))⟩
 rcases hq with hq | hq
 ·obtain ⟨its,r',pl,hz⟩:=I.list hq
  have hlen:=r'.length;obtain ⟨o,ho,hc,n,hd⟩:=pl.isList;exact call_list_seq p (.inl rfl) ho hc hd (λh' c' kp e=>fin its r' hz h' c' kp e) (by simp only [qV] <;> omega)
 ·obtain ⟨its,r',pl,hz⟩:=I.tuple hq
  have hlen:=r'.length;obtain ⟨o,ho,hc,n,hd⟩:=pl;exact call_list_seq p (.inr rfl) ho hc hd (λh' c' kp e=>fin its r' hz h' c' kp e) (by simp only [qV] <;> omega)
def tyV (K:PySem.W.Frag) (T:String) (x:V) (H:Hp):Prop:=match x with
 | .str _=>T="str"
 | .int _=>T="int"
 | .ref p=>(T="list"/\∃xs,zQ K H p xs)\/(T="tuple"/\∃o,K.lookup p=some o/\o.cls= .type "tuple"/\o.dict=none)\/
   (T="dict"/\((∃kvs,H p=some (.dK kvs))\/∃kvs,H p=some (.dT kvs)))\/(T="set"/\∃S n,H p=some (.set S n))
 | _=>False
theorem zPX {pins:List (Addr×Obj)} {σ:St} {H:Hp} {s:Shared} {T:String} {x:V} {v:Value} (I:zN X pins σ H s) (r:zn x v) (ty:tyV X.K T x H):
  s.TypeIs v T/\∀a,v= .ref a->∃ob,s.heap.get? a=some ob/\ob.dict=none:=by
 cases x with
 | str z=>
  obtain ⟨t,rfl⟩:=r;cases (show T="str" from ty);exact ⟨typeIs_str s z t,λ_ e=>nomatch e⟩
 | int i=>
  obtain ⟨t,rfl⟩:=r;cases (show T="int" from ty);exact ⟨typeIs_int s i t,λ_ e=>nomatch e⟩
 | ref p=>
  cases r;rcases ty with ⟨rfl,xs,hq⟩ | ⟨rfl,o,hk,hc,hd⟩ | ⟨rfl,hk⟩ | ⟨rfl,S,n,hk⟩
  ·obtain ⟨its,_,pl,_⟩:=I.list hq
   refine ⟨pl.isList.typeIs,λa e=>?_⟩;cases e;obtain ⟨o,n,e,c,hd,_⟩:=pl;exact ⟨o,e,hd⟩
  ·refine ⟨⟨o,I.kIn p o hk,hc⟩,λa e=>?_⟩
   cases e;exact ⟨o,I.kIn _ o hk,hd⟩
  ·have z:∃o,s.heap.get? p=some o/\o.ExactDict:=by
    rcases hk with ⟨kvs,hk⟩ | ⟨kvs,hk⟩
    ·obtain ⟨_,_,_,_,o,_,_,e,ex,_⟩:=I.hok p _ hk
     exact ⟨o,e,ex⟩
    ·obtain ⟨_,_,_,_,o,_,_,e,ex,_⟩:=I.hok p _ hk
     exact ⟨o,e,ex⟩
   obtain ⟨o,e,ex⟩:=z;refine ⟨⟨o,e,ex.1⟩,λa e2=>?_⟩;cases e2;exact ⟨o,e,ex.2.1⟩
  ·obtain ⟨o,_,_,_,e,ex,_⟩:=I.hok p _ hk
   refine ⟨⟨o,e,ex.1⟩,λa e2=>?_⟩;cases e2;exact ⟨o,e,ex.2.1⟩
 | _=>exact False.elim ty
def tBM (K:PySem.W.Frag) (T:String) (r:V->List V->Hp->VK->Prop) (to:TE) (t:TA):TE:=λσ H Q=>to σ H λx H1=>tyV K T x H1/\t σ H1 λxs H2=>r x xs H2 Q
variable {o e:Expr} {es:List Expr} {to:TE} {t:TA} {name:Str} {apos cpos:Pos} {T id:String} {r:V->List V->Hp->VK->Prop}
theorem yB (pa:PlainAttrs T) (slot:Slot T name id) (hty:typeOf (.builtin id)=pure (.type "method_descriptor")) (hm:MtR X id r) (ho:PE X o to) (ha:PA X (e::es) t)
  (hbase:attributeBase o name X.env (eval o X.env)=eval o X.env:=by rfl)
  (hfew:((backTo cpos (starEach (e::es) X.env)).all (λx=> !x.1)&&(backToKw cpos (keywordEach [] X.env)).all (λx=>x.1.isSome)
   &&decide ((e::es).length+([]:List Keyword).length+(if ([]:List Keyword).isEmpty then 0 else 1)<30))=true:=by rfl)
  (hline:(apos.endLine==cpos.line)=true:=by rfl) (hs:starEach (e::es) X.env=(false,eval e X.env)::starEach es X.env:=by rfl) (hplain:(backTo cpos (starEach es X.env)).any (·.1)=false:=by rfl):
  PE X (.Call (.Attribute o name apos) (e::es) [] cpos) (tBM X.K T r to t):=by
 intro pins s σ H Q I h;refine wpAny_Call_method_late hbase hfew hline rfl (zj (ho pins s σ H _ I h) λv s1 ⟨x,H1,I1,r1,ty,q1⟩=>?_);obtain ⟨h1,h2⟩:=zPX I1 r1 ty;refine ⟨T,id,pa,slot,hty,h1,h2,?_⟩;have hA:=ha cpos pins s1 σ H1 _ I1 q1;rw [hs] at hA ⊢;refine Calls.callWith_builtin (by show (false||(backTo cpos (starEach es X.env)).any (·.1))=false; rw [hplain] <;> rfl) (Calls.evalArgs_plain ?_);exact zj hA λus s2 ⟨vs,H2,I2,r2,q2⟩=>hm pins s2 σ H2 x vs v us Q I2 r1 r2 q2
end
end L2
namespace L2
open PySem PySem.Spec PyProof.Rows
def MtM (X:Cx) (id:String) (r:V->List V->Hp->VK->Prop):Prop:=
 ∀(pins:List (Addr×Obj)) (s:Shared) (σ:St) (H:Hp) (x:V) (xs:List V) (v:Value) (us:List Value) (Q:VK),zN X pins σ H s->zn x v->zi xs us->r x xs H Q->
  wpAny (model X.prog X.w) X.A (call (.builtin id) (v::us)) (EP X pins σ Q) X.xe s
theorem zi.one:∀{x:V} {us:List Value},zi [x] us->∃u,us=[u]/\zn x u
 | _,_, .cons r .nil=>⟨_,rfl,r⟩
theorem zi.two:∀{x y:V} {us:List Value},zi [x,y] us->∃u v,us=[u,v]/\zn x u/\zn y v
 | _,_,_, .cons r (.cons q .nil)=>⟨_,_,rfl,r,q⟩
section
variable {X:Cx} {pins:List (Addr×Obj)} {σ:St} {H:Hp} {s:Shared} {l b:Addr} {xs ys zs:List V}
theorem zN.lset {its its':List Value} {n:Nat} {f:Array Value->Array Value} {t':Nat} (I:zN X pins σ H s) (hH:H l=some (.lst xs))
  (e:s.heap.get? l=some {cls:= .type "list",data:= .seq its.toArray n}) (hf:f its.toArray=its'.toArray) (hv:zi ys its') (hz:ys.length≤sizeLine):
  zN X pins σ (upd H l (.lst ys)) {s with heap:=s.heap.update l (Obj.mapSeq f),toks:=t'}:=by
 have q:=PySem.IsL.update e f;rw [hf] at q;refine I.write (x:=l) (e:=l) (by rw [hH]; exact trivial) (.inl rfl) (λb' u hb hu=>(Heap.get?_update_other s.heap (Obj.mapSeq f) (Ne.symm hb)).trans hu) ⟨_,q⟩ ?_;exact ⟨hz,its',_,hv,q⟩
theorem zN.lnew {its:List Value} {t':Nat} (I:zN X pins σ H s) (hv:zi ys its) (hz:ys.length≤sizeLine):
  zN X pins σ (upd H s.heap.objs.size (.lst ys)) {s with heap:=s.heap.push {cls:= .type "list",data:= .seq its.toArray},toks:=t'}:=
 I.laid (λ_ _ q=>Heap.get?_push_of_some _ q) (qE _) ⟨hz,its,0,hv,Heap.get?_push_size _ rfl⟩
theorem zN.fresh (I:zN X pins σ H s):H s.heap.objs.size=none:=I.hok.fresh (qE _)
theorem zN.lstM (I:zN X pins σ H s) (hH:H l=some (.lst xs)):xs.length≤sizeLine/\∃(its:List Value) (n:Nat),zi xs its/\xs.length=its.length/\s.heap.get? l=some {cls:= .type "list",data:= .seq its.toArray n}:=by
 obtain ⟨z,its,n,r,e⟩:=I.hok l _ hH;exact ⟨z,its,n,r,r.length,e⟩
theorem zKb {n:Nat} (h:n≤sizeLine):Builtin.List.listTooLong n=false:=by
 unfold Builtin.List.listTooLong;exact decide_eq_false (by omega)
end
section
variable {X:Cx}
def zNZ:V->List V->Hp->VK->Prop:=λx vs H Q=>∃l xs y,x= .ref l/\vs=[y]/\H l=some (.lst xs)/\xs.length<sizeLine/\Q .non (upd H l (.lst (xs++[y])))
theorem yk:MtM X "list.append" zNZ:=by
 intro pins s σ H x vs v us Q I rx rv h;obtain ⟨l,xs,y,rfl,rfl,hH,hz,q⟩:=h;cases rx;obtain ⟨u,rfl,ru⟩:=rv.one;obtain ⟨z,its,n,r,hl,e⟩:=I.lstM hH;refine call_meets F.slot_list_append ⟨_,e,rfl⟩ F.entry_list_append (F.args_list_append_2 _ _) (PySem.list_append l its.toArray n u (by rw [qV]; omega)) ⟨e,?_⟩;refine ⟨.non,_,I.lset (its':=its++[u]) hH e (by simp) (r.append (.cons ru .nil)) ?_,rfl,q⟩;rw [qI,XB];omega
def zNa:V->List V->Hp->VK->Prop:=λx vs H Q=>∃l b xs zs,x= .ref l/\vs=[.ref b]/\H l=some (.lst xs)/\H b=some (.lst zs)/\xs.length+zs.length≤sizeLine/\Q .non (upd H l (.lst (xs++zs)))
theorem zIS:MtM X "list.extend" zNa:=by
 intro pins s σ H x vs v us Q I rx rv h;obtain ⟨l,b,xs,zs,rfl,rfl,hH,hB,hz,q⟩:=h;cases rx;obtain ⟨u,rfl,ru⟩:=rv.one;cases ru;obtain ⟨z,its,n,r,hl,e⟩:=I.lstM hH;obtain ⟨z2,its2,n2,r2,hl2,e2⟩:=I.lstM hB;have hsz:its.toArray.size+its2.toArray.size≤sizeLine:=by rw [qV,qV]; omega
 have hlong:¬(!its.toArray.isEmpty&&Builtin.List.listTooLong (its.toArray.size+its2.toArray.size))=true:=by
  rw [zKb hsz,XU];exact qN
 refine call_meets F.slot_list_extend ⟨_,e,rfl⟩ F.entry_list_extend (F.args_list_extend_2 _ _)
  (AutoSeq1.list_extend_list_list_0 l its.toArray n b its2.toArray n2 hlong (by rw [qV]; omega) (by omega)) ⟨e,e2,?_⟩
 refine ⟨.non,_,I.lset (its':=its++its2) hH e (by simp) (r.append r2) ?_,rfl,q⟩;rw [qI];omega
def zFq:R2:=λx y H Q=>∃l b xs zs,x= .ref l/\y= .ref b/\H l=some (.lst xs)/\H b=some (.lst zs)/\xs.length+zs.length≤sizeLine/\∀p,H p=none->Q (.ref p) (upd H p (.lst (xs++zs)))
theorem zo:yN X (binaryOp .Add) zFq:=by
 intro pins s σ H x y v u Q I rx ry h;obtain ⟨l,b,xs,zs,rfl,rfl,hH,hB,hz,q⟩:=h;cases rx;cases ry;obtain ⟨z,its,n,r,hl,e⟩:=I.lstM hH;obtain ⟨z2,its2,n2,r2,hl2,e2⟩:=I.lstM hB;refine PySem.P.add_list e e2 ?_ (by rw [qV,qV]; omega);have ea:its.toArray++its2.toArray=(its++its2).toArray:=by simp
 rw [ea];exact ⟨.ref _,_,I.lnew (t':=s.toks) (r.append r2) (by rw [qI]; omega),rfl,q _ I.fresh⟩
end
section
variable {prog:Program} {w:World} {A:Around} {E:Value->Shared->Prop} {s:Shared}
set_option maxRecDepth 100000 in
end
section
variable {X:Cx}
end
end L2
namespace L2
open PySem PySem.Spec PyProof.Rows
section
variable {κ:Type} [DecidableEq κ]
def ZP (kvs:List (κ×V)) (k:κ):Option V:=(kvs.find? λkv=>decide (kv.1=k)).map (·.2)
def Zj (kvs:List (κ×V)) (k:κ) (v:V):List (κ×V):=
 if (kvs.any λkv=>decide (kv.1=k))=true then kvs.map (λkv=>if kv.1=k then (kv.1,v) else kv) else kvs++[(k,v)]
theorem yX {p:κ×V} {r:List (κ×V)} {k:κ} (e:p.1=k):ZP (p::r) k=some p.2:=by simp [ZP,QN,e]
theorem yJ {p:κ×V} {r:List (κ×V)} {k:κ} (e:¬p.1=k):ZP (p::r) k=ZP r k:=by simp [ZP,QN,e]
theorem yl (k:κ):∀kvs:List (κ×V),(kvs.any λkv=>decide (kv.1=k))=(ZP kvs k).isSome
 | []=>rfl
 | p::r=>by
  rw [XI];by_cases e:p.1=k
  ·simp only [yX e,decide_eq_true e,Bool.true_or,Option.isSome_some]
  ·rw [yJ e,decide_eq_false e,Bool.false_or]; exact yl k r
theorem zFT (k j:κ) (y:V):∀kvs:List (κ×V),ZP (kvs.map λkv=>if kv.1=k then (kv.1,y) else kv) j=(ZP kvs j).map λx=>if j=k then y else x
 | []=>rfl
 | p::r=>by
  have ih:=zFT k j y r;rw [qQ];by_cases h:p.1=k
  ·rw [if_pos h]
   by_cases e:p.1=j
   ·rw [yX (p:=(p.1,y)) e,yX e,XF,if_pos (e.symm.trans h)]
   ·rw [yJ (p:=(p.1,y)) e,yJ e,ih]
  ·rw [if_neg h]
   by_cases e:p.1=j
   ·rw [yX (p:=p) e,yX e,XF,if_neg (λz=>h (e.trans z))]
   ·rw [yJ (p:=p) e,yJ e,ih]
theorem zDW (k j:κ) (y:V):∀kvs:List (κ×V),ZP kvs k=none->ZP (kvs++[(k,y)]) j=if j=k then some y else ZP kvs j
 | [],_=>by
  by_cases e:k=j
  ·rw [if_pos e.symm]; exact yX (p:=(k,y)) e
  ·rw [if_neg (λz=>e z.symm)]; exact yJ (p:=(k,y)) e
 | p::r,hn=>by
  rw [List.cons_append];have hk:¬p.1=k:=λz=>by rw [yX z] at hn; cases hn
  rw [yJ hk] at hn;have ih:=zDW k j y r hn;by_cases e:p.1=j
  ·rw [yX e,yX e,if_neg (λz=>hk (e.trans z))]
  ·rw [yJ e,yJ e,ih]
theorem Y7 (kvs:List (κ×V)) (k j:κ) (y:V):ZP (Zj kvs k y) j=if j=k then some y else ZP kvs j:=by
 unfold Zj;by_cases a:(kvs.any λkv=>decide (kv.1=k))=true
 ·rw [if_pos a,zFT]
  rw [yl] at a;by_cases e:j=k
  ·obtain ⟨x,hx⟩:=Option.isSome_iff_exists.mp a
   rw [if_pos e,e,hx,XF,if_pos rfl]
  ·rw [if_neg e]
   cases ZP kvs j with
   | none=>rfl
   | some x=>rw [XF,if_neg e]
 ·rw [if_neg a]
  refine zDW k j y kvs ?_;rw [yl] at a;cases q:ZP kvs k with
  | none=>rfl
  | some x=>rw [q] at a; exact (a rfl).elim
theorem Ju (kvs:List (κ×V)) (k:κ) (v:V):(Zj kvs k v).length≤kvs.length+1:=by
 unfold Zj
 split
 ·rw [qA]; omega
 ·rw [qI,qL,List.length_nil]; omega
theorem zCA {kvs:List (κ×V)} {k:κ} (v:V) (h:ZP kvs k=none):Zj kvs k v=kvs++[(k,v)]:=by
 unfold Zj;rw [yl,h];exact if_neg (by decide)
theorem Yn.isSome_eq {o:Option V} {u:Option Value} (r:Yn o u):o.isSome=u.isSome:=by
 cases o with
 | none=>cases u with
  | none=>rfl
  | some _=>exact (show False from r).elim
 | some _=>cases u with
  | none=>exact (show False from r).elim
  | some _=>rfl
theorem KV.val {kvs:List (κ×V)} {vs:List (κ×Value)} (r:KV kvs vs) (k:κ):Yn (ZP kvs k) (valueAt vs k):=by
 unfold KV at r
 induction r with
 | nil=>exact True.intro
 | @cons p q ps qs h t ih=>
  obtain ⟨h1,h2⟩:=h;by_cases e:p.1=k
  ·have e':q.1=k:=h1.symm.trans e
   have b:valueAt (q::qs) k=some q.2:=by simp [valueAt,QN,e']
   rw [yX e,b]; exact h2
  ·have e':¬q.1=k:=λz=>e (h1.trans z)
   have b:valueAt (q::qs) k=valueAt qs k:=by simp [valueAt,QN,e']
   rw [yJ e,b]; exact ih
theorem KV.any {kvs:List (κ×V)} {vs:List (κ×Value)} (r:KV kvs vs) (k:κ):(kvs.any λkv=>decide (kv.1=k))=vs.any λkv=>decide (kv.1=k):=by
 unfold KV at r
 induction r with
 | nil=>rfl
 | cons h t ih=>rw [XI,XI,ih,h.1]
theorem KV.repl {kvs:List (κ×V)} {vs:List (κ×Value)} (r:KV kvs vs) (k:κ) {y:V} {u:Value} (ry:zn y u):
  KV (kvs.map λkv=>if kv.1=k then (kv.1,y) else kv) (vs.map λkv=>if kv.1=k then (kv.1,u) else kv):=by
 unfold KV at r ⊢
 induction r with
 | nil=>exact .nil
 | @cons p q ps qs h t ih=>
  rw [qQ,qQ];refine .cons ?_ ih;obtain ⟨h1,h2⟩:=h;by_cases e:p.1=k
  ·rw [if_pos e,if_pos (h1.symm.trans e)]; exact ⟨h1,ry⟩
  ·rw [if_neg e,if_neg (λz=>e (h1.trans z))]; exact ⟨h1,h2⟩
theorem KV.put {kvs:List (κ×V)} {vs:List (κ×Value)} (r:KV kvs vs) (k:κ) {y:V} {u:Value} (ry:zn y u):KV (Zj kvs k y) (stored vs k u):=by
 unfold Zj stored;rw [r.any k];by_cases e:(vs.any λkv=>decide (kv.1=k))=true
 ·rw [if_pos e,if_pos e]; exact r.repl k ry
 ·rw [if_neg e,if_neg e]; exact Paired.snoc r ⟨rfl,ry⟩
theorem KV.length {kvs:List (κ×V)} {vs:List (κ×Value)} (r:KV kvs vs):kvs.length=vs.length:=Paired.length r
end
theorem JB {P:Program} {w:World} {k:ze} {u:Value} (r:zn (kV k) u):(ZV P w).is k u=true:=by
 cases k with
 | inl i=>obtain ⟨t,e⟩:=(show ∃t,u=Value.int i t from r); subst e; exact zFt P w i t
 | inr x=>obtain ⟨t,e⟩:=(show ∃t,u=Value.str x t from r); subst e; exact Jt P w x t
theorem zDh {P:Program} {w:World}:∀{ks:List ze} {us:List Value},zi (ks.map kV) us->ItemsAre (ZV P w) ks us
 | [],_,r=>by rw [List.map_nil] at r; cases r; exact .nil
 | k::ks,_,r=>by
  rw [qQ] at r;cases r with
  | cons h t=>exact .cons (JB h) (zDh t)
abbrev KT (H:Hp):List (List ze×V)->List (List ze×Addr×Value)->Prop:=Paired λp q=>p.1=q.1/\H q.2.1=some (.tup (p.1.map kV))/\zn p.2 q.2.2
theorem KT.val {H:Hp} {kvs:List (List ze×V)} {xs:List (List ze×Addr×Value)} (r:KT H kvs xs) (k:List ze):Yn (ZP kvs k) ((atKey xs k).map (·.2)):=by
 induction r with
 | nil=>exact True.intro
 | @cons p q ps qs h t ih=>
  obtain ⟨h1,_,h2⟩:=h;by_cases e:p.1=k
  ·have e':q.1=k:=h1.symm.trans e
   have b:atKey (q::qs) k=some q.2:=by simp [atKey,QN,e']
   rw [yX e,b]; exact h2
  ·have e':¬q.1=k:=λz=>e (h1.trans z)
   have b:atKey (q::qs) k=atKey qs k:=by simp [atKey,QN,e']
   rw [yJ e,b]; exact ih
theorem KT.repl {H:Hp} {kvs:List (List ze×V)} {xs:List (List ze×Addr×Value)} (r:KT H kvs xs) (k:List ze) {y:V} {u:Value} (ry:zn y u):
  KT H (kvs.map λkv=>if kv.1=k then (kv.1,y) else kv) (xs.map (putAt k u)):=by
 induction r with
 | nil=>exact .nil
 | @cons p q ps qs h t ih=>
  rw [qQ,qQ];refine .cons ?_ ih;obtain ⟨h1,h2,h3⟩:=h;unfold putAt;by_cases e:p.1=k
  ·rw [if_pos e,if_pos (h1.symm.trans e)]; exact ⟨h1,h2,ry⟩
  ·rw [if_neg e,if_neg (λz=>e (h1.trans z))]; exact ⟨h1,h2,h3⟩
theorem KT.put {H:Hp} {kvs:List (List ze×V)} {xs:List (List ze×Addr×Value)} (r:KT H kvs xs) (k:List ze) {b:Addr} {y:V} {u:Value} (hb:H b=some (.tup (k.map kV))) (ry:zn y u):
  KT H (Zj kvs k y) (storedH xs k b u):=by
 have e:(kvs.any λkv=>decide (kv.1=k))=(atKey xs k).isSome:=by
  rw [yl,(r.val k).isSome_eq,Option.isSome_map]
 unfold Zj storedH;rw [e];by_cases q:(atKey xs k).isSome=true
 ·rw [if_pos q,if_pos q]; exact r.repl k ry
 ·rw [if_neg q,if_neg q]; exact Paired.snoc r ⟨rfl,hb,ry⟩
theorem KT.keeps {H H':Hp} {kvs:List (List ze×V)} {xs:List (List ze×Addr×Value)} (r:KT H kvs xs) (ht:∀b ys,H b=some (.tup ys)->H' b=some (.tup ys)):KT H' kvs xs:=
 Paired.mapP r λ_ _ z=>⟨z.1,ht _ _ z.2.1,z.2.2⟩
section
variable {P:Program} {w:World} {H:Hp} {h:Heap} {a:Addr}
theorem zMM {u:HO} (ok:yV P w H h) (e:Rd H a u):ZU P w H h a u:=e.ok ok
theorem zEY {kvs:List (ze×V)} (ok:yV P w H h) (e:Rd H a (.dK kvs)):kvs.length≤sizeLine/\(a==sysModules)=false/\∃vs,KV kvs vs/\h.DictOf (ZV P w) a vs:=
 show ZU P w H h a (.dK kvs) from zMM ok e
theorem zLl {kvs:List (ze×V)} (ok:yV P w H h) (e:H a=some (.dK kvs)):kvs.length≤sizeLine/\(a==sysModules)=false/\∃vs,KV kvs vs/\h.DictOf (ZV P w) a vs:=zEY ok (.inl e)
theorem zCm {ks:List ze} (ok:yV P w H h) (e:H a=some (.tup (ks.map kV))):(tupleKind (ZV P w)).is h ks a:=by
 obtain ⟨_,its,r,o,h1,h2,n,h3⟩:=(show ZU P w H h a (.tup (ks.map kV)) from ok a _ e);exact ⟨o,its.toArray,n,h1,h2,h3,by simpa using zDh r⟩
theorem zEN {kvs:List (List ze×V)} (ok:yV P w H h) (e:Rd H a (.dT kvs)):kvs.length≤sizeLine/\(a==sysModules)=false/\
  ∃xs,KT H kvs xs/\h.DictOfH (tupleKind (ZV P w)) a xs:=by
 obtain ⟨z,y,xs,r,o,es,ep,h1,h2,h3,h4,h5⟩:=(show ZU P w H h a (.dT kvs) from zMM ok e);refine ⟨z,y,xs,r,o,es,ep,h1,h2,h3,h4,λx hx=>?_,h5⟩;have all:∀{l:List (List ze×V)} {m:List (List ze×Addr×Value)},KT H l m->∀x∈m,(tupleKind (ZV P w)).is h x.1 x.2.1:=by
  intro l m q
  induction q with
  | nil=>intro x hx; exact nomatch hx
  | @cons p q ps qs hq t ih=>
   intro x hx;rcases qG.mp hx with e | hx
   ·subst e
    exact zCm ok (by rw [<-hq.1]; exact hq.2.1)
   ·exact ih x hx
 exact all r x hx
theorem zRC {kvs:List (List ze×V)} (ok:yV P w H h) (e:H a=some (.dT kvs)):kvs.length≤sizeLine/\(a==sysModules)=false/\
  ∃xs,KT H kvs xs/\h.DictOfH (tupleKind (ZV P w)) a xs:=zEN ok (.inl e)
end
def YY (H:Hp) (a:Addr) (y:V) (r:Option V):Prop:=
 (∃kvs k,Rd H a (.dK kvs)/\y=kV k/\r=ZP kvs k)\/∃kvs k b,Rd H a (.dT kvs)/\y= .ref b/\H b=some (.tup (k.map kV))/\r=ZP kvs k
def zBk (H:Hp) (a:Addr) (y v:V) (H':Hp):Prop:=
 (∃kvs k,H a=some (.dK kvs)/\y=kV k/\kvs.length<sizeLine/\H'=upd H a (.dK (Zj kvs k v)))\/
 ∃kvs k b,H a=some (.dT kvs)/\y= .ref b/\H b=some (.tup (k.map kV))/\kvs.length<sizeLine/\H'=upd H a (.dT (Zj kvs k v))
theorem YY.t {H:Hp} {a b:Addr} {kvs:List (List ze×V)} {k:List ze} (e:H a=some (.dT kvs)) (eb:H b=some (.tup (k.map kV))):YY H a (.ref b) (ZP kvs k):= .inr ⟨kvs,k,b, .inl e,rfl,eb,rfl⟩
theorem zBk.t {H:Hp} {a b:Addr} {kvs:List (List ze×V)} {k:List ze} {v:V} (e:H a=some (.dT kvs)) (eb:H b=some (.tup (k.map kV))) (hl:kvs.length<sizeLine):
  zBk H a (.ref b) v (upd H a (.dT (Zj kvs k v))):= .inr ⟨kvs,k,b,e,rfl,eb,hl,rfl⟩
section
variable {X:Cx} {pins:List (Addr×Obj)} {σ:St} {H:Hp} {s:Shared} {a:Addr} {y v:V} {u r:Value} {o:Option V} {A:Around} {E:Value->Shared->Prop}
theorem zN.big (I:zN X pins σ H s):sysModules<s.heap.objs.size:=by
 have h:mainGlobals<s.heap.objs.size:=(I.mod.glob.keeps I.bk).lt;exact Nat.lt_trans (by decide) h
theorem zJt {Q:Value->Shared->Prop} (hu:A.units+1<cLine) (I:zN X pins σ H s) (g:YY H a y (some v)) (ry:zn y u) (h:∀w' s',zN X pins σ H s'->zn v w'->Q w' s'):
  wpAny (model X.prog X.w) A (getItem (.ref a) u) Q E s:=by
 rcases g with ⟨kvs,k,e,ey,l⟩ | ⟨kvs,k,b,e,ey,eb,l⟩
 ·subst ey
  obtain ⟨z,hd,vs,rel,dd⟩:=zEY I.hok e;obtain ⟨w',hw,rw'⟩:=Yn.some_of (v:=v) (o:=valueAt vs k) (by rw [l]; exact rel.val k);exact wpAny_getItem_of (JB ry) dd.mapOf hw (h w' _ (I.tok _) rw')
 ·subst ey
  cases (show u=Value.ref b from ry);obtain ⟨z,hd,xs,rel,dd⟩:=zEN I.hok e;obtain ⟨w',hw,rw'⟩:=Yn.some_of (v:=v) (o:=(atKey xs k).map (·.2)) (by rw [l]; exact rel.val k);obtain ⟨p,hp,hp2⟩:=Option.map_eq_some_iff.mp hw;refine wpAny_getItem_heap (tupleKind_room_in1 hu) (zCm I.hok eb) dd hp ?_;rw [hp2];exact h w' _ (I.tok _) rw'
theorem zNd {Q:Value->Shared->Prop} (hu:A.units+1<cLine) (I:zN X pins σ H s) (g:YY H a y o) (ry:zn y u) (h:∀s',zN X pins σ H s'->Q (.bool (!o.isSome)) s'):
  wpAny (model X.prog X.w) A (compareOp .NotIn u (.ref a)) Q E s:=by
 rcases g with ⟨kvs,k,e,ey,l⟩ | ⟨kvs,k,b,e,ey,eb,l⟩
 ·subst ey
  obtain ⟨z,hd,vs,rel,dd⟩:=zEY I.hok e;refine wpAny_notIn_of (JB ry) hd dd.mapOf ?_;rw [<-(rel.val k).isSome_eq,<-l];exact h _ (I.tok _)
 ·subst ey
  cases (show u=Value.ref b from ry);obtain ⟨z,hd,xs,rel,dd⟩:=zEN I.hok e;refine wpAny_notIn_heap (tupleKind_room_in1 hu) (zCm I.hok eb) hd dd ?_;have q:=(rel.val k).isSome_eq;rw [Option.isSome_map] at q;rw [<-q,<-l];exact h _ (I.tok _)
theorem zDO {h':Heap} {t':Nat} {ob:HO} (I:zN X pins σ H s) (mu:Mut (H a)) (hs:Heap.SameBut a s.heap h') (he:∃q,h'.get? a=some q) (new:ZU X.prog X.w (upd H a ob) h' a ob):
  zN X pins σ (upd H a ob) {s with heap:=h',toks:=t'}:=
 I.write (x:=a) (e:=a) mu (.inl rfl) (λb q hb z=>(hs.2 b hb).trans z) he new
theorem zIz {P:Program} {w:World} {H':Hp} {h':Heap} {kvs:List (ze×V)} {vs:List (ze×Value)} (z:kvs.length≤sizeLine) (hd:(a==sysModules)=false) (rel:KV kvs vs) (dd:h'.DictOf (ZV P w) a vs):
  ZU P w H' h' a (.dK kvs):=⟨z,hd,vs,rel,dd⟩
theorem zJE {H':Hp} {Q:Unit->Shared->Prop} (hu:A.units+1<cLine) (I:zN X pins σ H s) (g:zBk H a y v H') (ry:zn y u) (rv:zn v r) (h:∀s',zN X pins σ H' s'->Q () s'):
  wpAny (model X.prog X.w) A (setItem (.ref a) u r) Q E s:=by
 rcases g with ⟨kvs,k,e,ey,l,eH⟩ | ⟨kvs,k,b,e,ey,eb,l,eH⟩
 ·subst ey eH
  obtain ⟨z,hd,vs,rel,dd⟩:=zLl I.hok e;have hz:vs.length≤sizeLine:=by rw [<-rel.length]; exact z
  have hl:(Zj kvs k v).length≤sizeLine:=by have:=Ju kvs k v; omega
  refine wpAny_setItem_pairs (hsz:=hz) (JB ry) dd λh' dd' hs=>h _ ?_
  have he:∃q,h'.get? a=some q:=let ⟨q,_,_,hq,_⟩:=dd'; ⟨q,hq⟩;exact zDO I (by rw [e]; exact True.intro) hs he (zIz hl hd (rel.put k rv) dd')
 ·subst ey eH
  cases (show u=Value.ref b from ry);obtain ⟨z,hd,xs,rel,dd⟩:=zRC I.hok e;have hz:xs.length≤sizeLine:=by rw [<-Paired.length rel]; exact z
  have hl:(Zj kvs k v).length≤sizeLine:=by have:=Ju kvs k v; omega
  refine wpAny_setItem_heap (hsz:=hz) (tupleKind_room_in1 hu) (zCm I.hok eb) dd λh' dd' hs=>h _ ?_
  obtain ⟨q,es,ep,hq,h2,h3,h4,_,h5⟩:=dd';refine zDO I (by rw [e]; exact True.intro) hs ⟨q,hq⟩ ⟨hl,hd,_,(rel.put k eb rv).keeps λc ys ec=>?_,q,es,ep,hq,h2,h3,h4,h5⟩;rw [zI (Zc ec e (λz=>nomatch z))];exact ec
end
section
variable {X:Cx} {pins:List (Addr×Obj)} {σ:St} {H:Hp} {s:Shared} {a:Addr} {kvs:List (ze×V)} {k:ze} {u:Value} {A:Around} {E:Value->Shared->Prop}
end
def zLk (i:Expr):Prop:=∀ov iv,subscripted i false ov iv=operate [ov,iv] (getItem ov iv)
theorem zGT {prog:Program} {w:World} {A:Around} {E:Value->Shared->Prop} {s:Shared} {env:Env} {value slice:Expr} {pos:Pos} {T id:String} {Q:Value->Shared->Prop}
  (hl:typeLookup (.type T) "__getitem__"=pure (some (.builtin id))) (hs:zLk slice)
  (h:wpAny (model prog w) A (eval value env) (λo s₁=>wpAny (model prog w) A (eval slice env) (λi s₂=>s₂.TypeIs o T/\wpAny (model prog w) A (getItem o i) Q E s₂) E s₁) E s):
  wpAny (model prog w) A (eval (.Subscript value slice pos) env) Q E s:=by
 refine Subscript_ (wpAny_mono h (λo s₁ h₁=>wpAny_mono h₁ (λi s₂ h₂=>?_) λ_ _ x=>x) λ_ _ x=>x);obtain ⟨hT,h₂⟩:=h₂;unfold subscriptTail;refine wpAny_bind ?_;rw [getitemInPython_of_ne hT.not_modules];refine wpAny_bind (wpAny_specialOf hT hl ?_);have fin:wpAny (model prog w) A (subscripted slice false o i) (λr s₃=>wpAny (model prog w) A (letTemporaryGo value o r >>=λ_=>pure r) Q E s₃) E s₂:=by
  rw [hs o i];exact wpAny_operating (wpAny_mono h₂ (λr s₃ h₃=>wpAny_bind (wpAny_letTemporaryGo (wpAny_pure h₃))) λ_ _ x=>x)
 first
  | exact wpAny_pure (wpAny_bind fin)
  | exact wpAny_bind (wpAny_pure (wpAny_bind fin))
  | exact wpAny_bind fin
theorem zGD {X:Cx} {pins:List (Addr×Obj)} {σ:St} {H:Hp} {s:Shared} {a:Addr} {y:V} {o:Option V} (I:zN X pins σ H s) (g:YY H a y o):s.TypeIs (.ref a) "dict":=by
 rcases g with ⟨kvs,k,e,_,_⟩ | ⟨kvs,k,b,e,_,_,_⟩
 ·obtain ⟨_,_,vs,_,dd⟩:=zEY I.hok e
  exact dd.typeIs
 ·obtain ⟨_,_,xs,_,dd⟩:=zEN I.hok e
  exact dd.typeIs
def zQv (td ty:TE):TE:=λσ H Q=>td σ H λx H1=>ty σ H1 λy H2=>∃a v,x= .ref a/\YY H2 a y (some v)/\Q v H2
def zNG (ty td:TE):TE:=λσ H Q=>ty σ H λy H1=>td σ H1 λx H2=>∃a o,x= .ref a/\YY H2 a y o/\Q (.bl (!o.isSome)) H2
def zRO (td ty tv:TE):TS:=λD σ H=>tv σ H λv H1=>td σ H1 λx H2=>ty σ H2 λy H3=>∃a H4,x= .ref a/\zBk H3 a y v H4/\D.nx σ H4
section
variable {X:Cx} {o i e value:Expr} {pos pos' tpos:Pos} {td ty tv:TE}
theorem jd (hu:X.A.units+1<cLine) (ho:PE X o td) (hi:PE X i ty) (hs:zLk i):PE X (.Subscript o i pos) (zQv td ty):=by
 intro pins s σ H Q I h;refine zGT PySem.F.slot_dict_getitem.lookup hs (zj (ho pins s σ H _ I h) λu s1 ⟨x,H1,I1,rx,q1⟩=>zj (hi pins s1 σ H1 _ I1 q1) λiv s2 ⟨y,H2,I2,ry,a,v,ex,g,q2⟩=>?_);subst ex;obtain rfl:u=Value.ref a:=rx;exact ⟨zGD I2 g,zJt hu I2 g ry λw' s3 I3 rw'=>⟨v,H2,I3,rw',q2⟩⟩
theorem Jh (hu:X.A.units+1<cLine) (hi:PE X i ty) (ho:PE X o td):PC X .NotIn i o (zNG ty td):=by
 intro pins s σ H Q I h;refine zj (hi pins s σ H _ I h) λiv s1 ⟨y,H1,I1,ry,q1⟩=>zj (ho pins s1 σ H1 _ I1 q1) λu s2 ⟨x,H2,I2,rx,a,ov,ex,g,q2⟩=>?_
 subst ex;obtain rfl:u=Value.ref a:=rx;exact zNd hu I2 g ry λs3 I3=>⟨.bl (!ov.isSome),H2,I3,rfl,q2⟩
theorem zBQ (hu:X.A.units+1<cLine) (ho:PE X o td) (hi:PE X i ty) (hv:PE X value tv) (hs:swapsWith value (some (.Subscript o i pos')) pos.line X.env=pure false):
  PS X (.Assign [.Subscript o i pos'] value pos) (zRO td ty tv):=by
 intro pins s σ H D I h;refine wpAny_Assign_Subscript (zj (hv pins s σ H _ I h) λr s1 ⟨v,H1,I1,rv,q1⟩=>zj (ho pins s1 σ H1 _ I1 q1) λu s2 ⟨x,H2,I2,rx,q2⟩=>zj (hi pins s2 σ H2 _ I2 q2) λiv s3 ⟨y,H3,I3,ry,a,H4,ex,g,q3⟩=>?_) hs;subst ex;obtain rfl:u=Value.ref a:=rx;exact zJE hu I3 g ry rv λs4 I4=>⟨σ,H4,I4,q3⟩
end
theorem zFe {P:Program} {w:World} {H:Hp} (h:Heap) (hb:sysModules<h.objs.size):ZU P w H (h.push {cls:= .type "dict",data:= .dict #[]}) h.objs.size (.dK []):=
 ⟨QG _,beq_eq_false_iff_ne.mpr (Ne.symm (qT hb)),[], .nil,Heap.DictOf.new h⟩
theorem zKN {P:Program} {w:World} {H:Hp} (h:Heap) (hb:sysModules<h.objs.size):ZU P w H (h.push {cls:= .type "dict",data:= .dict #[]}) h.objs.size (.dT []):=
 ⟨QG _,beq_eq_false_iff_ne.mpr (Ne.symm (qT hb)),[], .nil,_,#[],0,Heap.get?_push_size _ rfl,⟨rfl,rfl,rfl⟩,rfl,rfl,XE⟩
def zOF:TE:=λ_ H Q=>∀p,H p=none->Q (.ref p) (upd H p (.dK []))
def zNz:TE:=λ_ H Q=>∀p,H p=none->Q (.ref p) (upd H p (.dT []))
section
variable {X:Cx} {pos:Pos}
theorem zEf:PE X (.Dict [] [] pos) zOF:=λpins s σ H Q I h=>
 wpAny_Dict_empty ⟨.ref s.heap.objs.size,_,I.laid (a:=s.heap.objs.size) (o:= .dK []) (t':=s.toks) (λ_ _ q=>Heap.get?_push_of_some _ q) (qE _) (zFe s.heap I.big),rfl,h _ (I.hok.fresh (qE _))⟩
theorem zCI:PE X (.Dict [] [] pos) zNz:=λpins s σ H Q I h=>
 wpAny_Dict_empty ⟨.ref s.heap.objs.size,_,I.laid (a:=s.heap.objs.size) (o:= .dT []) (t':=s.toks) (λ_ _ q=>Heap.get?_push_of_some _ q) (qE _) (zKN s.heap I.big),rfl,h _ (I.hok.fresh (qE _))⟩
end
def zFP:List (TE×TE)->St->Hp->(List (V×V)->Hp->Prop)->Prop
 | [],_,H,Q=>Q [] H
 | (tk,tv)::r,σ,H,Q=>tk σ H λx H1=>tv σ H1 λy H2=>zFP r σ H2 λps H3=>Q ((x,y)::ps) H3
abbrev VV:List (V×V)->List (Value×Value)->Prop:=Paired λp q=>zn p.1 q.1/\zn p.2 q.2
def PPs (X:Cx) (pos:Pos) (keys:List (Option Expr)) (values:List Expr) (trs:List (TE×TE)):Prop:=
 ∀(pins:List (Addr×Obj)) (s:Shared) (σ:St) (H:Hp) (Q:List (V×V)->Hp->Prop),zN X pins σ H s->zFP trs σ H Q->
  wpAny (model X.prog X.w) X.A (evalPairs (pairTrees keys values X.env pos)) (λvs s'=>∃ps H',zN X pins σ H' s'/\VV ps vs/\Q ps H') X.xe s
theorem zMz {X:Cx} {pos:Pos}:PPs X pos [] [] []:=λpins s σ H Q I h=>pairTrees_nil_walk ⟨[],H,I, .nil,h⟩
theorem zBp {X:Cx} {pos:Pos} {k v:Expr} {ks:List (Option Expr)} {vs:List Expr} {tk tv:TE} {trs:List (TE×TE)} (hk:PE X k tk) (hv:PE X v tv) (hr:PPs X pos ks vs trs):
  PPs X pos (some k::ks) (v::vs) ((tk,tv)::trs):=λpins s σ H Q I h=>
 pairTrees_cons_walk (zj (hk pins s σ H _ I h) λu s1 ⟨x,H1,I1,rx,q1⟩=>zj (hv pins s1 σ H1 _ I1 q1) λw2 s2 ⟨y,H2,I2,ry,q2⟩=>
  zj (hr pins s2 σ H2 _ I2 q2) λws s3 ⟨ps,H3,I3,rel,q3⟩=>⟨(x,y)::ps,H3,I3, .cons ⟨rx,ry⟩ rel,q3⟩)
def J4 (kvs more:List (ze×V)):List (ze×V):=more.foldl (λacc kv=>Zj acc kv.1 kv.2) kvs
theorem KV.merge:∀{more:List (ze×V)} {rs:List (ze×Value)} {kvs:List (ze×V)} {vs:List (ze×Value)},KV more rs->KV kvs vs->KV (J4 kvs more) (merged vs rs):=by
 intro more rs kvs vs r;unfold KV at r
 induction r generalizing kvs vs with
 | nil=>intro q; exact q
 | @cons p q ps qs h t ih=>
  intro r0;have e:KV (Zj kvs p.1 p.2) (stored vs q.1 q.2):=by
   have:=r0.put p.1 h.2;rw [<-h.1]; exact this
  exact ih e
theorem zAg:∀(more kvs:List (ze×V)),(J4 kvs more).length≤kvs.length+more.length
 | [],kvs=>by show kvs.length≤kvs.length+0; omega
 | p::r,kvs=>by
  have h1:=zAg r (Zj kvs p.1 p.2);have h2:=Ju kvs p.1 p.2;show (J4 (Zj kvs p.1 p.2) r).length≤_;rw [qL]; omega
theorem zCR {P:Program} {w:World}:∀{kvs:List (ze×V)} {ws:List (Value×Value)},VV (kvs.map λkv=>(kV kv.1,kv.2)) ws->∃rs,Carries (ZV P w) ws rs/\KV kvs rs
 | [],_,r=>by rw [List.map_nil] at r; cases r; exact ⟨[],True.intro, .nil⟩
 | p::kvs,_,r=>by
  rw [qQ] at r;cases r with
  | @cons a b as bs h t=>
   obtain ⟨rs,c,q⟩:=zCR (P:=P) (w:=w) t;obtain ⟨b1,b2⟩:=b;exact ⟨(p.1,b2)::rs,⟨JB h.1,rfl,c⟩, .cons ⟨rfl,h.2⟩ q⟩
def zRb (trs:List (TE×TE)):TE:=λσ H Q=>∀p,H p=none->zFP trs σ (upd H p (.dK [])) λps H2=>H2 p=some (.dK [])/\∃kvs:List (ze×V),ps=kvs.map (λkv=>(kV kv.1,kv.2))/\kvs.length≤15/\Q (.ref p) (upd H2 p (.dK (J4 [] kvs)))
theorem zNN {X:Cx} {pos:Pos} {keys:List (Option Expr)} {values:List Expr} {trs:List (TE×TE)} (h:PPs X pos keys values trs) (hall:keys.all (·.isSome)=true) (hl:keys.length=values.length) (h0:keys≠[])
  (h15:keys.length≤15):PE X (.Dict keys values pos) (zRb trs):=by
 intro pins s σ H Q I q;have hn:=I.hok.fresh (qE s.heap.objs.size);have I1:=I.laid (a:=s.heap.objs.size) (o:= .dK []) (h':=s.heap.push {cls:= .type "dict",data:= .dict #[]}) (t':=s.toks) (λ_ _ q=>Heap.get?_push_of_some _ q) (qE _) (zFe s.heap I.big);refine wpAny_Dict_walk (knd:=ZV X.prog X.w) hall hl h0 h15 (zj (h pins _ σ _ _ I1 (q _ hn)) λws s2 ⟨ps,H2,I2,rel,e,kvs,ep,lk,q2⟩=>?_);subst ep;obtain ⟨rs,c,rk⟩:=zCR (P:=X.prog) (w:=X.w) rel;obtain ⟨z,hd,vs0,r0,dd⟩:=zLl I2.hok e;cases r0;refine ⟨rs,c,dd,λh' dd' hs=>⟨.ref s.heap.objs.size,_,?_,rfl,q2⟩⟩;have hz:(J4 [] kvs).length≤sizeLine:=by
  have h1:=zAg kvs [];rw [List.length_nil] at h1;rw [sizeLine_eq]; omega
 have he:∃q,h'.get? s.heap.objs.size=some q:=let ⟨q,_,_,hq,_⟩:=dd'; ⟨q,hq⟩;exact zDO I2 (by rw [e]; exact True.intro) hs he (zIz hz hd (rk.merge .nil) dd')
structure M1 (X:Cx) (o:Expr) (m:Str) (apos:Pos) (e:Expr) (cpos:Pos):Prop where
 base:attributeBase o m X.env (eval o X.env)=eval o X.env
 few:((backTo cpos (starEach [e] X.env)).all (λx=> !x.1)&&(backToKw cpos (keywordEach [] X.env)).all (λx=>x.1.isSome)
  &&decide (([e]:List Expr).length+([]:List Keyword).length+(if ([]:List Keyword).isEmpty then 0 else 1)<30))=true
 line:(apos.endLine==cpos.line)=true
 trees:backTo cpos (starEach [e] X.env)=[(false,eval e X.env)]
section
variable {X:Cx} {pins:List (Addr×Obj)} {σ:St} {H:Hp} {s:Shared} {a:Addr} {y d:V} {u r:Value} {o:Option V} {A:Around} {E:Value->Shared->Prop}
end
section
variable {X:Cx} {o e f:Expr} {apos cpos:Pos} {td ty tx:TE}
end
section
variable {X:Cx} {pins:List (Addr×Obj)} {σ:St} {H:Hp} {s:Shared} {a:Addr} {kvs:List (ze×V)} {A:Around} {E:Value->Shared->Prop}
end
section
variable {X:Cx} {pins:List (Addr×Obj)} {σ:St} {H:Hp} {s:Shared} {a:Addr} {y:V} {u:Value} {A:Around} {E:Value->Shared->Prop}
end
end L2
namespace Att
open PySem PySem.W PySem.Calls PyProof.Rows
theorem zCn {P:Params} {h:Heap}:∀(ns:List Int) (vs:List Value),WellAll P h vs (ns.map WData.int)->IntsAre vs ns:=by
 intro ns
 induction ns with
 | nil=>
  intro vs w;rw [List.map_nil] at w;cases w;exact .nil
 | cons n ns ih=>
  intro vs w;rw [qQ] at w;cases w with
  | cons a b=>
   cases a;exact .cons _ _ (ih _ b)
theorem zIJ {l:OpenLaw} {n:Nat} (hn:l.most=some n) {P:Params} {h:Heap} {args:List WData} {vals:List Value}
  (hpre:l.row.toRowW.claim.pre args=true) (hwl:WellAll P h vals args):
  ∃a vs ns,vals=[Value.ref a]/\args=[WData.list (ns.map WData.int)]/\h.get? a=some {cls:= .type "list",data:= .seq vs.toArray}/\IntsAre vs ns/\ns.length≤n:=by
 have hsh:WShape.hasAll [] args [.list .int]=true:=(pre_splitW hpre).1;have hc:l.pre.holds [] {args:=args}=true:=(pre_splitW hpre).2;obtain ⟨d,r,rfl,h1,h2⟩:=hasAllW_cons hsh;obtain rfl:=hasAllW_nil h2;obtain ⟨xs,rfl,h3⟩:=hasW_list h1;obtain ⟨ns,rfl⟩:=items_int h3;have hlen:ns.length≤n:=by
  unfold OpenLaw.pre at hc;have h4:(WTm.not (.lt (.lit (.int (n:Int))) (.len (.arg 0)))).holds [] {args:=[.list (ns.map .int)]}=true:=by
   have h4:=(holds_andW hc).1;rw [hn] at h4;exact h4
  have h5:=condW_of h4 (w_not (w_lt w_lit (w_len_list (w_arg rfl))));rw [qA] at h5;refine Nat.le_of_not_lt λq=>?_
  have q':(n:Int)<((ns.length:Nat):Int):=by omega
  first
   | (rw [decide_eq_true q'] at h5; exact absurd h5 (by decide))
   | (simp at h5; omega)
 cases hwl with
 | cons w1 w2=>
  cases w2;cases w1 with
  | list ho hall=>exact ⟨_,_,ns,rfl,rfl,ho,zCn ns _ hall,hlen⟩
theorem zIK (l:OpenLaw) (args:List WData):l.row.toRowW.claim.post args (.bool true) args=true:=
 postW_of (r:=l.row.toRowW) (X:=(true==true))
  (show WShape.has [] (.bool true) .bool=true by first | rfl | decide | simp [WShape.has,WShape.arms,WShape.armsAll])
  (show (WTm.eq .res (.lit (.bool true))).value [] {args:=args,res:=some (.bool true),after:=args}=some (.bool (true==true)) from w_eq_bool (w_res rfl) w_lit) rfl
theorem zGC {l:OpenLaw} {n:Nat} {q:Program} {loose:List Str} {XP:(Str->Option Value)->Heap->Prop} {YP:World->Heap->Prop} {d:DefRec}
  (hn:l.most=some n) (hdf:d.params.defaults=[])
  (call:∀(w:World) (s₀ s₁:Shared) (mg mb:Str->Option Value) (fa:Addr) (o:Obj) (pm cd doc:Value) (a:Addr) (vs:List Value) (ns:List Int),
   Ground q loose [] XP w s₀ mg mb s₁.heap->YP w s₁.heap->
   s₁.heap.get? fa=some o->o.data= .func (docDef d.name d.params d.body d.scope pm cd doc)->s₁.heap.CodeRec cd d.name->mg d.name=some (.ref fa)->
   s₁.heap.get? a=some {cls:= .type "list",data:= .seq vs.toArray}->IntsAre vs ns->ns.length≤n->s₁.gens=#[]->
   codeAny (model l.prog w) callerA (.call (.ref fa) ⟨[.ref a],[]⟩) (λr s'=>r= .ok (.ret (.bool true))/\OldK s₁.heap s'.heap/\s'.os=s₁.os/\AllBare s'.gens) s₁):
  WalkO q loose XP YP l.row.toRowW d [] (λf vs=>PySem.call f vs):=by
 intro w s₀ s₁ mg mb G Y fa o pm cd doc dV kV ho hd hcd hD hmg hg args vals as hpre hlay hrd hwl hlo;obtain rfl:dV= .none:=Dflts.none hD hdf;obtain rfl:kV= .none:=Dflts.noKw hD;obtain ⟨a,vs,ns,rfl,rfl,hobj,hints,hlen⟩:=zIJ hn hpre hwl;refine enter_call (codeAny_mono (call w s₀ s₁ mg mb fa o pm cd doc a vs ns G Y ho (fd_plain hd) hcd hmg hobj hints hlen hg) λr s' hq=>?_);obtain ⟨rfl,h2,h3,h4⟩:=hq;exact ⟨.inl ⟨.bool true, .bool true,[],rfl,λ_=>rfl, .bool true,zIK l _,λ_=>⟨List.Pairwise.nil,λ_ hm=>(nomatch hm)⟩⟩,h2,h3,h4⟩
section
variable {prog:Program} {w:World} {A:Around} {E:Value->Shared->Prop} {s:Shared} {K:Frag}
end
end Att
namespace L2
open PySem PySem.Spec PyProof.Rows
theorem zDk:∀{vs:List Value} {ns:List Int},IntsAre vs ns->zi (ns.map V.int) vs
 | _,_, .nil=> .nil
 | _,_, .cons n t h=> .cons ⟨t,rfl⟩ (zDk h)
def zLS (H:Hp):Prop:=∀b,H b=none\/∃o xs,H b=some (.frz o (.lst xs))
theorem zLL {P:Program} {w:World} {K:PySem.W.Frag} {mg mb:Str->Option Value} {CX:jJ} {k:Nat} {fa a:Addr} {fd:FuncData} {x:Str} {sp:Sp} {s₁:Shared} {vs:List Value} {ns:List Int}
  (KX:K.In s₁.heap) (hns:s₁.heap.Ns mainGlobals mg) (hb:s₁.heap.Ns builtinsNs mb) (hbb:∀x:Str,x≠"__name__"->mb x=bootBuiltins x) (hlim:s₁.heap.NoLimit) (hg:s₁.gens=#[])
  (ha:s₁.heap.get? a=some {cls:= .type "list",data:= .seq vs.toArray}) (hi:IntsAre vs ns) (hl:ns.length≤sizeLine) (hr:Zz k callerA)
  (F:∀base:Heap,K.In base->base.Ns mainGlobals mg->zH P w K mg base CX k fa fd [x] sp) (hbind:∀(s:Shared) (u:Value),BindsTo s fd ⟨[u],[]⟩ [(x,u)])
  (hsp:∀H:Hp,zLS H->zQ K H a (ns.map V.int)->sp [.ref a] H (λv _=>v= .bl true) λ_ _ _=>False)
  (hCX:∀H e s',CX [] H s₁ (λ_ _ _=>False) e s'->False):
  codeAny (model P w) callerA (.call (.ref fa) ⟨[.ref a],[]⟩) (λr s'=>r= .ok (.ret (.bool true))/\OldK s₁.heap s'.heap/\s'.os=s₁.os/\AllBare s'.gens) s₁:=by
 have rv:=zDk hi;have lenV:=hi.length;have core:∀H:Hp,zLS H->zQ K H a (ns.map V.int)->yV P w H s₁.heap->(∀b,H b≠none->b=a)->(H a≠none->K.lookup a=none)->
   codeAny (model P w) callerA (.call (.ref fa) ⟨[.ref a],[]⟩) (λr s'=>r= .ok (.ret (.bool true))/\OldK s₁.heap s'.heap/\s'.os=s₁.os/\AllBare s'.gens) s₁:=by
  intro H hO hS hok hA hK;have base_of:∀{b:Addr} {o:Obj},s₁.heap.get? b=some o->H b=none->(zAF s₁.heap H).get? b=some o:=λe n=>zLO e n
  have noA:∀{b:Addr} {o:Obj} {es:Array DictEntry} {ep:Nat},s₁.heap.get? b=some o->o.data= .dict es ep->H b=none:=λ{b o es ep} e d=>by
   cases q:H b with
   | none=>rfl
   | some u=>
    have e':b=a:=hA b (by rw [q]; simp);subst e';rw [ha] at e; cases e;have d':Data.seq vs.toArray _=Data.dict es ep:=d;cases d'
  have nsK:∀{b:Addr} {m:Str->Option Value},s₁.heap.Ns b m->(zAF s₁.heap H).Ns b m:=λ{b m} ⟨o,es,ep,e,d,r⟩=>⟨o,es,ep,base_of e (noA e d),d,r⟩
  have hKb:K.In (zAF s₁.heap H):=λb o e=>base_of (KX b o e) (by
   cases q:H b with
   | none=>rfl
   | some u=>
    have e':b=a:=hA b (by rw [q]; simp);subst e';rw [hK (by rw [q]; simp)] at e; cases e)
  have hM:Mod K mg (zAF s₁.heap H):=⟨hKb,nsK hns,⟨mb,nsK hb,hbb⟩,let ⟨mc,h1,h2⟩:=hlim; ⟨mc,nsK h1,h2⟩⟩;have e0:zBc P w K mg (zAF s₁.heap H) callerA [] s₁ H:=⟨rfl,hM,λb o e=>zNW e,Nat.le_of_eq (zIY _ _),trivial,λb hb=>absurd (show b∈([]:List Addr) from hb) (by simp),hok, .of_eq hg⟩;refine codeAny_mono ((F _ hKb (nsK hns)).run callerA [] s₁ H ⟨[.ref a],[]⟩ [.ref a] [.ref a] _ _ hr e0 (hbind s₁ (.ref a)) (.cons rfl .nil) (hsp H hO hS)) λr s' h=>?_
  cases r with
  | error e=>exact (hCX H e s' h).elim
  | ok fl=>
   cases fl with
   | next=>exact False.elim h
   | brk=>exact False.elim h
   | cont=>exact False.elim h
   | ret u=>
    obtain ⟨v,H',os,bare,un,hok',r',q⟩:=h;have q':v= .bl true:=q;subst q';obtain rfl:u=Value.bool true:=r';refine ⟨rfl,OldK.of_keep λb o e=>?_,os,bare⟩;cases q:H b with
    | none=>exact un.keep b o e q (by intro z; exact absurd (show b∈([]:List Addr) from z) (by simp)) (by simp)
    | some u=>
     rcases hO b with z | ⟨ob,xs,z⟩
     ·rw [q] at z; cases z
     ·have z2:=un.frzs b ob _ z
      obtain ⟨e1,_⟩:=hok b _ z;obtain ⟨e2,_⟩:=hok' b _ z2;rw [e] at e1; cases e1;exact e2
 cases hk:K.lookup a with
 | some o=>
  have e:=KX a o hk;rw [ha] at e;cases e;refine core (λ_=>none) (λ_=> .inl rfl) (.inr ⟨_,vs.toArray,_,hk,rfl,rfl,rfl,by rw [qV,lenV]; exact hl,by simpa using rv⟩) (λb u z=>by have z':(none:Option HO)=some u:=z; cases z') (λb z=>absurd rfl z) λz=>absurd rfl z
 | none=>
  refine core (λb=>if b=a then some (.frz {cls:= .type "list",data:= .seq vs.toArray} (.lst (ns.map V.int))) else none) (λb=>?_) (.inl (.inr ⟨{cls:= .type "list",data:= .seq vs.toArray},if_pos rfl⟩)) (λb u z=>?_) (λb z=>?_) λ_=>hk
  ·by_cases hb:b=a
   ·exact .inr ⟨_,_,if_pos hb⟩
   ·exact .inl (if_neg hb)
  ·by_cases hb:b=a
   ·have z':=(if_pos hb).symm.trans z
    cases z';subst hb;exact ⟨ha,by rw [qA]; exact hl,vs,_,rv,ha⟩
   ·have z':=(if_neg hb).symm.trans z
    cases z'
  ·by_cases hb:b=a
   ·exact hb
   ·exact absurd (if_neg hb) z
end L2
namespace L2
open PySem PySem.Spec PyProof.Rows
theorem zNw {l:PySem.W.OpenLaw} {n k:Nat} {q:Program} {loose:List Str} {XP:(Str->Option Value)->Heap->Prop} {YP:World->Heap->Prop} {d:DefRec} {K:Params->PySem.W.Frag} {CX:World->jJ} {sp:World->Sp} {x:Str}
  (hn:l.most=some n) (hn2:n≤sizeLine) (hdf:d.params.defaults=[]) (hr:Zz k callerA)
  (hY:∀(w:World) (h:Heap),YP w h->(K w.params).In h)
  (F:∀(w:World) (mg:Str->Option Value) (fa:Addr) (h:Heap),(K w.params).In h->h.Ns mainGlobals mg->mg d.name=some (.ref fa)->
   ∃fd:FuncData,(∀(s:Shared) (u:Value),BindsTo s fd ⟨[u],[]⟩ [(x,u)])/\
    ∀base:Heap,(K w.params).In base->base.Ns mainGlobals mg->zH l.prog w (K w.params) mg base (CX w) k fa fd [x] (sp w))
  (hsp:∀(w:World) (H:Hp) (a:Addr) (ns:List Int),ns.length≤n->zLS H->zQ (K w.params) H a (ns.map V.int)->sp w [.ref a] H (λv _=>v= .bl true) λ_ _ _=>False)
  (hCX:∀(w:World) (H:Hp) (s:Shared) (e:Value) (s':Shared),CX w [] H s (λ_ _ _=>False) e s'->False):
  PySem.W.WalkO q loose XP YP l.row.toRowW d [] (λf vs=>PySem.call f vs):=by
 refine Att.zGC hn hdf λw s₀ s₁ mg mb fa o pm cd doc a vs ns G Y ho hd hcd hmg hobj hints hlen hg=>?_
 have KX:=hY w _ Y;obtain ⟨fd,hb,hF⟩:=F w mg fa _ KX G.T.g hmg;exact zLL KX G.T.g G.T.b G.T.builtins G.T.nolimit hg hobj hints (qK hlen hn2) hr hF hb (λH hO hS=>hsp w H a ns hlen hO hS) λH e s'=>hCX w H s₁ e s'
end L2
namespace L2
open PySem PySem.Spec PyProof.Rows
def ZJ (s:Stmt) (j:Nat):Stmt:=match s with
 | .ClassDef _ _ _ body _ _ _ _ _ _ _=>body.getD j (.Pass ⟨0,0,0,0⟩)
 | _=> .Pass ⟨0,0,0,0⟩
def yC (s:Stmt):Arguments:=match s with
 | .FunctionDef _ a _ _ _ _ _ _ _ _=>a
 | _=>{posonlyargs:=[],args:=[],vararg:=none,kwonlyargs:=[],kw_defaults:=[],kwarg:=none,defaults:=[]}
def Zx (s:Stmt):List Stmt:=match s with
 | .FunctionDef _ _ b _ _ _ _ _ _ _=>b
 | _=>[]
def zF (s:Stmt):Scope:=match s with
 | .FunctionDef _ _ _ _ _ _ sc _ _ _=>sc
 | _=>{kind:= .function,names:=[],isGenerator:=false,isCoroutine:=false}
abbrev zT:jJ:=λ_ _ _ _ _ _=>False
abbrev E0:XK:=λ_ _ _=>False
theorem zO {X:Cx}:YF zT X E0:=λ_ _ _ _ _ _ _ h=>h.elim
structure zm (K:PySem.W.Frag) (x qual:Str) (st:Stmt) (f:Addr) (fd:FuncData):Prop where
 ex:∃(oc:Value) (od:Option Addr) (kV doc pm:Value) (an:Option Addr) (cdv ct:Value) (osl:Array (Option Value)),
  fd=PySem.W.fnOf x qual (yC st) (Zx st) (zF st) .none kV doc pm an cdv ct/\K.lookup f=some ⟨oc,od, .func fd,osl⟩/\PySem.W.codeIn K cdv qual=true
 kp:PySem.W.keepIn K (.ref f)=true
section
variable {P:Program} {w:World} {K:PySem.W.Frag} {mg:Str->Option Value} {base:Heap}
theorem zm.ok {x qual:Str} {st:Stmt} {f:Addr} {fd:FuncData} {N ps:List Str} {k:Nat} {sp:Sp} (F:zm K x qual st f fd) (S:zP N ps (zF st)) (len:∀vs H Q E,sp vs H Q E->vs.length=ps.length)
  (hbody:∀(cdv:Value) (A:Around) (outer:List Env) (s:Shared) (H:Hp) (vs:List V) (Q:VK) (E:XK),Zz k (A.deeper (envOfC qual (zF st) s.heap.objs.size f cdv))->sp vs H Q E->
   ∃t,Yl (zAX zT P w K mg base N qual (zF st) f cdv A outer s H E).nox (Zx st) t/\t {nx:=λ_ H'=>Q .non H',rt:=Q} (j5 N vs) H):zH P w K mg base zT (k+1) f fd ps sp:=by
 obtain ⟨oc,od,kV,doc,pm,an,cdv,ct,osl,rfl,lk,hcd⟩:=F.ex;refine zLo lk hcd S len λA outer s H vs Q E hr hsp=>?_
 obtain ⟨t,h,q⟩:=hbody cdv A outer s H vs Q E hr hsp;exact ⟨t,h.nox,q⟩
theorem zm.binds {x qual:Str} {st:Stmt} {f:Addr} {fd:FuncData} {ps:List Str} (F:zm K x qual st f fd)
  (h:∀(kV doc pm:Value) (an:Option Addr) (cdv ct:Value) (us:List Value),us.length=ps.length->bindArgs (PySem.W.fnOf x qual (yC st) (Zx st) (zF st) .none kV doc pm an cdv ct) ⟨us,[]⟩=pure (ps.zip us)):zL K fd ps []:=by
 obtain ⟨oc,od,kV,doc,pm,an,cdv,ct,osl,rfl,lk,hcd⟩:=F.ex;exact .all (h kV doc pm an cdv ct)
theorem zJI {x qual:Str} {st:Stmt} {f:Addr} {oc:Value} {od an:Option Addr} {osl:Array (Option Value)} {kV doc pm cdv ct:Value} (l:K.lookup f=some ⟨oc,od, .func (PySem.W.fnOf x qual (yC st) (Zx st) (zF st) .none kV doc pm an cdv ct),osl⟩)
  (c:PySem.W.codeIn K cdv qual=true) (k:PySem.W.keepIn K (.ref f)=true):zm K x qual st f (PySem.W.fnOf x qual (yC st) (Zx st) (zF st) .none kV doc pm an cdv ct):=⟨⟨oc,od,kV,doc,pm,an,cdv,ct,osl,rfl,l,c⟩,k⟩
end
theorem zAZ {A:Around} {k:Nat} (hr:Zz k A):A.units+1<cLine:=Nat.lt_of_le_of_lt (Nat.add_le_add_left (by decide:1≤64) _) hr.units
theorem ZW {n:Nat} (h:n≤1000):n<sizeLine:=Nat.lt_of_le_of_lt h (by decide)
section
variable {X:Cx}
theorem pv (i:Nat) {x:Str} {pos:Pos} (hN:X.N[i]?=some x:=by rfl) (hv:Vis X.env.scope x:=by first | exact Or.inl rfl | exact Or.inr (Or.inl rfl) | exact Or.inr (Or.inr rfl)) (hd:(x==("__debug__":Str))=false:=by decide)
  (hcd:(x==("__classdict__":Str))=false:=by decide):PE X (.Name x pos) (zCE i):=zOe hN hv hd hcd
end
theorem yF {A B:Prop} (h:B):if false=true then A else B:=by
 rw [if_neg qN];exact h
theorem yA {A B:Prop} (h:A):if true=true then A else B:=by
 rw [if_pos rfl];exact h
theorem zq {c A B:Prop} [Decidable c] (h1:c->A) (h2:¬c->B):if c then A else B:=by
 by_cases h:c
 ·rw [if_pos h]
  exact h1 h
 ·rw [if_neg h]
  exact h2 h
def zC (H H':Hp):Prop:=∀b o,H b=some o->H' b=some o
theorem zC.trans {H H1 H2:Hp} (a:zC H H1) (b:zC H1 H2):zC H H2:=λc o h=>b c o (a c o h)
theorem zC.seq {K:PySem.W.Frag} {H H':Hp} {a:Addr} {xs:List V} (e:zC H H') (h:zQ K H a xs):zQ K H' a xs:=by
 rcases h with (h | ⟨o,h⟩) | h
 ·exact .inl (.inl (e _ _ h))
 ·exact .inl (.inr ⟨o,e _ _ h⟩)
 ·exact .inr h
section
variable {κ:Type} [DecidableEq κ]
end
end L2
set_option maxHeartbeats 4000000
namespace L2
open PySem PySem.Spec PyProof.Rows
def YI (cells:List (Str×Addr)):List (Str×NameKind)->List (Str×Addr)->List (Str×Addr)
 | [],cs=>cs
 | (n,k)::r,cs=>if (k==NameKind.free)=true then YI cells r ((n,(cells.lookup n).getD 0)::cs) else YI cells r cs
theorem zAw {cells:List (Str×Addr)}:∀{names:List (Str×NameKind)} {cs:List (Str×Addr)},(∀x∈names,x.2= .free->∃c,cells.lookup x.1=some c)->(∀p∈cs,cells.lookup p.1=some p.2)->
  ∀p∈YI cells names cs,cells.lookup p.1=some p.2
 | [],_,_,h,p,hp=>h p hp
 | (n,k)::r,cs,hn,h,p,hp=>by
  unfold YI at hp;have hr:∀x∈r,x.2= .free->∃c,cells.lookup x.1=some c:=λx hx=>hn x (qF _ hx)
  by_cases hk:(k==NameKind.free)=true
  ·rw [if_pos hk] at hp
   refine zAw hr (λq hq=>?_) p hp;rcases qG.mp hq with e | hq
   ·obtain ⟨c,hc⟩:=hn (n,k) qD (by simpa using hk)
    have hc':cells.lookup n=some c:=hc;subst e;show cells.lookup n=some ((cells.lookup n).getD 0);rw [hc']; rfl
   ·exact h q hq
  ·rw [if_neg hk] at hp
   exact zAw hr h p hp
theorem Jo {cells:List (Str×Addr)} {p:Str×Addr}:∀{names:List (Str×NameKind)} {cs:List (Str×Addr)},p∈cs->p∈YI cells names cs
 | [],_,h=>h
 | (n,k)::r,cs,h=>by
  unfold YI
  split
  ·exact Jo (qF _ h)
  ·exact Jo h
theorem Ji {cells:List (Str×Addr)} {x:Str}:∀{names:List (Str×NameKind)} {cs:List (Str×Addr)},(x,NameKind.free)∈names->∃c,(x,c)∈YI cells names cs
 | [],_,h=>nomatch h
 | (n,k)::r,cs,h=>by
  unfold YI;rcases qG.mp h with e | h
  ·cases e
   rw [if_pos (show (NameKind.free==NameKind.free)=true from rfl)];exact ⟨_,Jo qD⟩
  ·split
   ·exact Ji h
   ·exact Ji h
theorem j4 {α β:Type} [BEq α] [LawfulBEq α] {x:α} {c:β}:∀{l:List (α×β)},(x,c)∈l->∃d,l.lookup x=some d
 | [],h=>nomatch h
 | (y,d)::r,h=>by
  rw [XV];cases e:x==y with
  | true=>exact ⟨d,rfl⟩
  | false=>
   rcases qG.mp h with z | h
   ·cases z; rw [beq_self_eq_true] at e; cases e
   ·exact j4 h
theorem zBf {scope:Scope} {env:Env} (h:∀x∈scope.names,x.2= .free->∃c,env.cells.lookup x.1=some c):closureFor scope env=pure (YI env.cells scope.names []):=by
 have key:∀(names:List (Str×NameKind)) (cs:List (Str×Addr)),(∀x∈names,x.2= .free->∃c,env.cells.lookup x.1=some c)->
   (forIn names cs λx r=>if (x.2==NameKind.free)=true then (do let c <-cellOf env x.1; pure (ForInStep.yield ((x.1,c)::r))) else pure (ForInStep.yield r):Sem (List (Str×Addr)))=pure (YI env.cells names cs):=by
  intro names
  induction names with
  | nil=>intro cs _; rfl
  | cons x r ih=>
   intro cs hn;obtain ⟨n,k⟩:=x;rw [List.forIn_cons];unfold YI;have hr:∀x∈r,x.2= .free->∃c,env.cells.lookup x.1=some c:=λx hx=>hn x (qF _ hx)
   by_cases hk:(k==NameKind.free)=true
   ·obtain ⟨c,hc⟩:=hn (n,k) qD (by simpa using hk)
    have hc':env.cells.lookup n=some c:=hc;have e:cellOf env n=pure c:=by unfold cellOf; rw [hc']
    dsimp only;rw [if_pos hk,if_pos hk,e,pure_bind,pure_bind,hc'];exact ih _ hr
   ·dsimp only
    rw [if_neg hk,if_neg hk,pure_bind];exact ih _ hr
 have e:=key scope.names [] h;simp only [closureFor,bind_pure];exact e
theorem Yf {env:Env} {x:Str}:∀(names:List (Str×NameKind)),
  (names.map λ(n,k)=>if (k==NameKind.free&&env.scope.kind== .function&&env.kindOf n==some .cell) then (n,NameKind.cell) else (n,k)).lookup x=
   (names.lookup x).map λk=>if (k==NameKind.free&&env.scope.kind== .function&&env.kindOf x==some .cell) then NameKind.cell else k
 | []=>rfl
 | (n,k)::r=>by
  have ih:=Yf (env:=env) (x:=x) r;show List.lookup x ((if (k==NameKind.free&&env.scope.kind== .function&&env.kindOf n==some .cell)=true then (n,NameKind.cell) else (n,k))::_)=_;cases hx:x==n with
  | true=>
   have e:x=n:=eq_of_beq hx;subst e;by_cases hc:(k==NameKind.free&&env.scope.kind== .function&&env.kindOf x==some .cell)=true
   ·rw [if_pos hc]; simp only [XV,hx,XF,hc,if_true]
   ·rw [if_neg hc]; simp only [XV,hx,XF,hc]; rfl
  | false=>
   by_cases hc:(k==NameKind.free&&env.scope.kind== .function&&env.kindOf n==some .cell)=true
   ·rw [if_pos hc]; simp only [XV,hx]; exact ih
   ·rw [if_neg hc]; simp only [XV,hx]; exact ih
def hid (xs:List Str) (y:Str):Str:=if xs.contains y then y++("#":Str) else y
def Zo (xs N:List Str):List Str:=xs++N.map (hid xs)
structure Z1 (X:Cx) (xs:List Str) (sc:Scope):Prop where
 kind:sc.kind= .function
 nocell:∀y∈sc.names,y.2≠ .cell
 locs:∀y∈sc.names,y.2= .local->sc.names.lookup y.1=some .local
 own:∀y∈sc.names,y.2= .local->y.1∈xs\/y.1=(".0":Str)
 free:∀y∈sc.names,y.2= .free->X.env.kindOf y.1=some .cell\/X.env.kindOf y.1=some .free
 nohid:∀y∈X.N,sc.names.lookup (y++("#":Str))=none
 nodot:(".0":Str)∉X.N
def Jm (X:Cx) (pins:List (Addr×Obj)) (xs:List Str) (sc:Scope) (C:Addr) (fp:List Addr) (s3:Shared) (H3:Hp):Cx where
 prog:=X.prog
 w:=X.w
 K:=X.K
 mg:=X.mg
 base:=X.base
 A:=X.A
 N:=Zo xs X.N
 s₀:=s3
 H₀:=H3
 env:=compEnvC sc (YI X.env.cells sc.names []) C X.env
 outer:=X.stack
 stack:=X.stack
 ex:=fp
 fn:=λ_=>false
 calm:=true
 pn:=X.pn++pins
 xe:=λ_ _=>False
def zBd (xs:List Str) (σ:St):St:=List.replicate xs.length none++σ
theorem yH {α β:Type} [BEq α] [LawfulBEq α] {x:α} {c:β}:∀{l:List (α×β)},l.lookup x=some c->(x,c)∈l
 | [],h=>nomatch h
 | (y,d)::r,h=>by
  rw [XV] at h;cases e:x==y with
  | true=>rw [e] at h; cases h; rw [eq_of_beq e]; exact qD
  | false=>rw [e] at h; exact qF _ (yH h)
section
variable {X:Cx} {pins:List (Addr×Obj)} {xs:List Str} {sc:Scope} {σ:St} {H:Hp} {s:Shared}
theorem Z1.cells (B:Z1 X xs sc) (ok:X.Ok):∀y∈sc.names,y.2= .free->∃c,X.env.cells.lookup y.1=some c:=λy hy e=>ok.has y.1 (B.free y hy e)
theorem Z1.sub (B:Z1 X xs sc) (ok:X.Ok) {y:Str} {c:Addr} (h:(YI X.env.cells sc.names []).lookup y=some c):X.env.cells.lookup y=some c:=
 zAw (cells:=X.env.cells) (names:=sc.names) (cs:=[]) (B.cells ok) (λp hp=>nomatch hp) (y,c) (yH h)
theorem Z1.kindF (B:Z1 X xs sc) {y:Str} (h:Vis (relabel sc X.env) y):sc.names.lookup y=some .local\/sc.names.lookup y=some .free:=by
 have e:(relabel sc X.env).names.lookup y=(sc.names.lookup y).map _:=Yf (env:=X.env) (x:=y) sc.names;cases q:sc.names.lookup y with
 | none=>
  rw [q] at e;rcases h with h | h | h <;> rw [e] at h <;> cases h
 | some k=>
  cases k with
  | «local»=>exact .inl rfl
  | free=>exact .inr rfl
  | cell=>exact absurd rfl (B.nocell _ (yH q))
  | globalImplicit=>rw [q] at e; rcases h with h | h | h <;> rw [e] at h <;> cases h
  | globalExplicit=>rw [q] at e; rcases h with h | h | h <;> rw [e] at h <;> cases h
theorem Z1.kindC (B:Z1 X xs sc) {y:Str} (h:sc.names.lookup y=some .free):(relabel sc X.env).names.lookup y=some .cell\/(relabel sc X.env).names.lookup y=some .free:=by
 have e:(relabel sc X.env).names.lookup y=(sc.names.lookup y).map _:=Yf (env:=X.env) (x:=y) sc.names;rw [h] at e;by_cases hc:((NameKind.free==NameKind.free)&&X.env.scope.kind== .function&&X.env.kindOf y==some .cell)=true
 ·left; rw [e]; show some (if _ then _ else _)=_; rw [if_pos hc]
 ·right; rw [e]; show some (if _ then _ else _)=_; rw [if_neg hc]
theorem Z1.ofC (B:Z1 X xs sc) {y:Str} (h:(relabel sc X.env).names.lookup y=some .cell\/(relabel sc X.env).names.lookup y=some .free):sc.names.lookup y=some .free:=by
 have v:Vis (relabel sc X.env) y:= .inr h;rcases B.kindF v with q | q
 ·have e:(relabel sc X.env).names.lookup y=(sc.names.lookup y).map _:=Yf (env:=X.env) (x:=y) sc.names
  rw [q] at e;rcases h with h | h <;> rw [e] at h <;> cases h
 ·exact q
theorem zIW {fp:List Addr} {h1:Heap} {tk:Nat} {m:Str->Option Value} (hcalm:X.calm=true) (B:Z1 X xs sc) (I:zN X pins σ H s) (hf:∀b∈fp,ja X pins H b) (hfl:∀b∈fp,b<s.heap.objs.size)
  (hn:h1.Ns (s.heap.objs.size+1) m) (hk:∀b o,(s.heap.push {cls:= .type "list",data:= .seq ([]:List Value).toArray}).get? b=some o->h1.get? b=some o):
  zN (Jm X pins xs sc (s.heap.objs.size+1) fp {s with heap:=s.heap.push {cls:= .type "list",data:= .seq ([]:List Value).toArray}} (upd H s.heap.objs.size (.lst []))) [] (zBd xs σ)
   (upd H s.heap.objs.size (.lst [])) {s with heap:=h1,toks:=tk}:=by
 have hsz:(s.heap.push {cls:= .type "list",data:= .seq ([]:List Value).toArray}).objs.size=s.heap.objs.size+1:=Heap.size_push ..;have lt:∀b o,s.heap.get? b=some o->b<s.heap.objs.size:=λb o e=>Heap.lt_size e
 have updF:∀b,b<s.heap.objs.size->upd H s.heap.objs.size (.lst []) b=H b:=λb hb=>zI (qT hb)
 have cl:∀x c,X.env.cells.lookup x=some c->c<s.heap.objs.size:=λx c e=>by obtain ⟨v,q⟩:=I.cell x c e; exact q.lt
 have frlt:∀b∈yP X.stack,b<s.heap.objs.size:=λb hb=>by
  rcases qG.mp (I.stkSub b hb) with e | z
  ·rw [e]; exact I.lt
  ·exact Nat.lt_of_not_le λz'=>I.nofs z' z
 have pushK:∀b o,s.heap.get? b=some o->(s.heap.push {cls:= .type "list",data:= .seq ([]:List Value).toArray}).get? b=some o:=λb o e=>Heap.get?_push_of_some _ e
 have hk0:∀b o,s.heap.get? b=some o->h1.get? b=some o:=λb o e=>hk b o (pushK b o e)
 have fresh:∀b,s.heap.objs.size≤b->H b=none:=λb hb=>I.hok.fresh hb
 refine ⟨⟨I.ok.mod,B.kind,I.ok.glob,I.ok.blt,?_,λx y c h1 h2=>?_,λx hx=>?_,λx c hx=>?_,λ_=>I.ok.hd hcalm,I.ok.frames, .inl rfl,λb hb=>⟨?_,λx c e=>?_⟩,λb o e=>⟨?_,?_⟩,?_,λb o e hb=>?_,λb hb hfr=>?_,?_,λb hb=>?_⟩,
  rfl,I.bare,Un.kept hk,⟨m,hn,λi x v e1 e2 e3=>?_⟩,λx c e=>?_,?_,λx c e=>?_,λp hp=>?_,?_,?_⟩
 ·show (s.heap.push {cls:= .type "list",data:= .seq ([]:List Value).toArray}).objs.size≤s.heap.objs.size+1
  rw [hsz]; exact qE _
 ·exact I.ok.inj x y c (B.sub I.ok h1) (B.sub I.ok h2)
 ·have q:=B.ofC (y:=x) hx
  obtain ⟨c,hc⟩:=Ji (cells:=X.env.cells) (cs:=[]) (yH q);exact j4 hc
 ·exact absurd hx (by show ¬(false=true); decide)
 ·exact qT (xJ (hfl b hb))
 ·exact (hf b hb).2.2.2.2.1 x c (B.sub I.ok e)
 ·exact pushK b o (I.bk b o e)
 ·show upd H s.heap.objs.size (.lst []) b=none
  rw [updF b (lt b o (I.bk b o e))]; exact (I.bs b o e).2
 ·show X.base.objs.size≤(s.heap.push {cls:= .type "list",data:= .seq ([]:List Value).toArray}).objs.size
  rw [hsz]; exact Nat.le_succ_of_le (qK I.ok.bsz I.sz)
 ·rcases (hf b hb).2.2.2.1 with z | z
  ·exact I.ok.noex b o e z
  ·have:=Heap.lt_size e
   exact absurd (qP this (qK I.ok.bsz z)) (XA _)
 ·rcases qG.mp (I.stkSub b hfr) with e | z
  ·exact (hf b hb).2.1 e
  ·exact (hf b hb).2.2.1 z
 ·exact Heap.FunFrames.of_keeps (λb o e _=>⟨o,pushK b o e,rfl⟩) I.stack
 ·show upd H s.heap.objs.size (.lst []) b=none
  rw [updF b (frlt b hb)]; exact I.stkFree b hb
 ·have hi:xs.length≤i:=by
   rcases xY i xs.length with z | z
   ·unfold zBd at e2
    rw [xT (by simpa using z),List.getElem?_replicate,if_pos z] at e2;cases e2
   ·exact z
  have e2':σ[i - xs.length]?=some (some v):=by
   unfold zBd at e2;rw [xN (by simpa using hi),List.length_replicate] at e2;exact e2
  have e1':(X.N.map (hid xs))[i - xs.length]?=some x:=by
   have q:(Zo xs X.N)[i]?=some x:=e1;unfold Zo at q;rw [xN hi] at q;exact q
  rw [qR] at e1';cases eN:X.N[i - xs.length]? with
  | none=>rw [eN] at e1'; cases e1'
  | some y=>
   rw [eN] at e1';have ey:hid xs y=x:=Option.some.inj e1';have hy:y∈X.N:=xA eN;have kf:=B.kindF (y:=x) e3;unfold hid at ey;by_cases hc:xs.contains y=true
   ·rw [if_pos hc] at ey
    rw [<-ey,B.nohid y hy] at kf;rcases kf with z | z <;> cases z
   ·rw [if_neg hc] at ey
    subst ey;rcases kf with z | z
    ·rcases B.own (y, .local) (yH z) rfl with q | q
     ·exact absurd (qX.mpr q) hc
     ·exact absurd (show (".0":Str)∈X.N from q▸hy) B.nodot
    ·have kk:=B.free (y, .free) (yH z) rfl
     obtain ⟨m0,hn0,hl0⟩:=I.loc;obtain ⟨u,ru,lk⟩:=hl0 _ y v eN e2' (.inr kk);refine ⟨u,ru,?_⟩;rcases lk with ⟨kl,_⟩ | ⟨_,c,ec,zc⟩
     ·rcases kk with kk | kk
      ·rw [show X.env.kindOf y=some .local from kl] at kk; cases kk
      ·rw [show X.env.kindOf y=some .local from kl] at kk; cases kk
     ·obtain ⟨c1,hc1⟩:=Ji (cells:=X.env.cells) (cs:=[]) (yH z)
      obtain ⟨c2,hc2⟩:=j4 hc1;have hc3:=B.sub I.ok hc2;rw [ec] at hc3;cases hc3;obtain ⟨oc,hoc,hdc⟩:=zc;exact .inr ⟨B.kindC z,c,hc2,oc,hk0 c oc hoc,hdc⟩
 ·obtain ⟨v,oc,hoc,hdc⟩:=I.cell x c (B.sub I.ok e)
  exact ⟨v,oc,hk0 c oc hoc,hdc⟩
 ·show upd H s.heap.objs.size (.lst []) (s.heap.objs.size+1)=none
  rw [zI (Nat.succ_ne_self _)]; exact fresh _ (Nat.le_succ _)
 ·have e':=B.sub I.ok e
  rw [updF c (cl x c e')]; exact I.freeC x c e'
 ·have hp':p∈X.pn++pins:=by
   rcases qO.mp hp with z | z
   ·exact z
   ·exact nomatch z
  obtain ⟨q1,q2,q3,q4,q5⟩:=I.pin p hp';refine ⟨hk0 _ _ q1,by rw [updF _ (lt _ _ q1)]; exact q2,?_,λz=>?_,q5⟩
  ·exact qT (xJ (lt _ _ q1))
  ·rcases qG.mp (I.stkSub _ z) with e | z
   ·exact q3 e
   ·exact q4 z
 ·refine I.hok.laid hk0 (qE _) ?_
  exact ⟨QG _,[],0, .nil,hk _ _ (Heap.get?_push_size _ rfl)⟩
 ·show (zBd xs σ).length=(Zo xs X.N).length
  unfold zBd Zo;rw [qI,qI,List.length_replicate,qA,I.len]
theorem zMy {fp:List Addr} {s':Shared} {σ':St} {H':Hp} (I:zN X pins σ H s) (hf:∀b∈fp,ja X pins H b)
  (J:zN (Jm X pins xs sc (s.heap.objs.size+1) fp {s with heap:=s.heap.push {cls:= .type "list",data:= .seq ([]:List Value).toArray}} (upd H s.heap.objs.size (.lst []))) [] σ' H' s'):
  zN X pins σ H' s':=by
 have u1:Un (yP X.stack) fp H (upd H s.heap.objs.size (.lst [])) s.heap (s.heap.push {cls:= .type "list",data:= .seq ([]:List Value).toArray}):=
  Un.laid (λb o e=>Heap.get?_push_of_some _ e) (qE _) (I.hok.fresh (qE _))
 have u2:Un (yP X.stack) fp (upd H s.heap.objs.size (.lst [])) H' (s.heap.push {cls:= .type "list",data:= .seq ([]:List Value).toArray}) s'.heap:=J.base;exact I.call' (s':=s') (ch:=fp) J.os (u1.trans u2) J.hok J.bare λb hb=>⟨(hf b hb).2.2.2.1,(hf b hb).2.1,(hf b hb).2.2.2.2.1,(hf b hb).2.2.2.2.2⟩
theorem zKp {fp:List Addr} {s' s'':Shared} {σ' σ2:St} {H' H2:Hp} {h':Heap} (I:zN X pins σ H s)
  (hC:H2 (s.heap.objs.size+1)=none) (I2:zN X pins σ2 H2 s'') (hs:Heap.SameBut (s.heap.objs.size+1) s''.heap h'):zN X pins σ2 H2 {s'' with heap:=h'}:=by
 have hL:s.heap.objs.size+1≠X.env.locals:=Nat.ne_of_gt (xJ I.lt);refine I2.turned (t':=s''.toks) (it:=s.heap.objs.size+1) (λb o hb e=>(hs.2 b hb).trans e) hC hL (.inr (Nat.le_succ_of_le I.sz)) (λx c e=>?_) λp hp=>?_
 ·obtain ⟨v,q⟩:=I.cell x c e
  exact qT (xJ q.lt)
 ·exact qT (xJ (Heap.lt_size (I.pin p hp).1))
end
def PIf (X:Cx) (ifs:List Expr) (t:TT):Prop:=
 ∀(pins:List (Addr×Obj)) (s:Shared) (σ:St) (H:Hp) (Q:Bool->Hp->Prop),zN X pins σ H s->t σ H Q->
  wpAny (model X.prog X.w) X.A (forIn ifs true λc r=>if r=true then do let ok <-isTrue c X.env (eval c X.env); pure (ForInStep.yield ok) else pure (ForInStep.yield r)) (TP X pins σ Q) X.xe s
def zBO:TT:=λ_ H Q=>Q true H
theorem Zp {X:Cx}:PIf X [] zBO:=λ_ _ _ H _ I h=>wpAny_tests_nil ⟨H,I,h⟩
theorem Ye {X:Cx} {c:Expr} {t:TT} (h:PT X c t):PIf X [c] t:=λpins s σ H Q I q=>wpAny_tests_one (h pins s σ H Q I q)
def YN (J:It) (g:TG) (tc:TT) (te:TE) (D:Addr) (Q:Hp->Prop) (σ:St) (H:Hp):Prop:=
 ∃W:Nat->Nat->St->Hp->Prop,(∃m,W 0 m σ H)/\∀i m σ H,W i m σ H->
  (J.stop i H/\Q H)\/(J.go i H/\∃N:St->Hp->Prop,(∀σ' H',N σ' H'->∃m',m'<m/\W (i+1) m' σ' H')/\∀x H',J.yld i H x H'->g x σ H' λσ2 H2=>tc σ2 H2 λb H3=>
   if b=true then te σ2 H3 λv H4=>∃ys,H4 D=some (.lst ys)/\ys.length<sizeLine/\N σ2 (upd H4 D (.lst (ys++[v]))) else N σ2 H3)
theorem zIr {P:Program} {w:World} {K:PySem.W.Frag} {Y:Cx} (hP:Y.prog=P) (hw:Y.w=w) (hK:Y.K=K) {tg iter elt:Expr} {ifs:List Expr} {scope:Scope} {pos:Pos} {J:It} {fp:List Addr} {it D:Addr} {tn:Nat->Heap->Prop} {g:TG} {tc:TT} {te:TE}
  {Q:Hp->Prop} {R:Result->Shared->Prop} {s:Shared} {σ:St} {H:Hp}
  (hcalm:Y.calm=true) (hx:Y.xe=λ_ _=>False) (T:zAa P w K tg J fp it tn) (hg:PG Y tg g) (hc:PIf Y ifs tc) (he:PE Y elt te) (I:zN Y [] σ H s) (st:tn 0 s.heap) (hf:∀b∈fp,ja Y [] H b) (h:YN J g tc te D Q σ H)
  (hR:∀σ' H' s',zN Y [] σ' H' s'->Q H'->R (.ok .next) s'):
  codeAny (model P w) Y.A (.compLoop (.ListComp elt [⟨tg,iter,ifs,0⟩] scope pos) 0 (.ref it) (.ref D) Y.env) R s:=by
 subst hP hw hK;obtain ⟨W,⟨m0,w0⟩,turn⟩:=h;have stat:∀{H':Hp},(∀b∈fp,H' b=none)->∀b∈fp,ja Y [] H' b:=λhn b hb=>⟨hn b hb,(hf b hb).2⟩
 have no:∀{α:Type} {t:Sem α} {Qa:α->Shared->Prop} {E:Value->Shared->Prop} {s:Shared},wpAny (model Y.prog Y.w) Y.A t Qa Y.xe s->wpAny (model Y.prog Y.w) Y.A t Qa E s:=λz=>wpAny_mono z (λ_ _ q=>q) λ_ _ q=>by rw [hx] at q; exact q.elim
 refine codeAny_loop rfl (λn s'=>∃i σ' H',zN Y [] σ' H' s'/\tn i s'.heap/\(∀b∈fp,H' b=none)/\W i n σ' H') ?_ m0 ⟨0,σ,H,I,st,λb hb=>(hf b hb).1,w0⟩;rintro n s3 ⟨i,σ3,H3,I3,st3,fr3,w3⟩;show wpAny _ Y.A ((compTurn (.ListComp elt [⟨tg,iter,ifs,0⟩] scope pos) 0 (.ref it) (.ref D) Y.env).onRaise (λx=>do noteFrame x Y.env; theTreesLotGoes x)) _ _ s3;refine wpAny_noted ?_;rw [compTurn_list];refine wpAny_bind (wpAny_standAt (wpAny_bind ?_));rcases turn i n σ3 H3 w3 with ⟨stop,qn⟩ | ⟨go,N,hN,step⟩
 ·refine wpAny_mono (T.done Y rfl rfl rfl hcalm i [] s3 σ3 H3 _ I3 (stat fr3) st3 stop) (λr s4 ⟨hr,I4⟩=>?_) λ_ _ q=>q
  subst hr;exact wpAny_pure (hR σ3 H3 s4 I4 qn)
 ·refine wpAny_mono (T.item Y rfl rfl rfl hcalm i [] s3 σ3 H3 _ I3 (stat fr3) st3 go) (λr s4 ⟨u,hr,h4⟩=>?_) λ_ _ q=>q
  subst hr;refine wpAny_bind (wpAny_mono h4 (λ_ s5 ⟨x,H5,I5,r5,y5,st5,fr5⟩=>?_) λ_ _ q=>q);have I5':=I5.pinned (stat fr5) (T.obj _ _ st5);have again:∀{s7:Shared} {σ7:St} {H7:Hp},zN Y ([]++zAj fp s5.heap) σ7 H7 s7->N σ7 H7->∃m,m<n/\∃i σ' H',zN Y [] σ' H' s7/\tn i s7.heap/\(∀b∈fp,H' b=none)/\W i m σ' H':=λ{s7 σ7 H7} I7 n7=>by
   obtain ⟨m',hm,w7⟩:=hN σ7 H7 n7;refine ⟨m',hm,i+1,σ7,H7,I7.unpinned,T.keep _ _ _ st5 λb hb o e=>(I7.pin (b,o) (qW _ (qW _ (JC hb e)))).1,λb hb=>?_,w7⟩;obtain ⟨o,e,d⟩:=T.obj _ _ st5 b hb;exact (I7.pin (b,o) (qW _ (qW _ (JC hb e)))).2.1
  refine wpAny_bind (no (zj (hg _ s5 σ3 H5 x u _ I5' r5 (step x H5 y5)) λ_ s6 ⟨σ6,H6,I6,q6⟩=>?_));refine wpAny_bind (no (zj (hc _ s6 σ6 H6 _ I6 q6) λok s7 ⟨H7,I7,q7⟩=>?_));cases ok with
  | false=>exact wpAny_pure ⟨rfl,again I7 q7⟩
  | true=>
   refine wpAny_bind (wpAny_bind (no (zj (he _ s7 σ6 H7 _ I7 q7) λv s8 ⟨y,H8,I8,r8,ys,eD,hz,n8⟩=>?_)));refine wpAny_bind (no (zj (yk _ s8 σ6 H8 (.ref D) [y] (.ref D) [v] (λ_ H9=>N σ6 H9) I8 rfl (.cons r8 .nil) ⟨D,ys,y,rfl,rfl,eD,hz,n8⟩) λ_ s9 ⟨_,H9,I9,_,n9⟩=>?_));exact wpAny_pure (wpAny_pure ⟨rfl,again I9 n9⟩)
section
variable {X:Cx}
def zME (xs:List Str) (wi:TI) (g:TG) (tc:TT) (te:TE):TE:=λσ H Q=>wi σ H λJ H1=>∀D,H1 D=none->YN J g tc te D (λH'=>Q (.ref D) H') (zBd xs σ) (upd H1 D (.lst []))
theorem zDz {tg iter elt:Expr} {ifs:List Expr} {sc:Scope} {pos pos':Pos} {xs:List Str} {wi:TI} {g:TG} {tc:TT} {te:TE} {use:Option (Value->Sem Unit)} (hcalm:X.calm=true) (B:Z1 X xs sc) (hi:PI X tg iter wi)
  (hb:∀pins C fp s3 H3,PG (Jm X pins xs sc C fp s3 H3) tg g/\PIf (Jm X pins xs sc C fp s3 H3) ifs tc/\PE (Jm X pins xs sc C fp s3 H3) elt te)
  {pins:List (Addr×Obj)} {s:Shared} {σ:St} {H:Hp} {Q:Value->Shared->Prop} {QA:Addr->Hp->Prop} (I:zN X pins σ H s) (h:wi σ H λJ H1=>∀D,H1 D=none->YN J g tc te D (QA D) (zBd xs σ) (upd H1 D (.lst [])))
  (fin:∀C D H' s' m,s'.heap.Ns C m->H' C=none->zN X pins σ H' s'->QA D H'->(∀σ2 H2 s2 h2,zN X pins σ2 H2 s2->H2 C=none->Heap.SameBut C s2.heap h2->zN X pins σ2 H2 {s2 with heap:=h2})->C≠X.env.locals->(∀x c,X.env.cells.lookup x=some c->c≠C)->
   match use with
   | none=>∀h',Heap.SameBut C s'.heap h'->Q (.ref D) {s' with heap:=h'}
   | some u=>wpAny (model X.prog X.w) X.A (u (.ref D)) (λ_ s''=>∃m,s''.heap.Ns C m/\∀h',Heap.SameBut C s''.heap h'->Q .none {s'' with heap:=h'}) X.xe s')
  (hs:∀x,foldedSetIterable iter X.env x=pure x:=by intro _; rfl):
  wpAny (model X.prog X.w) X.A (comprehension (.ListComp elt [⟨tg,iter,ifs,0⟩] sc pos) sc X.env pos' (newList []) false (eval iter X.env) use) Q X.xe s:=by
 refine wpAny_comprehension_free (cl:=YI X.env.cells sc.names []) (use:=use) rfl hs (zBf (B.cells I.ok)) B.kind B.locs
  (zj (hi pins s σ H _ I h) λv s1 h1=>zj h1 λitv s2 h2=>?_)
 obtain ⟨it,fp,tn,J,H2,e,I2,T,st2,f2,tr⟩:=h2;subst e;have hfl:∀b∈fp,b<s2.heap.objs.size:=λb hb=>by obtain ⟨o,e,_⟩:=T.obj _ _ st2 b hb; exact Heap.lt_size e
 have hD:H2 s2.heap.objs.size=none:=I2.hok.fresh (qE _);refine wpAny_newObj_type (wpAny_newFunctionEnv B.nocell (by intro y hy; simp at hy) (λh1 hns hsb=>?_) B.kind);have hsz:(s2.heap.push {cls:= .type "list",data:= .seq ([]:List Value).toArray}).objs.size=s2.heap.objs.size+1:=Heap.size_push ..;dsimp only at hns hsb ⊢;rw [hsz] at hns hsb ⊢;have hk:∀b o,(s2.heap.push {cls:= .type "list",data:= .seq ([]:List Value).toArray}).get? b=some o->h1.get? b=some o:=λb o e=>
  (hsb.2 b (qT (by have:=Heap.lt_size e; rw [hsz] at this; exact this))).trans (Heap.get?_push_of_some _ e)
 have J0:=zIW (tk:=s2.toks+([]:List (Str×Value)).length) hcalm B I2 f2 hfl hns hk;have st3:tn 0 h1:=T.keep _ _ _ st2 λb _ o e=>hk b o (Heap.get?_push_of_some _ e)
 have fY:∀b∈fp,ja (Jm X pins xs sc (s2.heap.objs.size+1) fp {s2 with heap:=s2.heap.push {cls:= .type "list",data:= .seq ([]:List Value).toArray}} (upd H2 s2.heap.objs.size (.lst []))) [] (upd H2 s2.heap.objs.size (.lst [])) b:=λb hb=>by
  obtain ⟨q1,q2,q3,q4,q5,q6⟩:=f2 b hb;refine ⟨by rw [zI (qT (hfl b hb))]; exact q1,qT (xJ (hfl b hb)),λz=>?_, .inl hb,λx c e=>q5 x c (B.sub I2.ok e),λp hp=>?_⟩
  ·rcases qG.mp (I2.stkSub _ z) with e | z
   ·exact q2 e
   ·exact q3 z
  ·rcases qO.mp hp with z | z
   ·exact q6 p z
   ·exact nomatch z
 have loop:∀(RR:Result->Shared->Prop),(∀σ' H' s',zN (Jm X pins xs sc (s2.heap.objs.size+1) fp {s2 with heap:=s2.heap.push {cls:= .type "list",data:= .seq ([]:List Value).toArray}} (upd H2 s2.heap.objs.size (.lst []))) [] σ' H' s'->QA s2.heap.objs.size H'->RR (.ok .next) s')->
   codeAny (model X.prog X.w) X.A (.compLoop (.ListComp elt [⟨tg,iter,ifs,0⟩] sc pos) 0 (.ref it) (.ref s2.heap.objs.size) (compEnvC sc (YI X.env.cells sc.names []) (s2.heap.objs.size+1) X.env)) RR
    {s2 with heap:=h1,toks:=s2.toks+([]:List (Str×Value)).length}:=λRR hR=>
  zIr (Y:=Jm X pins xs sc (s2.heap.objs.size+1) fp {s2 with heap:=s2.heap.push {cls:= .type "list",data:= .seq ([]:List Value).toArray}} (upd H2 s2.heap.objs.size (.lst []))) rfl rfl rfl rfl rfl T (hb _ _ _ _ _).1 (hb _ _ _ _ _).2.1 (hb _ _ _ _ _).2.2 J0 st3 fY (tr _ hD) hR
 refine codeAny_compStart_list (loop _ ?_) (T.self _ 0 _ _ _ st3 (loop _ ?_))
 all_goals
  intro σ' H' s' J' q';have I':=zMy (sc:=sc) I2 f2 J';obtain ⟨m,hm,_⟩:=J'.loc;have hC:H' (s2.heap.objs.size+1)=none:=J'.free;have z:=fin (s2.heap.objs.size+1) s2.heap.objs.size H' s' m hm hC I' q' (λσ3 H3 s3 h3 I3 c3 sb=>zKp (fp:=fp) (s':=s') (σ':=σ') (H':=H') I2 c3 I3 sb) (Nat.ne_of_gt (xJ I2.lt))
   (λx c e=>by obtain ⟨v,q⟩:=I2.cell x c e; exact qT (xJ q.lt))
  cases use with
  | none=>exact ⟨m,hm,λh' sb=>z h' sb⟩
  | some u=>exact z
theorem Za {tg iter elt:Expr} {ifs:List Expr} {sc:Scope} {pos:Pos} (xs:List Str) {wi:TI} {g:TG} {tc:TT} {te:TE} (hcalm:X.calm=true) (B:Z1 X xs sc) (hi:PI X tg iter wi)
  (hb:∀pins C fp s3 H3,PG (Jm X pins xs sc C fp s3 H3) tg g/\PIf (Jm X pins xs sc C fp s3 H3) ifs tc/\PE (Jm X pins xs sc C fp s3 H3) elt te) (hs:∀x,foldedSetIterable iter X.env x=pure x:=by intro _; rfl):
  PE X (.ListComp elt [⟨tg,iter,ifs,0⟩] sc pos) (zME xs wi g tc te):=by
 intro pins s σ H Q I h;rw [eval_ListComp];exact zDz (use:=none) (Q:=EP X pins σ Q) (QA:=λD H'=>Q (.ref D) H') hcalm B hi hb I h (λC D H' s' m _ hC I' q back _ _ h' sb=>⟨.ref D,H',back σ H' s' h' I' hC sb,rfl,q⟩) hs
theorem J8 {tg iter elt:Expr} {ifs:List Expr} {sc:Scope} {pos spos py:Pos} (xs:List Str) {j:Nat} {y:Str} {wi:TI} {g:TG} {tc:TT} {te:TE} (hcalm:X.calm=true) (B:Z1 X xs sc) (hi:PI X tg iter wi)
  (hb:∀pins C fp s3 H3,PG (Jm X pins xs sc C fp s3 H3) tg g/\PIf (Jm X pins xs sc C fp s3 H3) ifs tc/\PE (Jm X pins xs sc C fp s3 H3) elt te)
  (hN:X.N.Nodup) (hj:X.N[j]?=some y) (hy:Loc X.env.scope y) (hsw:swapsWith (.ListComp elt [⟨tg,iter,ifs,0⟩] sc pos) (some (.Name y py)) spos.line X.env=pure true)
  (hfn:X.fn y=true\/X.env.scope.names.lookup y=some .local:=by first | exact .inl rfl | exact .inr rfl | assumption) (hs:∀x,foldedSetIterable iter X.env x=pure x:=by intro _; rfl):
  PS X (.Assign [.Name y py] (.ListComp elt [⟨tg,iter,ifs,0⟩] sc pos) spos) (zBg (zME xs wi g tc te) (Zi j)):=by
 intro pins s σ H D I h;rw [exec_Assign_Name_used _ _ _ _ hsw];refine wpAny_bind (wpAny_standAt (wpAny_bind ?_));show wpAny _ X.A (do let _ <-comprehension (.ListComp elt [⟨tg,iter,ifs,0⟩] sc pos) sc X.env _ (newList []) false (eval iter X.env) (some (assign (.Name y py) X.env))) _ _ s;refine wpAny_bind (wpAny_mono (zDz (use:=some (assign (.Name y py) X.env)) (Q:=λ_ s'=>SP X pins D .next s') (QA:=λDa H'=>D.nx (σ.set j (some (.ref Da))) H') hcalm B hi hb I h (λC Da H' s' m hm hC I' q back hCL hCc=>?_) hs) (λ_ s' hq=>wpAny_pure (wpAny_pure hq)) λ_ _ e=>e);refine wpAny_assign_Name (zDu I' hN hj hy (v:= .ref Da) rfl (λs2 I2 ⟨a,sb,ha⟩=>?_) hfn);have hne:C≠a:=by
  rcases ha with z | z
  ·rw [z]; exact hCL
  ·exact λe=>hCc _ _ z e.symm
 exact ⟨m,hm.sameBut sb hne,λh' sb'=>⟨_,H',back _ H' s2 h' I2 hC sb',q⟩⟩
end
end L2
namespace L2
open PySem PySem.Spec PyProof.Rows PySem.SeqAt
inductive YO (K:PySem.W.Frag) (H:Hp):Nat->V->V->Bool->Prop where
 | int {n:Nat} (i j:Int):YO K H n (.int i) (.int j) (i==j)
 | bl {n:Nat} (i j:Bool):YO K H n (.bl i) (.bl j) (i==j)
 | str {n:Nat} (i j:Str):YO K H n (.str i) (.str j) (i==j)
 | same {n:Nat} (a:Addr):YO K H n (.ref a) (.ref a) true
 | non {n:Nat}:YO K H n .non .non true
 | lst {n:Nat} {a b:Addr} {xs ys:List V} {e:Nat->Bool} (ne:a≠b) (h1:zQ K H a xs) (h2:zQ K H b ys) (hl:xs.length=ys.length)
   (he:∀(j:Nat) (x y:V),xs[j]?=some x->ys[j]?=some y->YO K H n x y (e j)):YO K H (n+1) (.ref a) (.ref b) ((List.range xs.length).all e)
 | lstN {n:Nat} {a b:Addr} {xs ys:List V} (ne:a≠b) (h1:zQ K H a xs) (h2:zQ K H b ys) (hl:xs.length≠ys.length):YO K H (n+1) (.ref a) (.ref b) false
 | tup {n:Nat} {a b:Addr} {xs ys:List V} {e:Nat->Bool} (ne:a≠b) (h1:Zd K H a xs) (h2:Zd K H b ys) (hl:xs.length=ys.length)
   (he:∀(j:Nat) (x y:V),xs[j]?=some x->ys[j]?=some y->YO K H n x y (e j)):YO K H (n+1) (.ref a) (.ref b) ((List.range xs.length).all e)
section
variable {X:Cx} {pins:List (Addr×Obj)} {σ:St} {H:Hp} {s:Shared}
theorem jB {xs:List V} {us:List Value} (r:zi xs us) {j:Nat} (h:j<us.toArray.size):∃x,xs[j]?=some x/\zn x us.toArray[j]:=by
 have hl:=r.length;have hj:j<xs.length:=by rw [hl]; simpa using h
 obtain ⟨u,hu,ru⟩:=r.get (qB hj);have e:us.toArray[j]=u:=by
  have:us[j]?=some us.toArray[j]:=by simp
  rw [this] at hu; exact Option.some.inj hu
 exact ⟨xs[j],qB hj,by rw [e]; exact ru⟩
theorem YO.at (I:zN X pins σ H s):∀{n:Nat} {x y:V} {b:Bool},YO X.K H n x y b->∀{A:Around} {u v:Value},A.units+n<cLine->zn x u->zn y v->EqAt A s u v b:=by
 intro n x y b h
 induction h with
 | int i j=>intro A u v _ ru rv; obtain ⟨t,rfl⟩:=ru; obtain ⟨t',rfl⟩:=rv; exact EqAt.int_int _ _ _ _
 | bl i j=>intro A u v _ ru rv; cases ru; cases rv; exact EqAt.bool_bool _ _
 | str i j=>intro A u v _ ru rv; obtain ⟨t,rfl⟩:=ru; obtain ⟨t',rfl⟩:=rv; exact EqAt.str_str _ _ _ _
 | same a=>intro A u v _ ru rv; cases ru; cases rv; exact EqAt.same _
 | non=>intro A u v _ ru rv; cases ru; cases rv; exact EqAt.same _
 | @lst n a b xs ys e ne h1 h2 hl he ih=>
  intro A u v hu ru rv;cases ru; cases rv;obtain ⟨i1,r1,p1,_⟩:=I.list h1;obtain ⟨i2,r2,p2,_⟩:=I.list h2;have e1:xs.length=i1.toArray.size:=by rw [r1.length]; simp
  have e2:ys.length=i2.toArray.size:=by rw [r2.length]; simp
  rw [e1];refine EqAt.of_refs ne (RcAt.lists p1.isList p2.isList (by omega) (by omega) λj k1 k2=>?_);obtain ⟨x,hx,rx⟩:=jB r1 k1;obtain ⟨y,hy,ry⟩:=jB r2 k2;exact ih j x y hx hy (by show A.units+1+n<cLine; omega) rx ry
 | @lstN n a b xs ys ne h1 h2 hl=>
  intro A u v hu ru rv;cases ru; cases rv;obtain ⟨i1,r1,p1,_⟩:=I.list h1;obtain ⟨i2,r2,p2,_⟩:=I.list h2;refine EqAt.of_refs ne (RcAt.lists_lengths p1.isList p2.isList ?_ (by omega));have e1:xs.length=i1.toArray.size:=by rw [r1.length]; simp
  have e2:ys.length=i2.toArray.size:=by rw [r2.length]; simp
  exact bne_iff_ne.mpr (by omega)
 | @tup n a b xs ys e ne h1 h2 hl he ih=>
  intro A u v hu ru rv;cases ru; cases rv;obtain ⟨i1,r1,p1,_⟩:=I.tuple h1;obtain ⟨i2,r2,p2,_⟩:=I.tuple h2;have e1:xs.length=i1.toArray.size:=by rw [r1.length]; simp
  have e2:ys.length=i2.toArray.size:=by rw [r2.length]; simp
  have q:=RcAt.tuples (A:=A) (e:=e) p1 p2 (by omega) λj k1 k2=>by
   obtain ⟨x,hx,rx⟩:=jB r1 k1;obtain ⟨y,hy,ry⟩:=jB r2 k2;exact ih j x y hx hy (by show A.units+1+n<cLine; omega) rx ry
  have ez:i1.toArray.size=i2.toArray.size:=by omega
  rw [ez,Nat.min_self,beq_self_eq_true,Bool.and_true,<-ez,<-e1] at q;exact EqAt.of_refs ne q
inductive jy (K:PySem.W.Frag) (H:Hp):V->V->Bool->Prop where
 | lst {a b:Addr} {xs ys:List V} {e:Nat->Bool} (h1:zQ K H a xs) (h2:zQ K H b ys) (hl:xs.length=ys.length)
   (he:∀(j:Nat) (x y:V),xs[j]?=some x->ys[j]?=some y->YO K H 4 x y (e j)):jy K H (.ref a) (.ref b) ((List.range xs.length).all e)
 | lstN {a b:Addr} {xs ys:List V} (h1:zQ K H a xs) (h2:zQ K H b ys) (hl:xs.length≠ys.length):jy K H (.ref a) (.ref b) false
 | tup {a b:Addr} {xs ys:List V} {e:Nat->Bool} (h1:Zd K H a xs) (h2:Zd K H b ys) (hl:xs.length=ys.length)
   (he:∀(j:Nat) (x y:V),xs[j]?=some x->ys[j]?=some y->YO K H 4 x y (e j)):jy K H (.ref a) (.ref b) ((List.range xs.length).all e)
theorem jy.at (I:zN X pins σ H s) {x y:V} {b:Bool} (h:jy X.K H x y b) {A:Around} {u v:Value} (hu:A.units+8<cLine) (ru:zn x u) (rv:zn y v):RcAt A s u v b/\RcNeAt A s u v (!b):=by
 cases h with
 | @lst a b xs ys e h1 h2 hl he=>
  cases ru; cases rv;obtain ⟨i1,r1,p1,_⟩:=I.list h1;obtain ⟨i2,r2,p2,_⟩:=I.list h2;have e1:xs.length=i1.toArray.size:=by rw [r1.length]; simp
  have e2:ys.length=i2.toArray.size:=by rw [r2.length]; simp
  have el:∀j (k1:j<i1.toArray.size) (k2:j<i2.toArray.size),EqAt A.in1 s i1.toArray[j] i2.toArray[j] (e j):=λj k1 k2=>by
   obtain ⟨x,hx,rx⟩:=jB r1 k1;obtain ⟨y,hy,ry⟩:=jB r2 k2;exact (he j x y hx hy).at I (by show A.units+1+4<cLine; omega) rx ry
  rw [e1];exact ⟨RcAt.lists p1.isList p2.isList (by omega) (by omega) el,RcNeAt.lists p1.isList p2.isList (by omega) (by omega) el⟩
 | @lstN a b xs ys h1 h2 hl=>
  cases ru; cases rv;obtain ⟨i1,r1,p1,_⟩:=I.list h1;obtain ⟨i2,r2,p2,_⟩:=I.list h2;have e1:xs.length=i1.toArray.size:=by rw [r1.length]; simp
  have e2:ys.length=i2.toArray.size:=by rw [r2.length]; simp
  have q:(i1.toArray.size !=i2.toArray.size)=true:=bne_iff_ne.mpr (by omega);exact ⟨RcAt.lists_lengths p1.isList p2.isList q (by omega),RcNeAt.lists_lengths p1.isList p2.isList q (by omega)⟩
 | @tup a b xs ys e h1 h2 hl he=>
  cases ru; cases rv;obtain ⟨i1,r1,p1,_⟩:=I.tuple h1;obtain ⟨i2,r2,p2,_⟩:=I.tuple h2;have e1:xs.length=i1.toArray.size:=by rw [r1.length]; simp
  have e2:ys.length=i2.toArray.size:=by rw [r2.length]; simp
  have el:∀j (k1:j<i1.toArray.size) (k2:j<i2.toArray.size),EqAt A.in1 s i1.toArray[j] i2.toArray[j] (e j):=λj k1 k2=>by
   obtain ⟨x,hx,rx⟩:=jB r1 k1;obtain ⟨y,hy,ry⟩:=jB r2 k2;exact (he j x y hx hy).at I (by show A.units+1+4<cLine; omega) rx ry
  have ez:i1.toArray.size=i2.toArray.size:=by omega
  have q1:=RcAt.tuples (A:=A) (e:=e) p1 p2 (by omega) el;have q2:=RcNeAt.tuples (A:=A) (e:=e) p1 p2 (by omega) el;rw [ez,Nat.min_self,beq_self_eq_true,Bool.and_true,<-ez,<-e1] at q1 q2;exact ⟨q1,q2⟩
def zOW (K:PySem.W.Frag):R2:=λx y H Q=>∃b,jy K H x y b/\Q (.bl b) H
def zSP (K:PySem.W.Frag):R2:=λx y H Q=>∃b,jy K H x y b/\Q (.bl (!b)) H
theorem zIV (hu:X.A.units+64<cLine):yN X (compareOp .Eq) (zOW X.K):=by
 intro pins s σ H x y v u Q I rx ry ⟨b,h,q⟩;exact (h.at I (by omega) rx ry).1 _ _ _ _ ⟨.bl b,H,I,rfl,q⟩
theorem Jb (hu:X.A.units+64<cLine):yN X (compareOp .NotEq) (zSP X.K):=by
 intro pins s σ H x y v u Q I rx ry ⟨b,h,q⟩;exact (h.at I (by omega) rx ry).2 _ _ _ _ ⟨.bl (!b),H,I,rfl,q⟩
end
theorem zFl {α:Type} [BEq α] [LawfulBEq α]:∀{xs ys:List α},xs.length=ys.length->(List.range xs.length).all (λj=>xs[j]?==ys[j]?)=(xs==ys):=by
 intro xs ys hl;rw [QY,QM,beq_iff_eq];constructor
 ·intro h
  refine List.ext_getElem? λj=>?_
  by_cases hj:j<xs.length
  ·exact eq_of_beq (h j (QP.mpr hj))
  ·rw [List.getElem?_eq_none (by omega),List.getElem?_eq_none (by omega)]
 ·intro h j _
  rw [h]; exact beq_self_eq_true _
section
variable {K:PySem.W.Frag} {H:Hp}
theorem zEI {n:Nat} {xs ys:List Int}:∀(j:Nat) (x y:V),(xs.map V.int)[j]?=some x->(ys.map V.int)[j]?=some y->YO K H n x y (xs[j]?==ys[j]?):=by
 intro j x y hx hy;rw [qR] at hx hy;cases ex:xs[j]? with
 | none=>rw [ex] at hx; cases hx
 | some i=>
  cases ey:ys[j]? with
  | none=>rw [ey] at hy; cases hy
  | some k=>
   rw [ex] at hx; rw [ey] at hy; cases hx; cases hy;have e:(some i==some k)=(i==k):=by rfl
   rw [e];exact YO.int i k
theorem zKP {a b:Addr} {xs ys:List Int} (h1:zQ K H a (xs.map V.int)) (h2:zQ K H b (ys.map V.int)):jy K H (.ref a) (.ref b) (xs==ys):=by
 by_cases hl:xs.length=ys.length
 ·have q:=jy.lst (e:=λj=>xs[j]?==ys[j]?) h1 h2 (by simpa using hl) zEI
  rw [qA,zFl hl] at q;exact q
 ·have e:(xs==ys)=false:=by rw [beq_eq_false_iff_ne]; intro e; exact hl (by rw [e])
  rw [e];exact jy.lstN h1 h2 (by simpa using hl)
theorem zDP {a b:Addr} {xs:List V} (h1:zQ K H a xs) (h2:zQ K H b []):jy K H (.ref a) (.ref b) xs.isEmpty:=by
 cases xs with
 | nil=>exact jy.lst (e:=λ_=>true) h1 h2 rfl (λj x y hx=>nomatch hx)
 | cons x r=>exact jy.lstN h1 h2 (by simp)
end
section
variable {X:Cx}
def zRy (K:PySem.W.Frag) (T:String):List V->Hp->VK->Prop:=λvs H Q=>∃x t b,vs=[x, .ty T]/\YS K H x t/\PySem.W.kitOne K t (.type T)=some b/\Q (.bl b) H
theorem Y5 (T:String):yS X (.builtin "isinstance") (zRy X.K T):=by
 intro pins s σ H xs us Q I r h;obtain ⟨x,t,b,rfl,ty,e,q⟩:=h;obtain ⟨u,v,rfl,ru,rv⟩:=r.two;cases rv;exact zJd I ru ty e λtk=>⟨.bl b,H,I.tok tk,rfl,q⟩
theorem zEu {pins:List (Addr×Obj)} {σ:St} {H:Hp} {s:Shared} {Q:VK} {E:Value->Shared->Prop} {lo hi:Int} {t u v:Tok} {tk:Nat} (hcalm:X.calm=true) (I:zN X pins σ H s) (h1: -(2^20)≤lo) (h2:lo<2^20) (h3: -(2^20)≤hi) (h4:hi<2^20)
  (q:∀p,H p=none->Q (.ref p) (upd H p (.lst ((List.range (hi - lo).toNat).map λi:Nat=>V.int (lo+i))))):
  wpAny (model X.prog X.w) X.A (call (.type "list") [.ref s.heap.objs.size]) (EP X pins σ Q) E {s with heap:=s.heap.push {cls:= .type "range",data:= .fields #[.int lo t, .int hi u, .int 1 v]},toks:=tk}:=by
 have I1:zN X pins σ H {s with heap:=s.heap.push {cls:= .type "range",data:= .fields #[.int lo t, .int hi u, .int 1 v]},toks:=tk}:=I.kept λb o e=>Heap.get?_push_of_some _ e
 refine call_list_range (n:=(hi - lo).toNat) (I.ok.hd hcalm) (IsRange.new ..) (small_one (by omega) (by omega) (by omega) (by omega)) (by rw [rangeSize_one]; split <;> omega) (by omega) λh' tk' acc' c' hk hS hacc=>?_
 refine ⟨.ref _,_,I1.laid (t':=tk') hk (qE _) (show ZU X.prog X.w _ h' _ (.lst ((List.range (hi - lo).toNat).map λi:Nat=>V.int (lo+i))) from ⟨?_,acc'.toList,c',?_,by simpa using hS⟩),rfl,q _ (I1.hok.fresh (qE _))⟩
 ·rw [qA,xX]
  exact qK (show (hi - lo).toNat≤2^22 by omega) (by decide)
 ·have key:∀(n:Nat) (us:List Value) (f:Nat->Int),us.length=n->(∀(j:Nat) (u:Value),us[j]?=some u->∃t,u=Value.int (f j) t)->zi ((List.range n).map λi:Nat=>V.int (f i)) us:=by
   intro n
   induction n with
   | zero=>intro us f hl _; have:us=[]:=List.eq_nil_of_length_eq_zero hl; subst this; exact .nil
   | succ n ih=>
    intro us f hl hu;cases us with
    | nil=>cases hl
    | cons u0 r=>
     rw [List.range_succ_eq_map,qQ,qU];refine .cons (hu 0 u0 rfl) ?_;exact ih r (λi=>f (i+1)) (by simpa using hl) λj w hw=>hu (j+1) w (by simpa using hw)
  refine key _ _ (λi=>lo+i) (by rw [qJ]; exact hacc.1) λj w hw=>?_
  obtain ⟨t,e⟩:=hacc.2 j w (by rw [<-Array.getElem?_toList]; exact hw);exact ⟨t,by rw [e,Int.mul_one]⟩
def zMJ (ta:TA) (lo:List V->Option (Int×Int)):TE:=λσ H Q=>ta σ H λvs H1=>∃i j,lo vs=some (i,j)/\(-(2^20)≤i/\i<2^20/\ -(2^20)≤j/\j<2^20)/\∀p,H1 p=none->Q (.ref p) (upd H1 p (.lst ((List.range (j - i).toNat).map λk:Nat=>V.int (i+k))))
def rg1:List V->Option (Int×Int)
 | [.int j]=>some (0,j)
 | _=>none
def rg2:List V->Option (Int×Int)
 | [.int i, .int j]=>some (i,j)
 | _=>none
theorem zCs {a:Expr} {ta:TA} {p pos p' pos':Pos} (hcalm:X.calm=true) (hg:Gl X "range") (hm:X.mg "range"=none) (hg':Gl X "list") (hm':X.mg "list"=none) (ha:PA X [a] ta) (hs:starEach [a] X.env=[(false,eval a X.env)]:=by rfl)
  (hs':starEach [.Call (.Name "range" p) [a] [] pos] X.env=[(false,eval (.Call (.Name "range" p) [a] [] pos) X.env)]:=by rfl):
  PE X (.Call (.Name "list" p') [.Call (.Name "range" p) [a] [] pos] [] pos') (zMJ ta rg1):=by
 intro pins s σ H Q I h;refine Call_ (Yc I hg' hm' boot_list (QV ?_ hs' rfl));rw [hs'];show wpAny _ _ (spliced ((false,eval (.Call (.Name "range" p) [a] [] pos) X.env)::[])) _ _ s;refine Calls.spliced_cons (Call_ (Yc I hg hm boot_range (QV (zj (ha pos pins s σ H _ I h) λus s1 ⟨vs,H1,I1,r1,q1⟩=>?_) hs rfl)));obtain ⟨i,j,e,⟨q1,q2,q3,q4⟩,q⟩:=q1;cases r1 with
 | nil=>cases e
 | @cons x u xs us r rr=>
  cases rr with
  | cons _ _=>cases x <;> cases e
  | nil=>
   cases x with
   | int k=>
    cases e;obtain ⟨t,rfl⟩:=r;exact call_range_1 (Calls.spliced_nil (zEu hcalm I1 q1 q2 q3 q4 q))
   | _=>cases e
theorem zDF {a b:Expr} {ta:TA} {p pos p' pos':Pos} (hcalm:X.calm=true) (hg:Gl X "range") (hm:X.mg "range"=none) (hg':Gl X "list") (hm':X.mg "list"=none) (ha:PA X [a,b] ta)
  (hs:starEach [a,b] X.env=[(false,eval a X.env),(false,eval b X.env)]:=by rfl) (hs2:starEach [b] X.env=[(false,eval b X.env)]:=by rfl)
  (hs':starEach [.Call (.Name "range" p) [a,b] [] pos] X.env=[(false,eval (.Call (.Name "range" p) [a,b] [] pos) X.env)]:=by rfl):
  PE X (.Call (.Name "list" p') [.Call (.Name "range" p) [a,b] [] pos] [] pos') (zMJ ta rg2):=by
 intro pins s σ H Q I h;refine Call_ (Yc I hg' hm' boot_list (QV ?_ hs' rfl));rw [hs'];show wpAny _ _ (spliced ((false,eval (.Call (.Name "range" p) [a,b] [] pos) X.env)::[])) _ _ s;refine Calls.spliced_cons (Call_ (Yc I hg hm boot_range (QV (zj (ha pos pins s σ H _ I h) λus s1 ⟨vs,H1,I1,r1,q1⟩=>?_) (by rw [hs,hs2]) (by rw [hs2]; rfl))));obtain ⟨i,j,e,⟨q1,q2,q3,q4⟩,q⟩:=q1;cases r1 with
 | nil=>cases e
 | @cons x u xs us r rr=>
  cases rr with
  | nil=>cases x <;> cases e
  | @cons y u' ys us' r' rr'=>
   cases rr' with
   | cons _ _=>cases x <;> cases y <;> cases e
   | nil=>
    cases x with
    | int k=>
     cases y with
     | int k'=>
      cases e;obtain ⟨t,rfl⟩:=r;obtain ⟨t',rfl⟩:=r';exact call_range_2 (Calls.spliced_nil (zEu hcalm I1 q1 q2 q3 q4 q))
     | _=>cases e
    | _=>cases e
theorem JY:∀{ns:List Int} {us:List Value},zi (ns.map V.int) us->IntsAre us ns
 | [],_, .nil=> .nil
 | n::r,_, .cons h t=>by obtain ⟨k,rfl⟩:=h; exact .cons n k (JY t)
end
section
variable {X:Cx} {pins:List (Addr×Obj)} {σ:St} {H:Hp} {s:Shared} {d:Addr} {kvs:List (ze×V)}
theorem zN.ghost {H':Hp} (I:zN X pins σ H s) (hd:∃o,H d=some o/\(∀xs,o≠ .tup xs)/\(∀ps,o≠ .tbl ps)/\∀y,o≠ .own y) (he:∀b,b≠d->H' b=H b) (hfz:∀o u,X.H₀ d=some (.frz o u)->H' d=some (.frz o u))
  (hn:∃o,H' d=some o/\(∀y,o≠ .own y)/\ZU X.prog X.w H' s.heap d o):zN X pins σ H' s:=by
 obtain ⟨o,ho,n1,n2,n3⟩:=hd;obtain ⟨o',ho',n3',ok'⟩:=hn;have ne:∀b,H b=none->b≠d:=λb hb z=>by rw [z,ho] at hb; cases hb
 refine ⟨I.ok,I.os,I.bare,⟨I.base.keep,I.base.slot,λb ob e n hx=>?_,I.base.there,λb xs e=>?_,λb ob u e=>?_,λb ps e=>?_⟩,I.loc,I.cell,?_,λx c e=>?_,λp hp=>?_,λb u e=>?_,I.len⟩
 ·have q:=I.base.free b ob e n hx
  rw [he b (ne b q)]; exact q
 ·have q:=I.base.tups b xs e
  have hb:b≠d:=λz=>by rw [z,ho] at q; exact n1 xs (Option.some.inj q)
  rw [he b hb]; exact q
 ·by_cases hb:b=d
  ·rw [hb] at e ⊢; exact hfz ob u e
  ·rw [he b hb]; exact I.base.frzs b ob u e
 ·obtain ⟨m,q⟩:=I.base.tbls b ps e
  have hb:b≠d:=λz=>by rw [z,ho] at q; exact n2 _ (Option.some.inj q)
  exact ⟨m,by rw [he b hb]; exact q⟩
 ·rw [he _ (ne _ I.free)]; exact I.free
 ·rw [he c (ne c (I.freeC x c e))]; exact I.freeC x c e
 ·obtain ⟨q1,q2,q3⟩:=I.pin p hp
  exact ⟨q1,by rw [he _ (ne _ q2)]; exact q2,q3⟩
 ·by_cases hb:b=d
  ·subst hb
   rw [ho'] at e;cases e;exact ok'
  ·rw [he b hb] at e
   refine (I.hok b u e).stay (λc w _ q=>q) (λc q=>?_) λc xs q=>?_
   ·have hc:c≠d:=λz=>by rw [z,ho] at q; exact n3 _ (Option.some.inj q)
    rw [he c hc]; exact q
   ·have hc:c≠d:=λz=>by rw [z,ho] at q; exact n1 _ (Option.some.inj q)
    rw [he c hc]; exact q
theorem zN.hold (I:zN X pins σ H s) (h:H d=some (.dK kvs)):∃o,s.heap.get? d=some o/\zN X pins σ (upd H d (.frz o (.dK kvs))) s:=by
 have ok:ZU X.prog X.w H s.heap d (.dK kvs):=I.hok d _ h;obtain ⟨z,y,vs,r,o,es,ep,e,c⟩:=id ok;refine ⟨o,e,I.ghost (d:=d) ⟨_,h,(λ_ z=>nomatch z),(λ_ z=>nomatch z),(λ_ z=>nomatch z)⟩ (λb hb=>zI hb) (λo' u q=>?_) ⟨_,zD,(λ_ z=>nomatch z),e,⟨z,y,vs,r,o,es,ep,e,c⟩⟩⟩;have:=I.base.frzs d o' u q;rw [h] at this; cases this
end
def Itd (d:Addr) (o:Obj) (kvs:List (ze×V)):It:=
 ⟨λi H=>H d=some (.frz o (.dK kvs))/\i<kvs.length,λi H x H'=>H'=H/\∃k,(kvs.map (·.1))[i]?=some k/\x=kV k,λi H=>H d=some (.frz o (.dK kvs))/\kvs.length≤i⟩
theorem zDl {k:ze} {u:Value} (h:Jl k u=true):zn (kV k) u:=by
 rcases Z6 h with ⟨i,t,rfl,rfl⟩ | ⟨x,t,rfl,rfl⟩
 ·exact ⟨t,rfl⟩
 ·exact ⟨t,rfl⟩
theorem KV.get {κ:Type}:∀{kvs:List (κ×V)} {vs:List (κ×Value)} {i:Nat},KV kvs vs->i<kvs.length->∃k v,vs[i]?=some (k,v)/\(kvs.map (·.1))[i]?=some k
 | _,_,_, .nil,h=>absurd h (XG _)
 | (a,b)::_,(c,e)::_,0, .cons r _,_=>⟨c,e,rfl,congrArg some (show a=c from r.1)⟩
 | _::_,_::_,i+1, .cons _ t,h=>by
  obtain ⟨k,v,h1,h2⟩:=KV.get (i:=i) t (by simpa using h);exact ⟨k,v,by simpa using h1,by simpa using h2⟩
theorem KV.len {κ:Type} {kvs:List (κ×V)} {vs:List (κ×Value)} (r:KV kvs vs):kvs.length=vs.length:=Paired.length r
theorem zFM {P:Program} {w:World} {H:Hp} {h:Heap} {d:Addr} {o:Obj} {kvs:List (ze×V)} {es0:Array DictEntry} {ep:Nat} (ok:ZU P w H h d (.frz o (.dK kvs))) (hd:o.data= .dict es0 ep):
  (d==sysModules)=false/\∃vs,KV kvs vs/\h.DictAt (ZV P w) d vs ep:=by
 obtain ⟨eo,z,y,vs,r,ob,es,ep',e,c1,c2,c3⟩:=ok;rw [eo] at e; cases e;rw [hd] at c2;cases c2;exact ⟨y,vs,r,o,es0,eo,c1,hd,c3⟩
theorem zJk {P:Program} {w:World} {K:PySem.W.Frag} {tg:Expr} (d it:Addr) {o:Obj} {kvs:List (ze×V)} {es0:Array DictEntry} {ep:Nat} (hd:o.data= .dict es0 ep):zAa P w K tg (Itd d o kvs) [it] it (λi h=>h.IsKeyIter it d i kvs.length ep) where
 mem:=by simp
 obj:=λi h st b hb=>by
  have e:b=it:=by simpa using hb
  subst e;obtain ⟨o,e,c,d⟩:=st;exact ⟨o,e,λv z=>by rw [d] at z; cases z⟩
 keep:=λi h h' st k=>by
  obtain ⟨o,e,r⟩:=st;exact ⟨o,k it (by simp) o e,r⟩
 item:=by
  intro X hP hw hK hc i pins s σ H E I hf st hg;subst hP hw hK;obtain ⟨hq,hx⟩:=hg;obtain ⟨_,vs,rv,hat⟩:=zFM (I.hok d _ hq) hd;obtain ⟨k,v,hv,hk⟩:=rv.get hx;obtain ⟨f0,f1,f2,f3,f4,f5⟩:=hf it (by simp);rw [rv.len] at st;refine wpAny_pyNext_dict_item st hat hv λkey h' hkey st' sb=>?_
  have I1:zN X pins σ H {s with heap:=h'}:=I.turned (t':=s.toks) (λb o hb e=>(sb.2 b hb).trans e) f0 f1 f3 f4 f5;obtain ⟨ob,e,c,dd⟩:=id st';rw [<-rv.len] at st';exact ⟨key,rfl,zCV (s:={s with heap:=h'}) e c dd (by decide) ⟨kV k,H,I1,zDl hkey,⟨rfl,k,hk,rfl⟩,st',λb hb=>(hf b hb).1⟩⟩
 done:=by
  intro X hP hw hK hc i pins s σ H E I hf st hg;subst hP hw hK;obtain ⟨hq,hx⟩:=hg;obtain ⟨_,vs,rv,hat⟩:=zFM (I.hok d _ hq) hd;obtain ⟨f0,f1,f2,f3,f4,f5⟩:=hf it (by simp);have hl:=rv.len;rw [hl] at st;exact wpAny_pyNext_dict_end (I.ok.hd hc) st hat (List.getElem?_eq_none (by omega)) λh' eb=>⟨rfl,I.turned (t':=s.toks) (λb o hb e=>eb b o hb e) f0 f1 f3 f4 f5⟩
 self:=λ_ _ _ _ _ st h=>by
  obtain ⟨o,e,c,dd⟩:=id st;exact wpAny_pyIter_keyiter st h
section
variable {X:Cx} {tg:Expr}
def zRH (tl:TE):TI:=λσ H R=>tl σ H λx H1=>∃d o kvs,x= .ref d/\H1 d=some (.frz o (.dK kvs))/\R (Itd d o kvs) H1
theorem zGR {l:Expr} {tl:TE} (hl:PE X l tl):PI X tg l (zRH tl):=by
 intro pins s σ H R I h;refine zj (hl pins s σ H _ I h) λv s1 ⟨x,H1,I1,r1,q1⟩=>?_
 obtain ⟨d,o,kvs,e,hq,q⟩:=q1;subst e;cases r1;obtain ⟨eo,z,y,vs,rr,ob,es,ep,e,c1,c2,c3⟩:=I1.hok d _ hq;rw [eo] at e; cases e;refine wpAny_pyIter_dict (knd:=ZV X.prog X.w) (kvs:=vs) (ep:=ep) y ⟨o,es,eo,c1,c2,c3⟩ ?_;refine ⟨s1.heap.objs.size,[s1.heap.objs.size],_,_,H1,rfl,I1.kept (t':=s1.toks) λb o e=>Heap.get?_push_of_some _ e,zJk d _ c2,⟨_,Heap.get?_push_size _ rfl,rfl,by rw [KV.len rr]; rfl⟩,λb hb=>?_,q⟩;have e:b=s1.heap.objs.size:=by simpa using hb
 subst e;exact I1.fpOk (qE _) (I1.hok.fresh (qE _))
theorem jv (hcalm:X.calm=true):yS X (.builtin "all") (λvs H Q=>∃(p:Addr) (bs:List Bool),vs=[.ref p]/\zQ X.K H p (bs.map V.bl)/\Q (.bl (bs.all id)) H):=by
 intro pins s σ H xs us Q I r h;obtain ⟨p,bs,rfl,hq,q⟩:=h;obtain ⟨u,rfl,ru⟩:=r.one;cases ru;obtain ⟨its,rv,pl,hz⟩:=I.list hq;have hlt:p<s.heap.objs.size:=by obtain ⟨o,e,_⟩:=pl.isList; exact Heap.lt_size e
 refine call_all_walk (wpAny_pyIter_list pl.isList ?_);have hl:=rv.length;rw [qA] at hl;refine ⟨s.heap.objs.size,_,_,its.toArray.size,_,_,λi=>bs.getD i false,rfl,Walks.list (A:=X.A.in1) (I.ok.hd hcalm) s.heap.objs.size p (qT hlt) its.toArray,⟨⟨_,Heap.get?_push_size _ rfl,rfl,rfl⟩,pl.isList.at λo e=>Heap.get?_push_of_some _ e⟩,?_,λh' tk hk=>?_⟩
 ·intro i v s' Q' E' hP hQ
  have hv:its[i]?=some v:=by simpa using hP
  have hi:i<bs.length:=by rw [hl]; exact (qZ.mp hv).1
  obtain ⟨u,hu,ru⟩:=rv.get (i:=i) (x:=V.bl bs[i]) (by rw [qR,qB hi]; rfl);rw [hv] at hu;cases hu;have eb:v=Value.bool bs[i]:=ru;subst eb;have eg:bs.getD i false=bs[i]:=by simp [List.getD,hi]
  refine wpAny_truthy_bool ?_;rw [<-eg]; exact hQ
 ·have I1:zN X pins σ H {s with heap:=h',toks:=tk}:=I.kept λb o e=>hk b o (by simp; exact qT (Heap.lt_size e)) (Heap.get?_push_of_some _ e)
  have e:(List.range its.toArray.size).all (λi=>bs.getD i false)=bs.all id:=by
   have e1:its.toArray.size=bs.length:=by simpa using hl.symm
   rw [e1,QY,QM,QM];constructor
   ·intro h x hx
    obtain ⟨i,hi,rfl⟩:=List.mem_iff_getElem.mp hx;have:=h i (QP.mpr hi)
    simpa [List.getD,hi] using this
   ·intro h i hi
    have hi':=QP.mp hi;have:=h bs[i] (QF hi')
    simpa [List.getD,hi'] using this
  rw [e];exact ⟨.bl _,H,I1,rfl,q⟩
end
end L2
namespace L2
open PySem PySem.Spec PyProof.Rows
def zLr (osc:Scope) (N xs:List Str) (sc:Scope):Bool:=
 (sc.kind== .function)&&sc.names.all (λy=>y.2 != .cell)&&sc.names.all (λy=>y.2 != .local||(sc.names.lookup y.1==some .local))&&sc.names.all (λy=>y.2 != .local||(xs.contains y.1||y.1==(".0":Str)))&&
  sc.names.all (λy=>y.2 != .free||(osc.names.lookup y.1==some .cell||osc.names.lookup y.1==some .free))&&N.all (λy=>(sc.names.lookup (y++("#":Str))).isNone)&& !N.contains (".0":Str)
theorem ZY {X:Cx} {xs:List Str} {sc:Scope} (osc:Scope) (N:List Str) (hs:X.env.scope=osc) (hN:X.N=N) (h:zLr osc N xs sc=true):Z1 X xs sc:=by
 unfold zLr at h;simp only [qM,QM,Bool.or_eq_true,QQ,bne_iff_ne,beq_iff_eq,qX] at h;obtain ⟨⟨⟨⟨⟨⟨h1,h2⟩,h3⟩,h4⟩,h5⟩,h6⟩,h7⟩:=h;refine ⟨h1,h2,λy hy e=>?_,λy hy e=>?_,λy hy e=>?_,λy hy=>?_,?_⟩
 ·exact (h3 y hy).resolve_left λz=>z e
 ·exact (h4 y hy).resolve_left λz=>z e
 ·have z:=(h5 y hy).resolve_left λz=>z e
  rw [<-hs] at z;exact z
 ·rw [hN] at hy
  exact Option.isNone_iff_eq_none.mp (h6 y hy)
 ·rw [hN]
  intro z;rw [qX.mpr z] at h7;cases h7
def zBE (t:TE) (σ:St) (H:Hp) (v:V):Prop:=∀P:VK,(∀H2,zC H H2->P v H2)->t σ H P
def zAK (t:TT) (σ:St) (H:Hp) (b:Bool):Prop:=∀P:Bool->Hp->Prop,(∀H2,zC H H2->P b H2)->t σ H P
theorem zC.rfl' {H:Hp}:zC H H:=λ_ _ h=>h
theorem zC.new {H:Hp} {p:Addr} (h:H p=none) (o:HO):zC H (upd H p o):=λb u q=>by rw [zI (zJ q h)]; exact q
theorem Z0 {σ:St} {H:Hp}:zAK zBO σ H true:=λ_ h=>h H zC.rfl'
theorem zDq {J:It} {n:Nat} {tc:TT} {te:TE} {D:Addr} {Q:Hp->Prop} {σ:St} {H1:Hp} (item:Nat->V) (c:Nat->Bool) (v:Nat->V) (hD:H1 D=none) (hn:n≤1000)
  (hgo:∀i H',zC H1 H'->i<n->J.go i H') (hyl:∀i H' x H2,zC H1 H'->i<n->J.yld i H' x H2->H2=H'/\x=item i) (hst:∀H',zC H1 H'->J.stop n H')
  (ht:∀i H',i<n->zC H1 H'->zAK tc (some (item i)::σ) H' (c i)) (he:∀i H',i<n->c i=true->zC H1 H'->zBE te (some (item i)::σ) H' (v i))
  (hq:∀H',zC H1 H'->H' D=some (.lst (((List.range n).filter c).map v))->Q H'):YN J (Zi 0) tc te D Q (none::σ) (upd H1 D (.lst [])):=by
 refine ⟨λi m σ' H'=>∃x,σ'=x::σ/\m=n - i/\i≤n/\zC H1 H'/\H' D=some (.lst (((List.range i).filter c).map v)),⟨n,none,rfl,rfl,QG _,zC.new hD _,zD⟩,?_⟩;rintro i m σ' H' ⟨x,rfl,rfl,hi,g,hl⟩;by_cases hlt:i<n
 ·refine .inr ⟨hgo i H' g hlt,λσ2 H2=>∃x,σ2=x::σ/\zC H1 H2/\H2 D=some (.lst (((List.range (i+1)).filter c).map v)),?_,λx' H2 y=>?_⟩
  ·rintro σ2 H2 ⟨x,rfl,g2,l2⟩
   exact ⟨n - (i+1),by omega,x,rfl,rfl,hlt,g2,l2⟩
  ·obtain ⟨rfl,rfl⟩:=hyl i H' x' H2 g hlt y
   show tc (some (item i)::σ) H2 _;refine ht i H2 hlt g _ λH3 g3=>?_
   have hr:(List.range (i+1)).filter c=(List.range i).filter c++(if c i=true then [i] else []):=by
    rw [List.range_succ,xV,QU,List.filter_nil]
   refine zq (λhc=>?_) (λhc=>?_)
   ·refine he i H3 hlt hc (g.trans g3) _ λH4 g4=>?_
    have l4:=g4 _ _ (g3 _ _ hl);refine ⟨_,l4,?_,some (item i),rfl,λb o hb=>?_,?_⟩
    ·rw [qA]
     have:=QI c (List.range i);rw [xX] at this;exact ZW (by omega)
    ·have hne:b≠D:=λe=>by rw [e,hD] at hb; cases hb
     rw [zI hne];exact g4 _ _ (g3 _ _ (g _ _ hb))
    ·rw [zD,hr,if_pos hc,qS]
     rfl
   ·refine ⟨some (item i),rfl,g.trans g3,?_⟩
    rw [hr,if_neg hc,xB];exact g3 _ _ hl
 ·have e:i=n:=by omega
  subst e;exact .inl ⟨hst H' g,hq H' g hl⟩
theorem YA {α:Type} (c:α->Bool) (d:α):∀(xs:List α),((List.range xs.length).filter λi=>c (xs.getD i d)).map (λi=>xs.getD i d)=xs.filter c
 | []=>rfl
 | x::xs=>by
  have ih:=YA c d xs;rw [qL,List.range_succ_eq_map,QU];have e1:(x::xs).getD 0 d=x:=rfl;rw [e1];have e2:(List.map Nat.succ (List.range xs.length)).filter (λi=>c ((x::xs).getD i d))=(((List.range xs.length).filter λi=>c (xs.getD i d)).map Nat.succ):=by
   rw [List.filter_map];rfl
  by_cases hc:c x=true
  ·rw [if_pos hc,QU,if_pos hc,qQ,e2,qU,<-ih]
   rfl
  ·rw [if_neg hc,QU,if_neg hc,e2,qU,<-ih]
   rfl
theorem yM {K:PySem.W.Frag} {a:Addr} {xs:List V} {tc:TT} {te:TE} {D:Addr} {Q:Hp->Prop} {σ:St} {H1:Hp} (c:Nat->Bool) (v:Nat->V) (hS:zQ K H1 a xs) (hD:H1 D=none) (hn:xs.length≤1000)
  (ht:∀i H',i<xs.length->zC H1 H'->zAK tc (some (xs.getD i .non)::σ) H' (c i)) (he:∀i H',i<xs.length->c i=true->zC H1 H'->zBE te (some (xs.getD i .non)::σ) H' (v i))
  (hq:∀H',zC H1 H'->H' D=some (.lst (((List.range xs.length).filter c).map v))->Q H'):YN (Itl K a) (Zi 0) tc te D Q (none::σ) (upd H1 D (.lst [])):=by
 refine zDq (λi=>xs.getD i .non) c v hD hn (λi H' g h=>⟨xs,xs[i],g.seq hS,qB h⟩) (λi H' x H2 g h y=>⟨y.1,?_⟩) (λH' g=>⟨xs,g.seq hS,qE _⟩) ht he hq;have:=y.2 xs (g.seq hS);rw [qB h] at this;rw [qC,qB h];exact (Option.some.inj this).symm
theorem jx {c:TT} {tb:TS} {D:Ym} {σ:St} {H:Hp} (Pv:St->Hp->Prop) (μ:St->Hp->Nat) (h0:Pv σ H)
  (hs:∀σ H,Pv σ H->c σ H λb H1=>if b=true then ∃N:St->Hp->Prop,(∀σ' H',N σ' H'->∃m',m'<μ σ H/\m'=μ σ' H'/\Pv σ' H')/\tb {D with nx:=N,ct:=N,bk:=D.nx} σ H1 else D.nx σ H1):zJj c tb D σ H:=by
 refine ⟨λm σ H=>m=μ σ H/\Pv σ H,⟨_,rfl,h0⟩,?_⟩;rintro m σ H ⟨rfl,p⟩;exact hs σ H p
theorem J7 {tb:TS} {D:Ym} {σ:St} {H H1:Hp} {Pv:St->Hp->Prop} {μ:St->Hp->Nat} (h:tb {D with nx:=λσ' H'=>Pv σ' H'/\μ σ' H'<μ σ H,ct:=λσ' H'=>Pv σ' H'/\μ σ' H'<μ σ H,bk:=D.nx} σ H1):
  ∃N:St->Hp->Prop,(∀σ' H',N σ' H'->∃m',m'<μ σ H/\m'=μ σ' H'/\Pv σ' H')/\tb {D with nx:=N,ct:=N,bk:=D.nx} σ H1:=⟨_,λ_ _ h=>⟨_,h.2,rfl,h.1⟩,h⟩
end L2
namespace L2
open PySem PySem.Spec PyProof.Rows
structure yv (K:PySem.W.Frag) (w:World) (d:Addr) (kvs:List (Str×Tok×Value)):Prop where
 lo:(d==sysModules)=false
 nd:(kvs.map (·.1)).Nodup
 at':∃n,K.lookup d=some {cls:= .type "dict",data:= .dict (kvs.map λe=>({hash:=PyData.keyHash w.params e.1,key:= .str e.1 e.2.1,val:=e.2.2}:DictEntry)).toArray n}
def ZN (kvs:List (Str×Tok×Value)):List (ze×Value):=kvs.map λe=>(Sum.inr e.1,e.2.2)
theorem yv.dict {P:Program} {K:PySem.W.Frag} {w:World} {d:Addr} {kvs:List (Str×Tok×Value)} {h:Heap} (D:yv K w d kvs) (X:K.In h):h.DictOf (ZV P w) d (ZN kvs):=by
 obtain ⟨n,e⟩:=D.at';refine ⟨_,_,n,X _ _ e,⟨rfl,rfl,rfl⟩,rfl,λx hx=>?_,?_,?_⟩
 ·have hx':x∈kvs.map λe=>({hash:=PyData.keyHash w.params e.1,key:= .str e.1 e.2.1,val:=e.2.2}:DictEntry):=by simpa using hx
  obtain ⟨y,_,rfl⟩:=qY.mp hx';exact ⟨Sum.inr y.1,Jt P w y.1 y.2.1,rfl⟩
 ·have key:∀l:List (Str×Tok×Value),Pairs (ZV P w) (l.map λe=>({hash:=PyData.keyHash w.params e.1,key:= .str e.1 e.2.1,val:=e.2.2}:DictEntry)) (ZN l):=by
   intro l
   induction l with
   | nil=>exact .nil
   | cons x r ih=>exact .cons (Jt P w x.1 x.2.1) rfl ih
  exact key kvs
 ·have e2:(ZN kvs).map (·.1)=(kvs.map (·.1)).map Sum.inr:=by
   unfold ZN;rw [qU,qU];rfl
  rw [e2];have key:∀l:List Str,l.Nodup->(l.map (Sum.inr:Str->ze)).Nodup:=by
   intro l
   induction l with
   | nil=>intro _; exact XE
   | cons x r ih=>
    intro h;rw [xF] at h;rw [qQ,xF];refine ⟨λz=>?_,ih h.2⟩;obtain ⟨y,hy,e⟩:=qY.mp z;cases e;exact h.1 hy
  exact key _ D.nd
section
variable {X:Cx} {d:Addr} {kvs:List (Str×Tok×Value)} {o i:Expr} {td ty:TE} {pos:Pos}
def zQz (d:Addr) (kvs:List (Str×Tok×Value)) (td ty:TE):TE:=λσ H Q=>td σ H λx H1=>ty σ H1 λy H2=>∃z w v,x= .ref d/\y= .str z/\valueAt (ZN kvs) (Sum.inr z)=some w/\zn v w/\Q v H2
def zNh (d:Addr) (kvs:List (Str×Tok×Value)) (ty td:TE):TE:=λσ H Q=>ty σ H λy H1=>td σ H1 λx H2=>∃z,x= .ref d/\y= .str z/\Q (.bl (!(valueAt (ZN kvs) (Sum.inr z)).isSome)) H2
theorem zDQ (D:yv X.K X.w d kvs) (ho:PE X o td) (hi:PE X i ty) (hs:zLk i):PE X (.Subscript o i pos) (zQz d kvs td ty):=by
 intro pins s σ H Q I h;refine zGT PySem.F.slot_dict_getitem.lookup hs (zj (ho pins s σ H _ I h) λu s1 ⟨x,H1,I1,rx,q1⟩=>zj (hi pins s1 σ H1 _ I1 q1) λiv s2 ⟨y,H2,I2,ry,z,w',v,ex,ey,hv,rv,q2⟩=>?_);subst ex;subst ey;cases rx;have dd:=D.dict (P:=X.prog) I2.kIn;exact ⟨dd.typeIs,wpAny_getItem_of (knd:=ZV X.prog X.w) (JB (k:=Sum.inr z) ry) dd.mapOf hv ⟨v,H2,I2.tok _,rv,q2⟩⟩
theorem zJe (D:yv X.K X.w d kvs) (hi:PE X i ty) (ho:PE X o td):PC X .NotIn i o (zNh d kvs ty td):=by
 intro pins s σ H Q I h;refine zj (hi pins s σ H _ I h) λiv s1 ⟨y,H1,I1,ry,q1⟩=>zj (ho pins s1 σ H1 _ I1 q1) λu s2 ⟨x,H2,I2,rx,z,ex,ey,q2⟩=>?_
 subst ex;subst ey;cases rx;have dd:=D.dict (P:=X.prog) I2.kIn;exact wpAny_notIn_of (knd:=ZV X.prog X.w) (JB (k:=Sum.inr z) ry) D.lo dd.mapOf ⟨.bl _,H2,I2.tok _,rfl,q2⟩
end
theorem JI (xs:List Int) {i:Nat} (h:i<xs.length):(xs.map V.int).getD i .non= .int (xs.getD i 0):=by
 rw [qC,qR,qB h,qC,qB h];rfl
end L2
namespace L2
open PySem PySem.Spec PyProof.Rows
section
variable {X:Cx} (K:PySem.W.Frag)
theorem zBr (h:X.K=K:=by rfl):IxR X (zOa K):=h▸ZE
theorem zGO (h:X.K=K:=by rfl):IxR X (zQL K):=h▸Z3
end
end L2
namespace L2
open PySem PySem.Spec PyProof.Rows
section
variable {X:Cx}
theorem zFJ (K:PySem.W.Frag) {o e:Expr} {es:List Expr} {to:TE} {t:TA} {name:Str} {apos cpos:Pos} {T id:String} {r:V->List V->Hp->VK->Prop} (pa:PlainAttrs T) (slot:Slot T name id) (hty:typeOf (.builtin id)=pure (.type "method_descriptor")) (hm:MtR X id r) (ho:PE X o to) (ha:PA X (e::es) t)
  (h:X.K=K:=by rfl) (hbase:attributeBase o name X.env (eval o X.env)=eval o X.env:=by rfl)
  (hfew:((backTo cpos (starEach (e::es) X.env)).all (λx=> !x.1)&&(backToKw cpos (keywordEach [] X.env)).all (λx=>x.1.isSome)
   &&decide ((e::es).length+([]:List Keyword).length+(if ([]:List Keyword).isEmpty then 0 else 1)<30))=true:=by rfl)
  (hline:(apos.endLine==cpos.line)=true:=by rfl) (hs:starEach (e::es) X.env=(false,eval e X.env)::starEach es X.env:=by rfl) (hplain:(backTo cpos (starEach es X.env)).any (·.1)=false:=by rfl):
  PE X (.Call (.Attribute o name apos) (e::es) [] cpos) (tBM K T r to t):=by
 subst h;exact yB pa slot hty hm ho ha hbase hfew hline hs hplain
end
def Ex (S:Addr->Prop) (H H':Hp):Prop:=∀b o,¬S b->H b=some o->H' b=some o
theorem Ex.refl {S:Addr->Prop} {H:Hp}:Ex S H H:=λ_ _ _ h=>h
theorem Ex.trans {S:Addr->Prop} {H H1 H2:Hp} (a:Ex S H H1) (b:Ex S H1 H2):Ex S H H2:=λc o n h=>b c o n (a c o n h)
theorem Ex.same {S:Addr->Prop} {H H1:Hp} (a:zC H H1):Ex S H H1:=λc o _ h=>a c o h
theorem Ex.put {S:Addr->Prop} {H:Hp} {p:Addr} (o:HO) (hp:S p):Ex S H (upd H p o):=λc o' n h=>by
 have:c≠p:=λe=>n (e▸hp)
 rw [zI this]; exact h
theorem Ex.new {S:Addr->Prop} {H:Hp} {p:Addr} (o:HO) (hp:H p=none):Ex S H (upd H p o):=Ex.same (zC.new hp o)
theorem Ex.wide {S S':Addr->Prop} {H H1:Hp} (a:Ex S H H1) (h:∀b,S b->S' b):Ex S' H H1:=λc o n e=>a c o (λz=>n (h c z)) e
theorem zKW (xs:List Int) {r:Int} (h0:0≤r) (h1:r<(xs.length:Nat)):∃v,YB (xs.map V.int) r=some (.int v)/\v∈xs:=by
 have hj:r.toNat<xs.length:=by omega
 have e:r=((r.toNat:Nat):Int):=by omega
 refine ⟨xs[r.toNat],?_,QF hj⟩;have q:YB (xs.map V.int) ((r.toNat:Nat):Int)=some (.int xs[r.toNat]):=Z2 (by rw [qR,qB hj] <;> rfl);rw [<-e] at q;exact q
section
variable {X:Cx}
end
end L2
namespace L2
open PySem PySem.Spec PyProof.Rows
theorem zDI (x:Int):∀xs:List Int,inV (.int x) (xs.map V.int)=xs.contains x
 | []=>rfl
 | y::r=>by
  have ih:=zDI x r;unfold inV at ih ⊢;rw [qQ,XI,ih,List.contains_cons];have e:eqV (.int y) (.int x)=(x==y):=by
   show (y==x)=(x==y);exact QY.mpr ⟨λh=>beq_iff_eq.mpr (beq_iff_eq.mp h).symm,λh=>beq_iff_eq.mpr (beq_iff_eq.mp h).symm⟩
  rw [e]
theorem zAz:∀xs:List Int,(xs.map V.int).all jq=true
 | []=>rfl
 | _::r=>by rw [qQ,List.all_cons,zAz r]; rfl
section
variable {X:Cx} (K:PySem.W.Frag)
def zPL (K:PySem.W.Frag) (neg:Bool):R2:=λx y H Q=>∃(p:Addr) (i:Int) (xs:List Int),x= .int i/\y= .ref p/\zQ K H p (xs.map V.int)/\Q (.bl (if neg then !xs.contains i else xs.contains i)) H
theorem J3 (h:X.K=K:=by rfl):yN X (compareOp .In) (zPL K false):=by
 intro pins s σ H x y v u Q I rx ry ⟨p,i,xs,e1,e2,hs,q⟩;subst e1 e2;refine zDp pins s σ H _ _ v u Q I rx ry ⟨p,xs.map V.int,rfl, .inl (h▸hs),rfl,zAz xs,?_⟩;rw [zDI];exact q
theorem zAu (h:X.K=K:=by rfl):yN X (compareOp .NotIn) (zPL K true):=by
 intro pins s σ H x y v u Q I rx ry ⟨p,i,xs,e1,e2,hs,q⟩;subst e1 e2;refine zEg pins s σ H _ _ v u Q I rx ry ⟨p,xs.map V.int,rfl, .inl (h▸hs),rfl,zAz xs,?_⟩;rw [zDI];exact q
end
end L2
namespace L2
open PySem PySem.Spec PyProof.Rows
def Ite (a:Addr):It:=
 ⟨λi H=>∃xs x,H a=some (.lst xs)/\xs[i]?=some x,λi H x H'=>∃T xs y,H T=none/\H a=some (.lst xs)/\xs[i]?=some y/\x= .ref T/\H'=upd H T (.tup [.int i,y]),λi H=>∃xs,H a=some (.lst xs)/\xs.length≤i⟩
theorem yi {J:It} {n:Nat} {g:TG} {tc:TT} {te:TE} {D:Addr} {Q:Hp->Prop} {σ0:St} {H0:Hp} (W:Nat->St->Hp->Prop) (h0:W 0 σ0 H0)
  (step:∀i σ H,i<n->W i σ H->J.go i H/\∀x H',J.yld i H x H'->g x σ H' λσ2 H2=>tc σ2 H2 λb H3=>
   if b=true then te σ2 H3 λv H4=>∃zs,H4 D=some (.lst zs)/\zs.length<sizeLine/\W (i+1) σ2 (upd H4 D (.lst (zs++[v]))) else W (i+1) σ2 H3)
  (stop:∀σ H,W n σ H->J.stop n H/\Q H):YN J g tc te D Q σ0 H0:=by
 refine ⟨λi m σ H=>m=n - i/\i≤n/\W i σ H,⟨n,rfl,QG _,h0⟩,?_⟩;rintro i m σ H ⟨rfl,hi,w⟩;by_cases hlt:i<n
 ·obtain ⟨hg,hy⟩:=step i σ H hlt w
  exact .inr ⟨hg,W (i+1),λσ' H' w'=>⟨n - (i+1),by omega,rfl,hlt,w'⟩,hy⟩
 ·have e:i=n:=by omega
  subst e;exact .inl (stop σ H w)
theorem zHY {K:PySem.W.Frag} {a:Addr} {xs:List V} {tc:TT} {te:TE} {D:Addr} {Q:Hp->Prop} {σ:St} {H1:Hp} (c:Nat->Bool) (v:Nat->V) (hS:H1 a=some (.lst xs)) (hD:H1 D=none) (hn:xs.length≤1000)
  (ht:∀i H',i<xs.length->zC H1 H'->zAK tc (some (.int (i:Int))::some (xs.getD i .non)::σ) H' (c i)) (he:∀i H',i<xs.length->c i=true->zC H1 H'->zBE te (some (.int (i:Int))::some (xs.getD i .non)::σ) H' (v i))
  (hq:∀H',zC H1 H'->H' D=some (.lst (((List.range xs.length).filter c).map v))->Q H'):YN (Ite a) (zHD K 2 (zCk (Zi 0) (zCk (Zi 1) zLV))) tc te D Q (none::none::σ) (upd H1 D (.lst [])):=by
 refine yi (n:=xs.length) (λi σ' H'=>∃x y,σ'=x::y::σ/\zC H1 H'/\H' D=some (.lst (((List.range i).filter c).map v))) ⟨none,none,rfl,zC.new hD _,zD⟩ ?_ ?_
 ·rintro i σ' H' hi ⟨x,y,rfl,g,hl⟩
  refine ⟨⟨xs,xs[i],g _ _ hS,qB hi⟩,λz H2 hz=>?_⟩;obtain ⟨T,ys,u,hT,hy,hu,rfl,rfl⟩:=hz;rw [g _ _ hS] at hy;cases hy;have eu:xs.getD i .non=u:=by rw [qC,hu]; rfl
  have g2:zC H1 (upd H' T (.tup [.int (i:Int),u])):=λb o hb=>by
   have h1:=g _ _ hb;rw [zI (zJ h1 hT)]; exact h1
  have hl2:(upd H' T (.tup [.int (i:Int),u])) D=some (.lst (((List.range i).filter c).map v)):=by rw [zI (zJ hl hT)]; exact hl
  refine ⟨T,_,rfl,Zd.of zD,rfl,_,_,rfl,_,_,rfl,rfl,?_⟩;show tc (some (.int (i:Int))::some u::σ) _ _;rw [<-eu] at g2 hl2 ⊢;generalize upd H' T (.tup [.int (i:Int),xs.getD i .non])=H3 at g2 hl2 ⊢;refine ht i H3 hi g2 _ λH4 g4=>?_
  have hr:(List.range (i+1)).filter c=(List.range i).filter c++(if c i=true then [i] else []):=by
   rw [List.range_succ,xV,QU,List.filter_nil]
  refine zq (λhc=>?_) (λhc=>?_)
  ·refine he i H4 hi hc (g2.trans g4) _ λH5 g5=>?_
   have l5:=g5 _ _ (g4 _ _ hl2);refine ⟨_,l5,?_,_,_,rfl,λb o hb=>?_,?_⟩
   ·rw [qA]
    have:=QI c (List.range i);rw [xX] at this;exact ZW (by omega)
   ·have hne:b≠D:=λe=>by rw [e,hD] at hb; cases hb
    rw [zI hne];exact g5 _ _ (g4 _ _ (g2 _ _ hb))
   ·rw [zD,hr,if_pos hc,qS]
    rfl
  ·refine ⟨_,_,rfl,g2.trans g4,?_⟩
   rw [hr,if_neg hc,xB];exact g4 _ _ hl2
 ·rintro σ' H' ⟨x,y,rfl,g,hl⟩
  exact ⟨⟨xs,g _ _ hS,qE _⟩,hq H' g hl⟩
theorem Y3 {α:Type} (l:List α):l.filter (λ_=>true)=l:=List.filter_eq_self.mpr λ_ _=>rfl
theorem rgD {α:Type} (xs:List α) (d:α):(List.range xs.length).map (λi=>xs.getD i d)=xs:=by
 have h:=YA (λ_:α=>true) d xs;rw [Y3,Y3] at h;exact h
def zBC (i:Nat) (σ:St):Nat:=match σ[i]? with
 | some (some (.int v))=>v.toNat
 | _=>0
theorem zDZ {n:Nat} (h:n≤2000):n<sizeLine:=by rw [sizeLine_eq]; omega
section
variable {X:Cx} {pins:List (Addr×Obj)} {σ:St} {H:Hp} {s:Shared}
theorem zN.turnedL {h':Heap} {t':Nat} {fp:List Addr} (I:zN X pins σ H s) (k:∀b o,b∉fp->s.heap.get? b=some o->h'.get? b=some o) (hf:∀b∈fp,ja X pins H b):zN X pins σ H {s with heap:=h',toks:=t'}:=by
 have nit:∀b u,H b=some u->b∉fp:=λb u e z=>by rw [(hf b z).1] at e; cases e
 refine I.step (g':=s.gens) (d':=s.drawn) (ch:=fp) (λb hb=>?_) (λb o _ _ hc e _=>k b o hc e) (λb o _ _ hc e _=>⟨o.slots,k b o hc e⟩) (λ_ _ _ _ n=>n)
  (λb o hc e=>⟨o,k b o hc e⟩) (λ_ _ e=>e) (λ_ _ _ e=>e) (λb ps e=>⟨#[],by rw [e]; simp⟩) (λm hm=>?_) (λb u e=>?_) I.bare
 ·obtain ⟨_,f1,_,f3,f4,f5⟩:=hf b hb
  exact ⟨f3,f1,f4,f5⟩
 ·obtain ⟨o,es,ep,ho,r⟩:=hm
  exact ⟨o,es,ep,k _ o (λz=>(hf _ z).2.1 rfl) ho,r⟩
 ·refine (I.hok b u e).stay (λc v hc q=>k c v ?_ q) (λ_ q=>q) λ_ _ q=>q
  rcases hc with z | z
  ·rw [z]; exact nit b u e
  ·exact nit c _ z
end
theorem zJo {P:Program} {w:World} {K:PySem.W.Frag} {es:List Expr} {k:Nat} {pos:Pos} (a e it:Addr) (hei:e≠it):
  zAa P w K (.Tuple es k pos) (Ite a) [e,it] e (λi h=>(∃old,IsEnum h e it ((i:Nat):Int) old)/\h.IsListIter it a i) where
 mem:=by simp
 obj:=λi h st b hb=>by
  obtain ⟨⟨old,he⟩,o,e1,c,d⟩:=st;rcases qG.mp hb with z | z
  ·subst z
   exact ⟨_,he,λv z=>by cases z⟩
  ·have z:b=it:=by simpa using z
   subst z;exact ⟨o,e1,λv z=>by rw [d] at z; cases z⟩
 keep:=λi h h' st k=>⟨let ⟨old,he⟩:=st.1; ⟨old,k e (by simp) _ he⟩,st.2.at λo e=>k it (by simp) o e⟩
 item:=by
  intro X hP hw hK hc i pins s σ H E I hf st hg;subst hP hw hK;obtain ⟨xs,x,hq,hx⟩:=hg;obtain ⟨hz,its,n,r,hl,ea⟩:=I.lstM hq;obtain ⟨u,hu,ru⟩:=r.get hx;obtain ⟨⟨old,he⟩,hit⟩:=st;have hL:s.heap.IsList a its.toArray:=⟨_,ea,rfl,n,rfl⟩;have helt:e<s.heap.objs.size:=Heap.lt_size he;have hilt:it<s.heap.objs.size:=by obtain ⟨_,x,_⟩:=id hit; exact Heap.lt_size x
  have hun:∀b∈[e,it],b<s.heap.objs.size:=λb hb=>by
   rcases qG.mp hb with z | z
   ·rw [z]; exact helt
   ·rw [show b=it by simpa using z]; exact hilt
  refine wpAny_pyNext_enum_item he hit hL (x:=u) (by simpa using hu) hei λh' ho hit' hT hsz hk=>?_
  refine ⟨_,rfl,wpAny_letOwnedTupleGo_enum ho λh2 he2 hs2=>?_⟩
  replace hs2:Heap.SameBut e h' h2:=hs2
  have I1:zN X pins σ (upd H s.heap.objs.size (.tup [.int i,x])) {s with heap:=s.heap.push {cls:= .type "tuple",data:= .seq #[.int i s.toks,u]},toks:=s.toks+1}:=
   I.laid (λb o q=>Heap.get?_push_of_some _ q) (qE _) ⟨by show 2≤sizeLine; decide,[.int i s.toks,u], .cons ⟨_,rfl⟩ (.cons ru .nil),⟨_,Heap.get?_push_size _ rfl,rfl,_,rfl⟩⟩
  have yP:∀b∈[e,it],upd H s.heap.objs.size (.tup [.int i,x]) b=none:=λb hb=>by
   rw [zI (qT (hun b hb))]; exact (hf b hb).1
  have I2:zN X pins σ (upd H s.heap.objs.size (.tup [.int i,x])) {s with heap:=h2,toks:=s.toks+1}:=by
   refine zN.turnedL (s:={s with heap:=s.heap.push {cls:= .type "tuple",data:= .seq #[.int i s.toks,u]},toks:=s.toks+1}) (h':=h2) (t':=s.toks+1) (fp:=[e,it]) I1 (λb o hb q=>?_) (λb hb=>⟨yP b hb,(hf b hb).2⟩);have n1:b≠e:=λz=>hb (by simp [z])
   have n2:b≠it:=λz=>hb (by simp [z])
   refine (hs2.2 b n1).trans ?_;rcases Heap.get?_push_cases q with ⟨eb,eo⟩ | q
   ·rw [eb,eo]; exact hT
   ·exact hk b o n1 n2 q
  refine ⟨.ref s.heap.objs.size,_,I2,rfl,⟨_,xs,x,I.fresh,hq,hx,rfl,rfl⟩,⟨⟨u,?_⟩,?_⟩,yP⟩
  ·have e1:(((i+1:Nat)):Int)=(i:Int)+1:=by simp
   rw [e1]; exact he2
  ·exact hit'.at λo y=>(hs2.2 it hei.symm).trans y
 done:=by
  intro X hP hw hK hc i pins s σ H E I hf st hg;subst hP hw hK;obtain ⟨xs,hq,hx⟩:=hg;obtain ⟨hz,its,n,r,hl,ea⟩:=I.lstM hq;obtain ⟨⟨old,he⟩,hit⟩:=st;have hL:s.heap.IsList a its.toArray:=⟨_,ea,rfl,n,rfl⟩;exact wpAny_pyNext_enum_end (I.ok.hd hc) he hit hL (by simp; omega) λh' eb=>⟨rfl,I.turnedL (t':=s.toks) (fp:=[e,it]) (λb o hb q=>eb b o (λz=>hb (by simp [z])) q) hf⟩
 self:=λ_ _ _ _ _ st h=>let ⟨_,he⟩:=st.1; wpAny_pyIter_enum he h
section
variable {X:Cx}
def zRR (ta:TA):TI:=λσ H R=>ta σ H λvs H1=>∃a xs,vs=[.ref a]/\H1 a=some (.lst xs)/\R (Ite a) H1
theorem zGN (K:PySem.W.Frag) {es:List Expr} {k:Nat} {t:TGs} {n:Nat} {pos:Pos} (hc:X.calm=true) (h:PGs X es t) (hK:X.K=K:=by rfl)
  (hn:(assignEach es X.env).length=n:=by rfl) (hst:(assignEach es X.env).findIdx? (·.1)=none:=by rfl):PG X (.Tuple es k pos) (zHD K n t):=hK▸zFC hc h hn hst
theorem zCt:bootBuiltins "enumerate"=some (.type "enumerate"):=by decide +kernel
theorem zGP {es:List Expr} {k:Nat} {tp:Pos} {a:Expr} {ta:TA} {p pos:Pos} (hg:Gl X "enumerate") (hm:X.mg "enumerate"=none) (ha:PA X [a] ta) (hs:starEach [a] X.env=[(false,eval a X.env)]:=by rfl):
  PI X (.Tuple es k tp) (.Call (.Name "enumerate" p) [a] [] pos) (zRR ta):=by
 intro pins s σ H R I h;refine wpAny_Call_Name_kw (Yc I hg hm zCt ?_ (by decide) (by decide));refine QV (zj (ha pos pins s σ H _ I h) λus s1 ⟨vs,H1,I1,r1,q1⟩=>?_) hs rfl;obtain ⟨a,xs,e,hq,q⟩:=q1;subst e;obtain ⟨u,rfl,ru⟩:=r1.one;cases ru;obtain ⟨hz,its,n,r,hl,ea⟩:=I1.lstM hq;refine call_enumerate_1 ea λh' he hit hsz hk=>?_
 refine wpAny_pyIter_enum he ?_;have I2:zN X pins σ H1 {s1 with heap:=h'}:=I1.kept (t':=s1.toks) hk;refine ⟨s1.heap.objs.size+1,[s1.heap.objs.size+1,s1.heap.objs.size],_,_,H1,rfl,I2,zJo a _ _ (Nat.succ_ne_self _),⟨⟨_,he⟩,hit⟩,λb hb=>?_,q⟩;rcases qG.mp hb with z | z
 ·subst z; exact I1.fpOk (Nat.le_succ _) (I1.hok.fresh (Nat.le_succ _))
 ·have z:b=s1.heap.objs.size:=by simpa using z
  subst z; exact I1.fpOk (qE _) (I1.hok.fresh (qE _))
theorem zDM {e:Expr} {t:TE} (h:PE X e t) (he:∀whole,isTrue e X.env whole=(do let v <-whole; standAt e.pos; holding [v] (truthy v)):=by intro _; rfl):PT X e (λσ H Q=>t σ H λx H1=>∃i,x= .int i/\Q (i !=0) H1):=by
 intro pins s σ H Q I hw;refine isTrue_plain (zj (h pins s σ H _ I hw) λv s1 ⟨x,H1,I1,r1,i,ex,q⟩=>?_) (he _);subst ex;obtain ⟨tk,rfl⟩:=r1;exact PySem.P.truthy_int ⟨H1,I1,q⟩
end
structure zHe (K:PySem.W.Frag) (C:Addr) (mc:Value) (m:Str) (f:Addr):Prop where
 ga:PySem.W.specialIn K (.ref C) "__getattribute__"=some (some (.builtin "type.__getattribute__"))
 rd:PySem.W.readsIn K C mc=true
 at_:PySem.W.findCls K (.ref C) mc m=some (.val (.ref f))
 kp:PySem.W.keepIn K (.ref f)=true
section
variable {X:Cx} {CX:jJ} {k:Nat} {f C:Addr} {mc:Value} {fd:FuncData} {ps:List Str} {sp:Sp} {dvs:List V} {ds:List Value} {E:XK} {x m:Str} {p pos apos:Pos} {e:Expr} {es:List Expr} {t:TA}
theorem zCw {pl:Sem Bool} (B:zHe X.K C mc m f) (F:zH X.prog X.w X.K X.mg X.base CX k f fd ps sp) (hr:Zz k X.A) (hg:Gl X x) (hm:X.mg x=some (.ref C)) (hb:zL X.K fd ps ds) (hd:zi dvs ds) (hx:YF CX X E) (ha:PA X (e::es) t)
  (hdb:(x==("__debug__":Str))=false:=by decide) (hst:starEach (e::es) X.env=(false,eval e X.env)::starEach es X.env:=by rfl) (hpl:(backTo pos (starEach es X.env)).any (·.1)=false:=by rfl)
  (ht:eval (.Call (.Attribute (.Name x p) m apos) (e::es) [] pos) X.env=(do
   let ov <-eval (.Name x p) X.env
   standAt apos.atName
   let (f,first) <-holding [ov] (getMethod ov m pl)
   callWith pos f first (backTo pos (starEach (e::es) X.env)) (backToKw pos (keywordEach [] X.env))):=by rfl):
  PE X (.Call (.Attribute (.Name x p) m apos) (e::es) [] pos) (zHg sp dvs E t):=by
 intro pins s σ H Q I h;refine PySem.W.methodCall_KW (pl:=pl) (zj (zr (v:= .ref C) (pos:=p) hg hm rfl hdb pins s σ H (λv H1=>v= .ref C/\H1=H) I ⟨rfl,rfl⟩) λu s1 ⟨x,H1,I1,rx,ex,eH⟩=>?_) ht;subst ex eH;obtain rfl:u=Value.ref C:=rx;refine PySem.W.method_cls I1.kIn B.ga (PySem.W.cls_value I1.kIn B.rd B.at_ rfl ?_);have I2:zN X pins σ H1 {s1 with toks:=s1.toks+1}:=I1.tok _;refine PySem.W.callWith_K (first:=[]) (h₀:=X.base) I2.ok.mod.kin B.kp (zj (ha pos pins _ σ H1 _ I2 h) λus s2 ⟨vs,H2,I3,r,q2⟩=>⟨I3.kIn,?_⟩) hst hpl;exact JZ F hr hb hd hx I3 r q2
end
end L2
namespace L2
open PySem PySem.Spec PyProof.Rows
section
variable {X:Cx}
theorem zDb (hcalm:X.calm=true):yS X (.builtin "sum") (λvs H Q=>∃(p:Addr) (ns:List Int),vs=[.ref p]/\H p=some (.lst (ns.map V.int))/\Q (.int ns.sum) H):=by
 intro pins s σ H xs us Q I r h;obtain ⟨p,ns,rfl,hq,q⟩:=h;obtain ⟨u,rfl,ru⟩:=r.one;cases ru;obtain ⟨its,rv,pl,hz⟩:=I.list (zQ.of hq);have hi:=JY rv;obtain ⟨ws,e⟩:=hi.allInts.items;have hns:ns=ws.toList.map (·.1):=by rw [<-hi.numsOf,<-nums_intItems,<-e]
 refine sum_intListG (I.ok.hd hcalm) (l:=p) (xs:=ws) (e▸pl.isList) λh' tk t' hk=>⟨.int _,H,I.kept hk,⟨t',rfl⟩,?_⟩
 have es:preSum (numAt ws) ws.size=ns.sum:=by rw [hns,preSum_eq,QO (by simp)]
 rw [es];exact q
end
section
variable {X:Cx}
end
end L2
namespace L2
open PySem PySem.Spec PyProof.Rows
end L2
namespace L2
open PySem PySem.Spec PyProof.Rows
section
variable {X:Cx}
end
end L2
namespace L2
open PySem PySem.Spec PyProof.Rows
mutual
inductive yD (H:Hp):V->PyData->Prop
 | non:yD H .non .none
 | bl (b:Bool):yD H (.bl b) (.bool b)
 | int (i:Int):yD H (.int i) (.int i)
 | str (x:Str):yD H (.str x) (.str x)
 | lst {a:Addr} {xs:List V} {ds:List PyData}:H a=some (.lst xs)->ZK H xs ds->yD H (.ref a) (.list ds)
 | tup {a:Addr} {xs:List V} {ds:List PyData}:H a=some (.tup xs)->ZK H xs ds->yD H (.ref a) (.tuple ds)
 | dct {a:Addr}:H a=some (.dK [])->yD H (.ref a) (.dict [])
inductive ZK (H:Hp):List V->List PyData->Prop
 | nil:ZK H [] []
 | cons {x:V} {d:PyData} {xs:List V} {ds:List PyData}:yD H x d->ZK H xs ds->ZK H (x::xs) (d::ds)
end
mutual
theorem yD.same {H H':Hp} (g:zC H H'):∀{x:V} {d:PyData},yD H x d->yD H' x d
 | _,_, .non=> .non
 | _,_, .bl b=> .bl b
 | _,_, .int i=> .int i
 | _,_, .str x=> .str x
 | _,_, .lst e h=> .lst (g _ _ e) (h.same g)
 | _,_, .tup e h=> .tup (g _ _ e) (h.same g)
 | _,_, .dct e=> .dct (g _ _ e)
theorem ZK.same {H H':Hp} (g:zC H H'):∀{xs:List V} {ds:List PyData},ZK H xs ds->ZK H' xs ds
 | _,_, .nil=> .nil
 | _,_, .cons h t=> .cons (h.same g) (t.same g)
end
theorem ZK.app {H:Hp}:∀{xs ys:List V} {ds es:List PyData},ZK H xs ds->ZK H ys es->ZK H (xs++ys) (ds++es)
 | _,_,_,_, .nil,h=>h
 | _,_,_,_, .cons a t,h=> .cons a (t.app h)
theorem ZK.ints {H:Hp}:∀(ns:List Int),ZK H (ns.map V.int) (ns.map PyData.int)
 | []=> .nil
 | n::r=> .cons (.int n) (ZK.ints r)
section
variable {X:Cx} {pins:List (Addr×Obj)} {σ:St} {H:Hp} {s:Shared}
mutual
theorem yD.reads (I:zN X pins σ H s):∀{x:V} {d:PyData} {u:Value},yD H x d->zn x u->∃as,Reads s.heap u d as
 | _,_,_, .non,r=>by cases r; exact ⟨_, .none⟩
 | _,_,_, .bl b,r=>by cases r; exact ⟨_, .bool b⟩
 | _,_,_, .int i,r=>by obtain ⟨t,rfl⟩:=r; exact ⟨_, .int i t⟩
 | _,_,_, .str x,r=>by obtain ⟨t,rfl⟩:=r; exact ⟨_, .str x t⟩
 | _,_,_, .lst (a:=a) e h,r=>by
  cases r;obtain ⟨_,its,n,rv,_,eo⟩:=I.lstM e;obtain ⟨as,q⟩:=h.reads I rv;exact ⟨_, .list eo rfl rfl (by simpa using q)⟩
 | _,_,_, .tup e h,r=>by
  cases r;obtain ⟨_,its,rv,o,h1,h2,n,h3⟩:=I.hok _ _ e;obtain ⟨as,q⟩:=h.reads I rv;exact ⟨_, .tuple h1 h2 h3 (by simpa using q)⟩
 | _,_,_, .dct e,r=>by
  cases r;obtain ⟨z,y,vs,rv,ob,es,ep,h1,h2,h3,_,h5,_⟩:=I.hok _ _ e;cases rv;have he:es.toList=[]:=by
   cases hh:es.toList with
   | nil=>rfl
   | cons x r=>rw [hh] at h5; cases h5
  exact ⟨_, .dict (kvs:=[]) (as:=[]) (bs:=[]) h1 h2.1 h3 (by rw [he]; exact .nil) (by rw [he]; exact .nil)⟩
theorem ZK.reads (I:zN X pins σ H s):∀{xs:List V} {ds:List PyData} {us:List Value},ZK H xs ds->zi xs us->∃as,ReadsAll s.heap us ds as
 | _,_,_, .nil,r=>by cases r; exact ⟨_, .nil⟩
 | _,_,_, .cons h t,r=>by
  cases r with
  | cons r1 r2=>
   obtain ⟨as,q1⟩:=h.reads I r1;obtain ⟨bs,q2⟩:=t.reads I r2;exact ⟨_, .cons q1 q2⟩
end
def zJl (ds:List PyData):Prop:=∀t∈PyData.shownAll ds,t.length≤sizeLine
mutual
theorem yD.rk (I:zN X pins σ H s):∀{x:V} {d:PyData} {u:Value},yD H x d->zn x u->d.showable=true->d.shown.length≤sizeLine->∃bs,ReadAtMost s.heap d.depth bs/\ReprK X.prog X.w bs s.heap d.depth u d.shown
 | _,_,_, .non,r,_,_=>by
  cases r;rw [PyData.shown_none];exact ⟨[],λ_ h=>(nomatch h),ReprK.of_is ReprIs.none _ _ _⟩
 | _,_,_, .bl b,r,_,_=>by
  cases r;rw [PyData.shown_bool];exact ⟨[],λ_ h=>(nomatch h),ReprK.of_is (ReprIs.bool b) _ _ _⟩
 | _,_,_, .int i,r,hs,_=>by
  obtain ⟨t,rfl⟩:=r;rw [PyData.shown_int];refine ⟨[],λ_ h=>(nomatch h),ReprK.of_is (ReprIs.int t ?_) _ _ _⟩
  simpa [PyData.showable] using hs
 | _,_,_, .str x,r,_,hz=>by
  obtain ⟨t,rfl⟩:=r;rw [PyData.shown_str] at hz ⊢;exact ⟨[],λ_ h=>(nomatch h),ReprK.of_is (ReprIs.str x t hz) _ _ _⟩
 | _,_,_, .lst (a:=a) (ds:=ds) e h,r,hs,hz=>by
  cases r;obtain ⟨_,its,n,rv,_,eo⟩:=I.lstM e;obtain ⟨as,q⟩:=h.reads I rv;have rd:Reads s.heap (.ref a) (.list ds) (a::as):= .list eo rfl rfl (by simpa using q);have hz2:(listText (PyData.shownAll ds)).length≤sizeLine:=by
   rw [PyData.shown] at hz;exact hz
  obtain ⟨bs,hb,hk⟩:=h.rk I rv (by simpa [PyData.showable] using hs) λt ht=>qK (listText_mem_le ht) hz2
  have hlt:PyData.depthAll ds<(PyData.list ds).depth:=by simp only [PyData.depth]; omega
  refine ⟨a::bs,ReadAtMost.cons rd (xK hlt) hb,?_⟩;have hn:=not_mem_of_deeper rd hlt hb;rw [PyData.depth,PyData.shown];cases its with
  | nil=>
   cases q;rw [PyData.shownAll,listText_nil];exact ReprK.listEmpty eo rfl rfl
  | cons y l=>
   refine ReprK.list eo rfl rfl hn ?_ λi z ez=>hk.item i z ?_
   ·have:=hk.length_eq
    simpa using this
   ·simpa using ez
 | _,_,_, .tup (a:=a) (ds:=ds) e h,r,hs,hz=>by
  cases r;obtain ⟨_,its,rv,o,h1,h2,n,h3⟩:=I.hok _ _ e;obtain ⟨as,q⟩:=h.reads I rv;have rd:Reads s.heap (.ref a) (.tuple ds) as:= .tuple h1 h2 h3 (by simpa using q);have hz2:(tupleText (PyData.shownAll ds)).length≤sizeLine:=by
   rw [PyData.shown] at hz;exact hz
  obtain ⟨bs,hb,hk⟩:=h.rk I rv (by simpa [PyData.showable] using hs) λt ht=>qK (tupleText_mem_le ht) hz2
  have hlt:PyData.depthAll ds<(PyData.tuple ds).depth:=by simp only [PyData.depth]; omega
  refine ⟨a::bs,ReadAtMost.cons rd (xK hlt) hb,?_⟩;have hn:=not_mem_of_deeper rd hlt hb;rw [PyData.depth,PyData.shown];exact ReprK.tuple h1 h2 h3 hn (by simpa using hk)
 | _,_,_, .dct (a:=a) e,r,hs,hz=>by
  obtain ⟨as,rd⟩:=(yD.dct e).reads I r;cases r;obtain ⟨z,y,vs,rv,ob,es,ep,h1,h2,h3,_,h5,_⟩:=I.hok _ _ e;cases rv;have he:es.toList=[]:=by
   cases hh:es.toList with
   | nil=>rfl
   | cons x r=>rw [hh] at h5; cases h5
  have hlt:0<(PyData.dict []).depth:=by simp only [PyData.depth]; omega
  refine ⟨[a],ReadAtMost.cons (n:=0) rd (QG _) (λ_ h=>(nomatch h)),?_⟩;rw [PyData.depth,PyData.shown];have hd:=ReprK.dict (prog:=X.prog) (w:=X.w) (as:=[]) (d:=PyData.depthKv []) (ps:=[]) h1 h2.1 h3 y (λh=>(nomatch h)) (by rw [he]; exact .nil)
  simpa [PyData.shownKv] using hd
theorem ZK.rk (I:zN X pins σ H s):∀{xs:List V} {ds:List PyData} {us:List Value},ZK H xs ds->zi xs us->PyData.showableAll ds=true->zJl ds->∃bs,ReadAtMost s.heap (PyData.depthAll ds) bs/\ReprAllK X.prog X.w bs s.heap (PyData.depthAll ds) us (PyData.shownAll ds)
 | _,_,_, .nil,r,_,_=>by
  cases r;rw [PyData.shownAll];exact ⟨[],λ_ h=>(nomatch h), .nil⟩
 | _,_,_, .cons (d:=d) (ds:=ds) h t,r,hs,hz=>by
  cases r with
  | cons r1 r2=>
   have hs':d.showable=true/\PyData.showableAll ds=true:=by simpa [PyData.showableAll] using hs
   have hz':∀t∈d.shown::PyData.shownAll ds,t.length≤sizeLine:=by
    have:=hz;unfold zJl at this;rw [PyData.shownAll] at this;exact this
   obtain ⟨b1,m1,k1⟩:=h.rk I r1 hs'.1 (hz' _ qD);obtain ⟨b2,m2,k2⟩:=t.rk I r2 hs'.2 λt ht=>hz' t (qF _ ht)
   have l1:d.depth≤PyData.depthAll (d::ds):=by simp only [PyData.depthAll]; omega
   have l2:PyData.depthAll ds≤PyData.depthAll (d::ds):=by simp only [PyData.depthAll]; omega
   refine ⟨b1++b2,(m1.mono l1).append (m2.mono l2),?_⟩;rw [PyData.shownAll];exact .cons ((k1.more λb hb=>List.mem_append_left b2 hb).level_le l1) (k2.more_le (λb hb=>qW b1 hb) l2)
end
end
end L2
namespace L2
open PySem PySem.Spec PyProof.Rows
def tyD:PyData->String
 | .none=>"NoneType" | .bool _=>"bool" | .int _=>"int" | .str _=>"str" | .list _=>"list" | .tuple _=>"tuple" | .dict _=>"dict"
theorem yD.ty {K:PySem.W.Frag} {H:Hp} {v:V} {d:PyData} (h:yD H v d):YS K H v (.type (tyD d)):=by
 cases h with
 | non=>exact .non
 | bl b=>exact .bl b
 | int i=>exact .int i
 | str x=>exact .str x
 | lst e _=>exact .lst e
 | tup e _=>exact .tup e
 | dct e=>exact .dK e
def isL:PyData->Bool
 | .list _=>true
 | _=>false
def isT:PyData->Bool
 | .tuple _=>true
 | _=>false
def isI:PyData->Bool
 | .int _=>true
 | .bool _=>true
 | _=>false
def isB:PyData->Bool
 | .bool _=>true
 | _=>false
def isW:PyData->Bool
 | .int _=>true
 | _=>false
theorem zQe (K:PySem.W.Frag) (d:PyData):PySem.W.kitOne K (.type (tyD d)) (.type "list")=some (isL d):=by cases d <;> rfl
theorem zRf (K:PySem.W.Frag) (d:PyData):PySem.W.kitOne K (.type (tyD d)) (.type "tuple")=some (isT d):=by cases d <;> rfl
theorem zQt (K:PySem.W.Frag) (d:PyData):PySem.W.kitOne K (.type (tyD d)) (.type "int")=some (isI d):=by cases d <;> rfl
theorem zRI (K:PySem.W.Frag) (d:PyData):PySem.W.kitOne K (.type (tyD d)) (.type "bool")=some (isB d):=by cases d <;> rfl
def Zh:Int->List PyData->Bool
 | _,[]=>true
 | b, .int n::r=>decide (b<n)&&Zh n r
 | _,_::_=>false
def yp (few:Int):PyData->Bool
 | .list ds=>decide (few≤(ds.length:Int))&&(decide (ds.length≤10)&&Zh (-1) ds)
 | _=>false
def j9:PyData->Bool
 | .tuple [x,y]=>yp 1 x&&yp 0 y
 | _=>false
theorem ZK.len {H:Hp}:∀{xs:List V} {ds:List PyData},ZK H xs ds->xs.length=ds.length
 | _,_, .nil=>rfl
 | _,_, .cons _ h=>by rw [qL,qL,h.len]
theorem ZK.at {H:Hp}:∀{xs:List V} {ds:List PyData} (_:ZK H xs ds) {i:Nat} {x:V},xs[i]?=some x->∃d,ds[i]?=some d/\yD H x d
 | _,_, .nil,i,x,h=>nomatch h
 | _,_, .cons q _,0,x,h=>by cases h; exact ⟨_,rfl,q⟩
 | _,_, .cons _ t,i+1,x,h=>by
  obtain ⟨d,e,q⟩:=t.at (i:=i) (x:=x) h;exact ⟨d,e,q⟩
section
variable {X:Cx}
end
end L2
namespace L2
open PySem PySem.Spec PyProof.Rows
theorem zKU {a:Addr} {xs:List V} {g:TG} {tb:TS} {D:Ym} {σ:St} {H:Hp} (Pv:Nat->St->Hp->Prop) (h0:Pv 0 σ H) (hl:∀i σ H,i≤xs.length->Pv i σ H->H a=some (.lst xs))
  (hs:∀i x σ H T,xs[i]?=some x->Pv i σ H->H T=none->g (.ref T) σ (upd H T (.tup [.int (i:Int),x])) λσ2 H2=>tb {D with nx:=Pv (i+1),ct:=Pv (i+1),bk:=D.nx} σ2 H2) (hd:∀σ H,Pv xs.length σ H->D.nx σ H):
  ∃W:Nat->Nat->St->Hp->Prop,(∃m,W 0 m σ H)/\∀i m σ H,W i m σ H->
   ((Ite a).stop i H/\D.nx σ H)\/((Ite a).go i H/\∃N:St->Hp->Prop,(∀σ' H',N σ' H'->∃m',m'<m/\W (i+1) m' σ' H')/\∀x H',(Ite a).yld i H x H'->g x σ H' λσ2 H2=>tb {D with nx:=N,ct:=N,bk:=D.nx} σ2 H2):=by
 refine ⟨λi m σ H=>m=xs.length - i/\i≤xs.length/\Pv i σ H,⟨xs.length,by simp,QG _,h0⟩,?_⟩;rintro i m σ H ⟨rfl,hi,p⟩;have q:=hl i σ H hi p;by_cases hlt:i<xs.length
 ·refine .inr ⟨⟨xs,xs[i],q,qB hlt⟩,Pv (i+1),λσ' H' p'=>⟨xs.length - (i+1),by omega,rfl,hlt,p'⟩,λx H' y=>?_⟩
  obtain ⟨T,ys,u,hT,hy,hu,rfl,rfl⟩:=y;rw [q] at hy;cases hy;exact hs i u σ H T hu p hT
 ·have e:i=xs.length:=by omega
  subst e;exact .inl ⟨⟨xs,q,qE _⟩,hd σ H p⟩
end L2
namespace L2
open PySem PySem.Spec PyProof.Rows
section
variable {prog:Program} {w:World} {A:Around} {E:Value->Shared->Prop} {s:Shared}
theorem zLY {it t:Addr} {i:Nat} {xs:Array Value} {Q:PySem.Fin->Shared->Prop} (hit:s.heap.IsTupleIter it t i) (ht:s.heap.IsTuple t xs)
  (one:∀x h',xs[i]?=some x->h'.IsTupleIter it t (i+1)->Heap.SameBut it s.heap h'->Q (.done (.ret x)) {s with heap:=h'})
  (out:xs[i]?=none->A.handled=none/\∀h' e,Heap.ExtBut it s.heap h'->(∃o,h'.get? e=some o/\o.cls= .type "StopIteration")->E (.ref e) {s with heap:=h'}):
  wpAny (model prog w) A (Builtin.«tuple_iterator.__next__» ⟨[.ref it],[]⟩) Q E s:=by
 rcases id hit with ⟨o,ho,hc,hd⟩
 rcases ht with ⟨u,hu,_,m,hm⟩
 have f0:∀{Q':Value->Shared->Prop},Q' (.ref t) s->wpAny (model prog w) A (field (.ref it) 0) Q' E s:=λz=>wpAny_field ho hd rfl z
 have f1:∀{Q':Value->Shared->Prop},Q' (.int i 0) s->wpAny (model prog w) A (field (.ref it) 1) Q' E s:=λz=>wpAny_field ho hd rfl z
 have its:∀{Q':Option (Array Value)->Shared->Prop},Q' (some xs) s->wpAny (model prog w) A (seqItems? (.ref t)) Q' E s:=λz=>wpAny_seqItems hu hm z
 change wpAny _ _ (field (.ref it) 0 >>=_) _ _ s
 refine wpAny_bind (f0 ?a)
 case a=>
  change wpAny _ _ (field (.ref it) 1 >>=_) _ _ s
  refine wpAny_bind (f1 ?_)
  change wpAny _ _ (seqItems? (.ref t) >>=_) _ _ s
  refine wpAny_bind (its ?_);cases hx:xs[i]? with
  | some x=>
   simp only [xE,hx];refine wpAny_bind (wpAny_setField ho hd (by simp) (wpAny_pure (one x _ hx ⟨_,Heap.get?_update_self _ ho (Obj.isFreed_of_fields (Obj.data_mapFields hd _)),(Obj.cls_mapFields ..).trans hc,?_⟩ (Heap.SameBut.update ..))));rw [Obj.data_mapFields hd];simp [rawInt]
  | none=>
   obtain ⟨hh,hE⟩:=out hx;simp only [xE,hx];refine wpAny_bind (wpAny_rule (wpAny_bind (wpAny_setField ho hd (by simp) ?e)))
   change wpAny _ _ (newExc (.type "StopIteration") [] >>=_) _ _ _
   apply wpAny_bind;unfold newExc newTuple;refine wpAny_bind (wpAny_newObj_type ?n (by size_fits))
   case n=>
    refine wpAny_bind (m:=firstArgMember _ _) (wpAny_of_eq (a:=Value.none) ?fa (wpAny_newObj_type ?ga (by size_fits)))
    case fa=>first | rfl | (unfold firstArgMember; rfl)
    case ga=>exact wpAny_raiseNew_none hh (hE _ _ (((Heap.SameBut.update ..).extBut.push _).push _) ⟨_,Heap.get?_push_size _ rfl,rfl⟩)
theorem zHb {it t:Addr} {i:Nat} {xs:Array Value} {Q:Value->Shared->Prop} (hit:s.heap.IsTupleIter it t i) (ht:s.heap.IsTuple t xs)
  (one:∀x h',xs[i]?=some x->h'.IsTupleIter it t (i+1)->Heap.SameBut it s.heap h'->Q x {s with heap:=h'})
  (out:xs[i]?=none->A.handled=none/\∀h' e,Heap.ExtBut it s.heap h'->(∃o,h'.get? e=some o/\o.cls= .type "StopIteration")->E (.ref e) {s with heap:=h'}):
  wpAny (model prog w) A (Builtin.SmallTypes.nextOf (.ref it)) Q E s:=by
 have ty:=hit.typeIs;have call1:=wpAny_call_entry (prog:=prog) (w:=w) (A:=A) (E:=E) (rest:=[]) F.slot_tuple_iterator_next ty F.entry_tuple_iterator_next (Q:=λv s'=>wpAny (model prog w) A (pure v) Q E s')
  (zLY hit ht (λx h' a b c=>⟨x,rfl,wpAny_pure (one x h' a b c)⟩) out) (F.args_tuple_iterator_next_1 _)
 unfold Builtin.SmallTypes.nextOf;exact wpAny_bind (wpAny_callSpecial?_slot (name:=Str.ofString "__next__") ty F.slot_tuple_iterator_next call1)
end
theorem jP {h h':Heap} {a t:Addr} {i:Nat} (x:h.IsTupleIter a t i) (k:∀o,h.get? a=some o->h'.get? a=some o):h'.IsTupleIter a t i:=let ⟨o,ho,r⟩:=x; ⟨o,k o ho,r⟩
theorem zOf {h h':Heap} {a:Addr} {items:Array Value} (x:h.IsTuple a items) (k:∀o,h.get? a=some o->h'.get? a=some o):h'.IsTuple a items:=let ⟨o,ho,r⟩:=x; ⟨o,k o ho,r⟩
end L2
namespace L2
open PySem PySem.Spec PyProof.Rows
section
variable {X:Cx}
end
end L2
namespace HT
open PySem PyProof.Rows
def YD (val:Nat->Int):Nat->Nat->Option Int->Option Int
 | 0,_,b=>b
 | k+1,i,b=>YD val k (i+1) (some (match b with | none=>val i | some m=>if m<val i then val i else m))
def zQH (h:Heap) (S:Addr) (b:Option Int):Prop:=match b with
 | none=>∃c,h.get? S=some {cls:= .type "list",dict:=none,data:= .seq #[] c,slots:=#[]}
 | some m=>∃c t,h.get? S=some {cls:= .type "list",dict:=none,data:= .seq #[.int m t, .int m t] c,slots:=#[]}
def zHm (d:Value) (b:Option Int) (u:Value):Prop:=match b with
 | none=>u=d
 | some m=>∃t,u= .int m t
theorem zJV (a d:Value):argsOk "max" ⟨[a],[(Str.ofString "default",d)]⟩:=by unfold argsOk; kernel_rfl
section
variable {prog:Program} {w:World} {A:Around} {R:Result->Shared->Prop} {I S:Addr} {fp wr:List Addr} {n:Nat} {P:Nat->Value->Prop} {St:Nat->Heap->Prop}
theorem zJD (W:Walks prog w A.in1 I fp wr n P St) (val:Nat->Int) (hv:∀i v,P i v->∃t,v= .int (val i) t) (d:Value) (nS:S∉fp):∀(k i:Nat) (b:Option Int) (s:Shared),i+k=n->St i s.heap->zQH s.heap S b->
  (∀u h' tk,zHm d (YD val k i b) u->(∀c o,c∉wr->c≠S->s.heap.get? c=some o->h'.get? c=some o)->R (.ok (.ret u)) {s with heap:=h',toks:=tk})->
  codeAny (model prog w) A (.builtin "max.loop" ⟨[.ref I, .none, .ref S],[("default",d)]⟩) R s:=by
 have nW:S∉wr:=λz=>nS (W.sub S z)
 have qt:(Code.builtin "max.loop" ⟨[.ref I, .none, .ref S],[("default",d)]⟩).quiet=true:=plainId_quiet F.plain_max_loop _;have nm:(toString "max"++toString ".loop":String)="max.loop":=by decide
 intro k
 induction k with
 | zero=>
  intro i b s hi hst hb q;have fin:=codeAny_builtin (prog:=prog) (w:=w) (A:=A) (R:=R) (s:=s) (args:=⟨[.ref I, .none, .ref S],[("default",d)]⟩) F.entry_max_loop;refine fin ?_;rw [Around.under_plainId F.plain_max_loop _];cases b with
  | none=>
   obtain ⟨c,e⟩:=hb;refine wpAny_bind (m:=seqItems? (.ref S)) (wpAny_seqItems e rfl ?_);refine wpAny_bind (m:=tryCatch (pyNext (.ref I)) _) (wpAny_tryCatch (W.done s _ _ (by rw [show n=i by omega]; exact hst) λh' tk kp=>?_));exact wpAny_bind (wpAny_rule (wpAny_pure (q d h' tk rfl λc o h1 _ h3=>kp c o h1 h3)))
  | some m=>
   obtain ⟨c,t,e⟩:=hb;refine wpAny_bind (m:=seqItems? (.ref S)) (wpAny_seqItems e rfl ?_);refine wpAny_bind (m:=tryCatch (pyNext (.ref I)) _) (wpAny_tryCatch (W.done s _ _ (by rw [show n=i by omega]; exact hst) λh' tk kp=>?_));refine wpAny_bind (m:=updateSeq S λ_=>#[]) (wpAny_updateSeq (kp S _ nW e) rfl ?_);exact wpAny_bind (wpAny_letGo (wpAny_pure (q _ _ tk ⟨t,rfl⟩ λc o h1 h2 h3=>by rw [Heap.get?_update_other _ _ (Ne.symm h2)]; exact kp c o h1 h3)))
 | succ k ih=>
  intro i b s hi hst hb q;refine codeAny_builtin F.entry_max_loop ?_;rw [Around.under_plainId F.plain_max_loop _];cases b with
  | none=>
   obtain ⟨c,e⟩:=hb;refine wpAny_bind (m:=seqItems? (.ref S)) (wpAny_seqItems e rfl ?_);refine wpAny_bind (m:=tryCatch (pyNext (.ref I)) _) (wpAny_tryCatch (W.item i s _ _ (by omega) hst λv h' tk hP st' kp=>?_));obtain ⟨t,rfl⟩:=hv i v hP;have e':=kp S _ nW e;refine wpAny_bind (m:=updateSeq S λ_=>#[.int (val i) t, .int (val i) t]) (wpAny_updateSeq e' rfl ?_);rw [nm];refine wpAny_pure ⟨qt,ih (i+1) (some (val i)) _ (by omega) (W.frame _ _ _ st' λc hc o h=>?_) ⟨_,t,Heap.get?_update_self _ e' rfl⟩ λu h2 tk2 hu k2=>q u h2 tk2 hu λc o h1 h3 h4=>k2 c o h1 h3 ?_⟩
   ·rw [Heap.get?_update_other _ _ (λz:S=c=>nS (by rw [z]; exact hc))]; exact h
   ·rw [Heap.get?_update_other _ _ (Ne.symm h3)]; exact kp c o h1 h4
  | some m=>
   obtain ⟨c,t0,e⟩:=hb;refine wpAny_bind (m:=seqItems? (.ref S)) (wpAny_seqItems e rfl ?_);refine wpAny_bind (m:=tryCatch (pyNext (.ref I)) _) (wpAny_tryCatch (W.item i s _ _ (by omega) hst λv h' tk hP st' kp=>?_));obtain ⟨t,rfl⟩:=hv i v hP;have e':=kp S _ nW e;have gt:∀(s':Shared) (Q:Value->Shared->Prop) (E:Value->Shared->Prop),Q (.bool (decide (m<val i))) s'->wpAny (model prog w) A.in1 (richCompare .Gt (.int (val i) t) (.int m t0)) Q E s':=
    λs' Q E h=>(PyProof.Rows.gt_int h:wpAny (model prog w) A.in1 (compareOp .Gt (.int (val i) t) (.int m t0)) Q E s')
   refine wpAny_bind (m:=tryCatch (holding [.int (val i) t, .int (val i) t] (richCompare .Gt (.int (val i) t) (.int m t0) >>=_)) _) (wpAny_tryCatch (wpAny_holding (wpAny_bind (gt _ _ _ ?_))));refine wpAny_bind (wpAny_holding (wpAny_truthy_bool (wpAny_bind (wpAny_letGo (wpAny_pure ?_)))));by_cases hm:m<val i
   ·have q':∀u h' tk,zHm d (YD val k (i+1) (some (val i))) u->_:=λu h' tk hu=>q u h' tk (by unfold YD; dsimp only; rw [if_pos hm]; exact hu)
    rw [decide_eq_true hm,if_pos rfl];refine wpAny_bind (m:=updateSeq S λ_=>#[.int (val i) t, .int (val i) t]) (wpAny_updateSeq e' rfl (wpAny_bind (wpAny_letGo ?_)));rw [nm];refine wpAny_pure ⟨qt,ih (i+1) (some (val i)) _ (by omega) (W.frame _ _ _ st' λc hc o h=>?_) ⟨_,t,Heap.get?_update_self _ e' rfl⟩ λu h2 tk2 hu k2=>q' u h2 tk2 hu λc o h1 h3 h4=>k2 c o h1 h3 ?_⟩
    ·rw [Heap.get?_update_other _ _ (λz:S=c=>nS (by rw [z]; exact hc))]; exact h
    ·rw [Heap.get?_update_other _ _ (Ne.symm h3)]; exact kp c o h1 h4
   ·have q':∀u h' tk,zHm d (YD val k (i+1) (some m)) u->_:=λu h' tk hu=>q u h' tk (by unfold YD; dsimp only; rw [if_neg hm]; exact hu)
    rw [decide_eq_false hm,if_neg qN];refine wpAny_bind (wpAny_letGo ?_);rw [nm];exact wpAny_pure ⟨qt,ih (i+1) (some m) _ (by omega) st' ⟨c,t0,e'⟩ λu h2 tk2 hu k2=>q' u h2 tk2 hu λc o h1 h3 h4=>k2 c o h1 h3 (kp c o h1 h4)⟩
end
theorem zFx {prog:Program} {w:World} {A:Around} {E:Value->Shared->Prop} {s:Shared} {id:String} {b:Builtin} {a:Args} {Q:Value->Shared->Prop} (hk:builtinKind id=none) (hp:plainId id=true) (hb:entryFor table id=some b) (ha:argsOk id a)
  (hc:wpAny (model prog w) A.in1 (b a) (λfin s'=>match fin with
   | .done f=>(match (Except.ok f:Result) with | .ok (.ret v)=>Q v s' | .ok _=>False | .error e=>E e s')
   | .again c'=>c'.quiet=true/\codeAny (model prog w) A c' (λr s'=>match r with | .ok (.ret v)=>Q v s' | .ok _=>False | .error e=>E e s') s') E s):wpAny (model prog w) A (call (.builtin id) a.pos a.kw) Q E s:=by
 refine wpAny_call (codeAny_call_builtin hp hb ?_);unfold checkBuiltinCall;rw [hk];unfold argsOk at ha;cases g:Manifest.signature? id with
 | none=>exact wpAny_pure hc
 | some sig=>
  rw [g] at ha;have ha':Bind.checkArgs id sig a=pure ():=ha;show wpAny _ _ (Bind.checkArgs id sig a) _ _ _;rw [ha'];exact wpAny_pure hc
theorem zJi {prog:Program} {w:World} {A:Around} {E:Value->Shared->Prop} {s:Shared} {l:Addr} {xs:Array (Int×Tok)} {d:Value} {Q:Value->Shared->Prop} (hh:A.handled=none) (hl:s.heap.IsList l (intItems xs))
  (q:∀u h' tk,zHm d (YD (numAt xs) xs.size 0 none) u->(∀c o,s.heap.get? c=some o->h'.get? c=some o)->Q u {s with heap:=h',toks:=tk}):wpAny (model prog w) A (call (.builtin "max") [.ref l] [(Str.ofString "default",d)]) Q E s:=by
 have nm:(toString "max"++toString ".loop":String)="max.loop":=by decide
 refine zFx (a:=⟨[.ref l],[(Str.ofString "default",d)]⟩) F.kind_max F.plain_max F.entry_max (zJV _ _) ?_;refine wpAny_bind (m:=Builtin.Builtins.bindParams "max" ["key","default"] 0 ⟨[],[(Str.ofString "default",d)]⟩) (wpAny_of_eq (show Builtin.Builtins.bindParams "max" ["key","default"] 0 ⟨[],[(Str.ofString "default",d)]⟩=pure [none,some d] from rfl) ?_);refine wpAny_bind (wpAny_pure (wpAny_bind (iter_intList hl λs2 e st hf ne=>?_)));subst e;refine wpAny_bind (wpAny_newObj_type ?_);rw [nm];have W:=Walks.list (prog:=prog) (w:=w) (A:=A.in1) hh _ l ne (intItems xs);refine wpAny_pure ⟨plainId_quiet F.plain_max_loop _,zJD W (numAt xs) (λ_ _=>intItems_at) d (λz=>XA _ (hf _ z)) _ 0 none _ (Nat.zero_add _) (W.frame _ _ _ st λc _ o h=>Heap.get?_push_of_some _ h) ⟨_,Heap.get?_push_size _ rfl⟩ λu h' tk hu kp=>?_⟩;have sz:(intItems xs).size=xs.size:=by unfold intItems; rw [Array.size_map]
 rw [sz] at hu;exact q u h' tk hu (old_kept λc o h1 h2=>kp c o h1 (qT (Heap.lt_size h2)) (Heap.get?_push_of_some _ h2))
end HT
namespace L2
open PySem PySem.Spec PyProof.Rows
def zAb (d:Int) (ns:List Int):Int:=(HT.YD (λi=>ns.getD i 0) ns.length 0 none).getD d
section
variable {X:Cx}
def zRG (K:PySem.W.Frag) (d:Int) (te:TE):TE:=λσ H Q=>te σ H λx H1=>∃(p:Addr) (ns:List Int),x= .ref p/\zQ K H1 p (ns.map V.int)/\Q (.int (zAb d ns)) H1
theorem zNF {e:Expr} {te:TE} {p p1 kp pos:Pos} {j:Nat} {d:Int} (hcalm:X.calm=true) (hg:Gl X "max") (hm:X.mg "max"=none) (he:PE X e te) (hs:starEach (e::[]) X.env=(false,eval e X.env)::starEach [] X.env:=by rfl):
  PE X (.Call (.Name "max" p) [e] [⟨some "default", .Constant (.int d) j p1,kp⟩] pos) (zRG X.K d te):=by
 intro pins s σ H Q I h;refine wpAny_Call_Name_kw (Yc I hg hm boot_max ?_);have h1:backTo pos (starEach (e::[]) X.env)=(false,eval e X.env)::backTo pos (starEach [] X.env):=by rw [hs]; rfl
 refine callWith_kw ?_ h1 (by rw [h1]; rfl);rw [h1];refine Calls.spliced_cons (zj (he pins s σ H _ I h) λu s1 ⟨x,H1,I1,r1,q1⟩=>Calls.spliced_nil ?_);obtain ⟨l,ns,rfl,hq,q⟩:=q1;cases r1;refine kws_cons (zj ((zK:PE X (.Constant (.int d) j p1) _) pins s1 σ H1 (λy H2=>y= .int d/\H2=H1) I1 ⟨rfl,rfl⟩) λv s2 ⟨y,H2,I2,r2,ey,eH⟩=>kws_nil ?_);subst ey eH;obtain ⟨t,rfl⟩:=r2;obtain ⟨its,rv,pl,hz⟩:=I2.list hq;have hi:=JY rv;obtain ⟨ws,ew⟩:=hi.allInts.items;have hns:ns=ws.toList.map (·.1):=by rw [<-hi.numsOf,<-nums_intItems,<-ew]
 have hl:ns.length=ws.size:=by rw [hns,qA,qJ]
 refine HT.zJi (I2.ok.hd hcalm) (l:=l) (xs:=ws) (ew▸pl.isList) λu h' tk hu hk=>?_
 have hv:(λi=>ns.getD i 0)=numAt ws:=funext λi=>by rw [hns]; exact (numAt_eq ws i).symm
 refine ⟨.int (zAb d ns),_,I2.kept hk,?_,q⟩;unfold zAb;rw [hv,hl];cases eb:HT.YD (numAt ws) ws.size 0 none with
 | none=>rw [eb] at hu; exact ⟨t,hu⟩
 | some m=>rw [eb] at hu; exact hu
end
theorem zFd {val:Nat->Int}:∀(k i:Nat) (b:Option Int),(b=none->k=0->HT.YD val k i b=none)/\(∀m,HT.YD val k i b=some m->(b=some m\/∃j,i≤j/\j<i+k/\m=val j)/\(∀x,b=some x->x≤m)/\∀j,i≤j->j<i+k->val j≤m)/\((b≠none\/0<k)->∃m,HT.YD val k i b=some m)
 | 0,i,b=>⟨λh _=>h,λm h=>⟨.inl h,λx hx=>by rw [show HT.YD val 0 i b=b from rfl,hx] at h; cases h; exact Int.le_refl _,λj h1 h2=>by omega⟩,λh=>by
   cases b with
   | none=>rcases h with z | z; exact absurd rfl z; omega
   | some m=>exact ⟨m,rfl⟩⟩
 | k+1,i,b=>by
  obtain ⟨_,h2,h3⟩:=zFd (val:=val) k (i+1) (some (match b with | none=>val i | some m=>if m<val i then val i else m));refine ⟨λ_ h=>by omega,λm h=>?_,λ_=>h3 (.inl λz=>nomatch z)⟩;obtain ⟨a1,a2,a3⟩:=h2 m h;have a2':=a2 _ rfl;cases b with
  | none=>
   have a2'':val i≤m:=a2';refine ⟨?_,(λx hx=>nomatch hx),λj h1 h2=>?_⟩
   ·rcases a1 with z | ⟨j,j1,j2,j3⟩
    ·exact .inr ⟨i,qE _,by omega,(Option.some.inj z).symm⟩
    ·exact .inr ⟨j,by omega,by omega,j3⟩
   ·by_cases hj:j=i
    ·rw [hj]; exact a2''
    ·exact a3 j (by omega) (by omega)
  | some x=>
   have a2'':(if x<val i then val i else x)≤m:=a2';refine ⟨?_,(λy hy=>?_),λj h1 h2=>?_⟩
   ·rcases a1 with z | ⟨j,j1,j2,j3⟩
    ·have z':(if x<val i then val i else x)=m:=Option.some.inj z
     by_cases hx:x<val i
     ·rw [if_pos hx] at z'; exact .inr ⟨i,qE _,by omega,z'.symm⟩
     ·rw [if_neg hx] at z'; exact .inl (by rw [z'])
    ·exact .inr ⟨j,by omega,by omega,j3⟩
   ·cases hy
    split at a2'' <;> omega
   ·by_cases hj:j=i
    ·rw [hj]; split at a2'' <;> omega
    ·exact a3 j (by omega) (by omega)
theorem zKQ {d m:Int} {ns:List Int} (h1:m∈ns) (h2:∀x∈ns,x≤m):zAb d ns=m:=by
 obtain ⟨_,a,b⟩:=zFd (val:=λi=>ns.getD i 0) ns.length 0 none;have hp:=List.length_pos_of_mem h1;obtain ⟨m',e⟩:=b (.inr hp);obtain ⟨c1,_,c3⟩:=a m' e;unfold zAb;rw [e];show m'=m;have le1:m≤m':=by
  obtain ⟨j,hj,rfl⟩:=List.mem_iff_getElem.mp h1;have:=c3 j (QG _) (by omega);rw [qC,qB hj] at this;exact this
 have le2:m'≤m:=by
  rcases c1 with z | ⟨j,_,hj,rfl⟩
  ·cases z
  ·refine h2 _ ?_
   have hj':j<ns.length:=by omega
   rw [qC,qB hj'];exact QF hj'
 omega
end L2
namespace HT
open PySem PyProof.Rows PySem.SeqAt PySem.MeetsSeq PySem.MeetsSeq2 PySem.MeetsSeq3
end HT
namespace L2
open PySem PySem.Spec PyProof.Rows
section
variable {X:Cx}
end
end L2
namespace HT
open PySem PyProof.Rows
section
variable {prog:Program} {w:World} {A:Around} {E:Value->Shared->Prop} {s:Shared}
end
section
variable {prog:Program} {w:World} {A:Around} {R:Result->Shared->Prop} {I S:Addr} {fp wr:List Addr} {n:Nat} {P:Nat->Value->Prop} {St:Nat->Heap->Prop}
end
end HT
namespace L2
open PySem PySem.Spec PyProof.Rows
section
variable {X:Cx}
end
end L2
namespace HT
open PySem PyProof.Rows
end HT
namespace HT
open PySem PyProof.Rows
section
variable {prog:Program} {w:World}
variable {A:Around} {E:Value->Shared->Prop} {s:Shared} {a:Addr} {ks:List Int} {led:Bool}
end
end HT
namespace HT
open PySem PyProof.Rows
section
variable {prog:Program} {w:World} {A:Around} {E:Value->Shared->Prop} {s:Shared}
set_option maxHeartbeats 6400000 in
end
end HT
namespace HT
open PySem PyProof.Rows
section
variable {prog:Program} {w:World} {A:Around} {E:Value->Shared->Prop} {s:Shared} {a:Addr} {o:Obj} {es:Array (Int×Value)} {ep:Nat} {t:SetTable}
end
end HT
namespace HT
open PySem PyProof.Rows
section
variable {prog:Program} {w:World} {A:Around} {E:Value->Shared->Prop} {s:Shared} {a I:Addr} {o:Obj} {es:Array (Int×Value)} {ep:Nat} {t:SetTable}
end
end HT
namespace HT
open PySem PyProof.Rows
section
variable {prog:Program} {w:World} {A:Around} {E:Value->Shared->Prop} {s:Shared} {a I S:Addr}
end
end HT
namespace HT
open PySem PyProof.Rows
section
variable {prog:Program} {w:World} {A:Around} {E:Value->Shared->Prop} {s:Shared} {a:Addr}
end
end HT
namespace L2
open PySem PySem.Spec PyProof.Rows
section
variable {X:Cx}
theorem JO:∀{xs ys:List Int},xs.Nodup->(∀x∈xs,x∈ys)->xs.length≤ys.length
 | [],_,_,_=>QG _
 | x::xs,ys,nd,h=>by
  obtain ⟨h1,nd'⟩:=xF.mp nd;have hx:=h x qD;have ih:=JO (ys:=ys.erase x) nd' λy hy=>(List.mem_erase_of_ne (λe:y=x=>h1 (e▸hy))).mpr (h y (qF _ hy))
  rw [List.length_erase_of_mem hx] at ih;have:0<ys.length:=List.length_pos_of_mem hx;rw [qL];omega
end
end L2
namespace L2
open PySem PySem.Spec PyProof.Rows
section
variable {X:Cx}
end
end L2
namespace HT
open PySem PyProof.Rows
section
variable {prog:Program} {w:World} {A:Around} {E:Value->Shared->Prop} {s:Shared} {I l:Addr} {items:Array Value}
end
end HT
namespace L2
open PySem PySem.Spec PyProof.Rows
section
variable {X:Cx}
end
end L2
namespace HT
open PySem PySem.W PyProof.Rows
def Z8 (key:Nat->Int) (p:Array Nat) (i:Nat):Int:=key (p.getD i 0)
def UpA (key:Nat->Int) (p:Array Nat) (m:Nat):Prop:=∀i j,i<j->j<m->Z8 key p i<Z8 key p j
def DnA (key:Nat->Int) (p:Array Nat) (m:Nat):Prop:=∀i j,i<j->j<m->Z8 key p j<Z8 key p i
def yn (N:Nat) (p:Array Nat):Prop:=p.toList.Perm (List.range N)
section
variable {cmp:Nat->Nat->(Bool->Shared->Prop)->Shared->Prop} {key:Nat->Int} {N:Nat} {s:Shared} {p:Array Nat}
theorem yn.size (h:yn N p):p.size=N:=by
 have:=h.length_eq;rw [xX] at this
 simpa using this
theorem yn.lt (h:yn N p) (hN:0<N) (i:Nat):p.getD i 0<N:=by
 by_cases hi:i<p.size
 ·have e:p.getD i 0=p[i]:=by simp [Array.getD,hi]
  rw [e];have:p[i]∈p.toList:=by simp
  exact QP.mp (h.mem_iff.mp this)
 ·have e:p.getD i 0=0:=by simp [Array.getD,hi]
  rw [e]; exact hN
theorem yn.inj (h:yn N p) {i j:Nat} (hi:i<N) (hj:j<N) (e:p.getD i 0=p.getD j 0):i=j:=by
 have nd:p.toList.Nodup:=h.symm.nodup List.nodup_range;have hs:=h.size;have ei:p.getD i 0=p.toList[i]'(by simp [hs,hi]):=by simp [Array.getD,hs,hi]
 have ej:p.getD j 0=p.toList[j]'(by simp [hs,hj]):=by simp [Array.getD,hs,hj]
 rw [ei,ej] at e;exact (List.getElem_inj nd).mp e
theorem yn.perm {p':Array Nat} (h:yn N p) (hp:p'.Perm p):yn N p':=(Array.perm_iff_toList_perm.mp hp).trans h
variable (hN:0<N) (ask:∀i j C,i<N->j<N->i≠j->C (decide (key i<key j)) s->cmp i j C s) (inj:∀i j,i<N->j<N->key i=key j->i=j)
include hN ask inj
theorem zEc (hp:yn N p) {i j:Nat} (hi:i<N) (hj:j<N) (ne:i≠j) (h:¬Z8 key p i<Z8 key p j):Z8 key p j<Z8 key p i:=by
 rcases Int.lt_trichotomy (Z8 key p i) (Z8 key p j) with z | z | z
 ·exact absurd z h
 ·exact absurd (hp.inj hi hj (inj _ _ (hp.lt hN i) (hp.lt hN j) z)) ne
 ·exact z
theorem zFU (hp:yn N p) {α:Type} {k:Bool->KasT α} {G:α->Shared->Prop} (i j:Nat) (hi:i<N) (hj:j<N) (ne:i≠j) (h1:Z8 key p i<Z8 key p j->(k true).kasWp cmp G s) (h2:¬Z8 key p i<Z8 key p j->(k false).kasWp cmp G s):
  (KasT.ask (p.getD i 0) (p.getD j 0) k).kasWp cmp G s:=by
 refine ask _ _ _ (hp.lt hN i) (hp.lt hN j) (λz=>ne (hp.inj hi hj z)) ?_;by_cases c:Z8 key p i<Z8 key p j
 ·have e:decide (key (p.getD i 0)<key (p.getD j 0))=true:=decide_eq_true c
  rw [e]; exact h1 c
 ·have e:decide (key (p.getD i 0)<key (p.getD j 0))=false:=decide_eq_false c
  rw [e]; exact h2 c
theorem zOw (hp:yn N p) {G:Nat->Shared->Prop}:∀(f n:Nat),1≤n->n+f≤N->UpA key p n->(∀m,n≤m->m≤n+f->UpA key p m->(m=n+f\/Z8 key p m<Z8 key p (m - 1))->G m s)->(kas_asc p f n).kasWp cmp G s:=by
 intro f
 induction f with
 | zero=>intro n _ _ up q; exact q n (qE _) (qE _) up (.inl rfl)
 | succ f ih=>
  intro n h1 hn up q;unfold kas_asc;refine zFU hN ask inj hp n (n - 1) (by omega) (by omega) (by omega) (λc=>?_) (λc=>?_)
  ·rw [if_pos rfl]
   exact q n (qE _) (by omega) up (.inr c)
  ·rw [if_neg (by decide)]
   have c':=zEc hN ask inj hp (by omega) (by omega) (by omega) c;refine ih (n+1) (by omega) (by omega) (λi j hij hj=>?_) λm m1 m2 m3 m4=>q m (by omega) (by omega) m3 (m4.imp (λz=>by omega) id)
   rcases xY j n with z | z
   ·exact up i j hij z
   ·have e:j=n:=by omega
    subst e;rcases xY i (j - 1) with y | y
    ·exact Int.lt_trans (up i (j - 1) y (by omega)) c'
    ·have e:i=j - 1:=by omega
     rw [e]; exact c'
theorem zRj (hp:yn N p) {G:Array Nat×Nat×Nat->Shared->Prop}:∀(f n:Nat),2≤n->n+f≤N->DnA key p n->(∀m,n≤m->m≤n+f->DnA key p m->G (p,m,0) s)->(kas_desc f p n 0).kasWp cmp G s:=by
 intro f
 induction f with
 | zero=>intro n _ _ dn q; exact q n (qE _) (qE _) dn
 | succ f ih=>
  intro n h1 hn dn q;unfold kas_desc;refine zFU hN ask inj hp n (n - 1) (by omega) (by omega) (by omega) (λc=>?_) (λc=>?_)
  ·rw [if_pos rfl,if_neg (by decide)]
   refine ih (n+1) (by omega) (by omega) (λi j hij hj=>?_) λm m1 m2 m3=>q m (by omega) (by omega) m3
   rcases xY j n with z | z
   ·exact dn i j hij z
   ·have e:j=n:=by omega
    subst e;rcases xY i (j - 1) with y | y
    ·exact Int.lt_trans c (dn i (j - 1) y (by omega))
    ·have e:i=j - 1:=by omega
     rw [e]; exact c
  ·rw [if_neg (by decide)]
   have c':=zEc hN ask inj hp (by omega) (by omega) (by omega) c;refine zFU hN ask inj hp (n - 1) n (by omega) (by omega) (by omega) (λ_=>?_) (λd=>absurd c' d);rw [if_pos rfl];exact q n (qE _) (by omega) dn
theorem zOr (hp:yn N p) {k:Nat} (hk:k<N) (up:UpA key p k) {G:Nat->Shared->Prop}:∀(f l r:Nat),r≤l+f->l≤r->r≤k->(∀i<l,Z8 key p i<Z8 key p k)->(∀i,r≤i->i<k->Z8 key p k<Z8 key p i)->
  (∀l',l'≤k->(∀i<l',Z8 key p i<Z8 key p k)->(∀i,l'≤i->i<k->Z8 key p k<Z8 key p i)->G l' s)->(kas_place p k f l r).kasWp cmp G s:=by
 intro f
 induction f with
 | zero=>intro l r h1 h2 h3 lo hi q; exact q l (by omega) lo λi hi'=>hi i (by omega)
 | succ f ih=>
  intro l r h1 h2 h3 lo hi q;unfold kas_place;by_cases c:l≥r
  ·rw [if_pos c]
   exact q l (by omega) lo λi hi'=>hi i (by omega)
  rw [if_neg c];refine zFU hN ask inj hp k ((l+r) / 2) (by omega) (by omega) (by omega) (λc1=>?_) (λc1=>?_)
  ·rw [if_pos rfl]
   refine ih l ((l+r) / 2) (by omega) (by omega) (by omega) lo (λi h4 h5=>?_) q;rcases xY ((l+r) / 2) i with z | z
   ·exact Int.lt_trans c1 (up _ i z h5)
   ·have e:i=(l+r) / 2:=by omega
    rw [e]; exact c1
  ·rw [if_neg (by decide)]
   have c2:=zEc hN ask inj hp (by omega) (by omega) (by omega) c1;refine ih ((l+r) / 2+1) r (by omega) (by omega) h3 (λi h4=>?_) hi q;rcases xY i ((l+r) / 2) with z | z
   ·exact Int.lt_trans (up i _ z (by omega)) c2
   ·have e:i=(l+r) / 2:=by omega
    rw [e]; exact c2
theorem zSL {G:Array Nat->Shared->Prop} (q:∀p',yn N p'->UpA key p' N->G p' s):∀(f:Nat) (p:Array Nat) (k:Nat),yn N p->k+f=N->UpA key p k->(kas_bin f p k).kasWp cmp G s:=by
 intro f
 induction f with
 | zero=>
  intro p k hp hk up;have e:k=N:=by omega
  subst e;exact q p hp up
 | succ f ih=>
  intro p k hp hk up;unfold kas_bin;rw [KasT.kasWp_bind];refine zOr hN ask inj hp (by omega) up k 0 k (by omega) (by omega) (qE _) (λi h=>absurd h (XG _)) (λi h1 h2=>absurd h1 (by omega)) λl hl lo hi=>?_
  have hp':=hp.perm (bubble_perm p k (k - l));refine ih _ (k+1) hp' (by omega) ?_;have ks:k<p.size:=by rw [hp.size]; omega
  have at_:∀i,Z8 key (bubble p k (k - l)) i=if i=l then Z8 key p k else if l<i/\i≤k then Z8 key p (i - 1) else Z8 key p i:=λi=>by
   have e:=getElem?_bubble ks (k - l) (by omega) i;rw [show k - (k - l)=l by omega] at e;have gd:∀(a b:Array Nat) (x y:Nat),a[x]?=b[y]?->Z8 key a x=Z8 key b y:=λa b x y h=>by
    unfold Z8;rw [xM,xM,h]
   by_cases h1:i=l
   ·rw [if_pos h1] at e ⊢; exact gd _ _ _ _ e
   ·rw [if_neg h1] at e ⊢
    by_cases h2:l<i/\i≤k
    ·rw [if_pos h2] at e ⊢; exact gd _ _ _ _ e
    ·rw [if_neg h2] at e ⊢; exact gd _ _ _ _ e
  intro i j hij hj;rw [at_ i,at_ j];by_cases h1:i=l
  ·rw [if_pos h1,if_neg (by omega),if_pos (by omega)]
   exact hi (j - 1) (by omega) (by omega)
  rw [if_neg h1];by_cases h2:j=l
  ·rw [if_pos h2,if_neg (by omega)]
   exact lo i (by omega)
  rw [if_neg h2];by_cases h3:l<i/\i≤k
  ·rw [if_pos h3,if_pos (by omega)]
   exact up _ _ (by omega) (by omega)
  rw [if_neg h3];by_cases h4:l<j/\j≤k
  ·rw [if_pos h4]
   have a1:=lo i (by omega);have a2:=hi (j - 1) (by omega) (by omega);omega
  ·rw [if_neg h4]
   exact up _ _ hij (by omega)
theorem zPY (h2:2≤N) (hp:yn N p) {G:Nat×Array Nat->Shared->Prop} (q:∀m p',1≤m->m≤N->yn N p'->UpA key p' m->G (m,p') s):(kas_count N p).kasWp cmp G s:=by
 unfold kas_count;rw [KasT.kasWp_bind];refine zOw hN ask inj hp (N - 1) 1 (qE _) (by omega) (λi j h1 h2=>absurd h2 (by omega)) λm m1 m2 up last=>?_
 by_cases e1:m=N
 ·rw [if_pos (beq_iff_eq.mpr e1)]
  exact q m p m1 (by omega) hp up
 rw [if_neg (λz=>e1 (beq_iff_eq.mp z))];by_cases e2:m > 1
 ·rw [if_pos e2]
  refine zFU hN ask inj hp 0 (m - 1) (by omega) (by omega) (by omega) (λ_=>?_) (λc=>absurd (up 0 (m - 1) (by omega) (by omega)) c);rw [if_pos rfl];exact q m p m1 (by omega) hp up
 rw [if_neg e2];have em:m=1:=by omega
 subst em;have d1:Z8 key p 1<Z8 key p 0:=last.resolve_left (by omega);unfold kas_descPart;rw [KasT.kasWp_bind];refine zRj hN ask inj hp (N - (1+1)) (1+1) (qE _) (by omega) (λi j hij hj=>?_) λm m1 m2 dn=>?_
 ·have e:i=0/\j=1:=by omega
  rw [e.1,e.2]; exact d1
 rw [if_neg (XA _)];have hp':yn N (kas_rev p 0 m):=hp.perm (mirror_perm p 0 m _);unfold kas_tail3;rw [KasT.kasWp_bind];have ms:m≤p.size:=by rw [hp.size]; omega
 have at_:∀i<m,Z8 key (kas_rev p 0 m) i=Z8 key p (m - 1 - i):=λi hi=>by
  have e:=getElem?_mirror_all (i:=0) ms i;rw [if_pos ⟨QG _,hi⟩,Nat.zero_add] at e;unfold Z8 kas_rev;rw [xM,xM,e]
 refine zOw hN ask inj hp' (N - m) m (by omega) (by omega) (λi j hij hj=>?_) λm' m3 m4 up' _=>q m' _ (by omega) (by omega) hp' up'
 rw [at_ i (by omega),at_ j hj];exact dn _ _ (by omega) (by omega)
theorem zQc (h2:2≤N) {G:Array Nat->Shared->Prop} (q:∀p',yn N p'->UpA key p' N->G p' s):(kas_sort N).kasWp cmp G s:=by
 unfold kas_sort;rw [KasT.kasWp_bind];refine zPY hN ask inj h2 (p:=List.toArray (List.range N)) (List.Perm.refl _) λm p' m1 m2 hp up=>?_
 by_cases c:m<N
 ·rw [if_pos c]
  have e:max m 1=m:=by omega
  rw [e];exact zSL hN ask inj q (N - m) p' m hp (by omega) up
 ·rw [if_neg c]
  have e:m=N:=by omega
  subst e;exact q p' hp up
end
end HT
namespace HT
open PySem PySem.W PyProof.Rows PySem.SeqAt PySem.MeetsSeq PySem.MeetsSeq2 PySem.MeetsSeq3
section
variable {prog:Program} {w:World} {A:Around} {E:Value->Shared->Prop} {s:Shared}
end
end HT
namespace HT
open PySem PySem.W PyProof.Rows
end HT
namespace L2
open PySem PySem.Spec PyProof.Rows
section
variable {X:Cx}
theorem zIv (hcalm:X.calm=true):yS X (.builtin "any") (λvs H Q=>∃(p:Addr) (bs:List Bool),vs=[.ref p]/\zQ X.K H p (bs.map V.bl)/\Q (.bl (bs.any id)) H):=by
 rintro pins s σ H xs us Q I r ⟨p,bs,rfl,hq,q⟩;obtain ⟨u,rfl,ru⟩:=r.one;cases ru;obtain ⟨its,rv,pl,hz⟩:=I.list hq;have hlt:p<s.heap.objs.size:=by obtain ⟨o,e,_⟩:=pl.isList; exact Heap.lt_size e
 have hl:=rv.length;rw [qA] at hl;refine call_any_walk (wpAny_pyIter_list pl.isList ⟨s.heap.objs.size,_,_,its.toArray.size,_,_,λi=>bs.getD i false,rfl,Walks.list (A:=X.A.in1) (I.ok.hd hcalm) s.heap.objs.size p (qT hlt) its.toArray,⟨⟨_,Heap.get?_push_size _ rfl,rfl,rfl⟩,pl.isList.at λo e=>Heap.get?_push_of_some _ e⟩,?_,λh' tk hk=>?_⟩)
 ·intro i v s' Q' E' hP hQ
  have hv:its[i]?=some v:=by simpa using hP
  have hi:i<bs.length:=by rw [hl]; exact (qZ.mp hv).1
  obtain ⟨u,hu,ru⟩:=rv.get (i:=i) (x:=V.bl bs[i]) (by rw [qR,qB hi]; rfl);rw [hv] at hu;cases hu;have eb:v=Value.bool bs[i]:=ru;subst eb;refine wpAny_truthy_bool ?_;have eg:bs.getD i false=bs[i]:=by simp [List.getD,hi]
  rw [<-eg]; exact hQ
 ·have I1:zN X pins σ H {s with heap:=h',toks:=tk}:=I.kept λb o e=>hk b o (by simp; exact qT (Heap.lt_size e)) (Heap.get?_push_of_some _ e)
  have e:(List.range its.toArray.size).any (λi=>bs.getD i false)=bs.any id:=by
   have e1:its.toArray.size=bs.length:=by simpa using hl.symm
   have e2:bs.any id=((List.range bs.length).map λi=>bs.getD i false).any id:=by rw [rgD]
   rw [e1,e2,List.any_map];rfl
  rw [e];exact ⟨.bl _,H,I1,rfl,q⟩
end
end L2
namespace L2
open PySem PySem.Spec PyProof.Rows
theorem Jd {L:List Int} {i:Nat} (h:i<L.length):(L.map V.int).getD i .non= .int (L.getD i 0)/\L.getD i 0∈L:=by
 rw [qC,qR,qC,qB h];exact ⟨rfl,QF h⟩
theorem jS {K:PySem.W.Frag} {a:Addr} {L:List Int} {tc:TT} {te:TE} {D:Addr} {Q:Hp->Prop} {σ:St} {H1:Hp} (c:Int->Bool) (v:Int->V) (hS:zQ K H1 a (L.map V.int)) (hD:H1 D=none) (hn:L.length≤1000)
  (ht:∀x H',x∈L->zC H1 H'->zAK tc (some (.int x)::σ) H' (c x)) (he:∀x H',x∈L->c x=true->zC H1 H'->zBE te (some (.int x)::σ) H' (v x))
  (hq:∀H',zC H1 H'->H' D=some (.lst ((L.filter c).map v))->Q H'):YN (Itl K a) (Zi 0) tc te D Q (none::σ) (upd H1 D (.lst [])):=by
 have ml:(L.map V.int).length=L.length:=qA _;refine yM (xs:=L.map V.int) (λi=>c (L.getD i 0)) (λi=>v (L.getD i 0)) hS hD (by rw [ml]; exact hn) (λi H' hi g=>?_) (λi H' hi hc g=>?_) λH' g e=>hq H' g ?_
 ·rw [ml] at hi
  rw [(Jd hi).1];exact ht _ H' (Jd hi).2 g
 ·rw [ml] at hi
  rw [(Jd hi).1];exact he _ H' (Jd hi).2 hc g
 ·rw [e,ml,<-YA c 0 L,qU]
  rfl
def ZO (H:Hp) (as:List Addr) (rs:List (List Int)):Prop:=Paired (λa r=>H a=some (.lst (r.map V.int))) as rs
theorem ZO.len {H:Hp} {as:List Addr} {rs:List (List Int)} (h:ZO H as rs):as.length=rs.length:=Paired.length h
theorem ZO.by {H H':Hp} {as:List Addr} {rs:List (List Int)} (h:ZO H as rs) (g:∀a∈as,∀o,H a=some o->H' a=some o):ZO H' as rs:=by
 unfold ZO at h ⊢
 induction h with
 | nil=>exact .nil
 | cons e _ ih=>exact .cons (g _ qD _ e) (ih λa ha=>g a (qF _ ha))
theorem ZO.same {H H':Hp} {as:List Addr} {rs:List (List Int)} (h:ZO H as rs) (g:zC H H'):ZO H' as rs:=h.by λa _ o e=>g a o e
theorem ZO.get {H:Hp} {as:List Addr} {rs:List (List Int)} (h:ZO H as rs):∀{i:Nat},i<as.length->H (as.getD i 0)=some (.lst ((rs.getD i []).map V.int))/\as.getD i 0∈as/\rs.getD i []∈rs:=by
 unfold ZO at h
 induction h with
 | nil=>intro i hi; exact absurd hi (XG _)
 | cons e _ ih=>
  intro i hi;cases i with
  | zero=>exact ⟨e,qD,qD⟩
  | succ i=>
   obtain ⟨a,b,c⟩:=ih (Nat.lt_of_succ_lt_succ hi);exact ⟨a,qF _ b,qF _ c⟩
theorem ZO.snoc {H:Hp} {as:List Addr} {rs:List (List Int)} {a:Addr} {r:List Int} (h:ZO H as rs) (e:H a=some (.lst (r.map V.int))):ZO H (as++[a]) (rs++[r]):=Paired.snoc h e
theorem ZO.mem {H:Hp} {as:List Addr} {rs:List (List Int)} (h:ZO H as rs) {a:Addr} (ha:a∈as):∃r∈rs,H a=some (.lst (r.map V.int)):=by
 unfold ZO at h
 induction h with
 | nil=>cases ha
 | cons e _ ih=>
  rcases qG.mp ha with z | z
  ·rw [z]; exact ⟨_,qD,e⟩
  ·obtain ⟨r,hr,er⟩:=ih z
   exact ⟨r,qF _ hr,er⟩
end L2
namespace L2
open PySem PySem.Spec PyProof.Rows
end L2
namespace L2
open PySem PySem.Spec PyProof.Rows
theorem zLd {x:V} {σ:St} {H:Hp} {A B:St->Hp->Prop} (h:A (σ.set 0 (some x)) H):Zi 0 x σ H λσ2 H2=>zBO σ2 H2 λb H3=>if b=true then A σ2 H3 else B σ2 H3:=by
 show (if true=true then A (σ.set 0 (some x)) H else B (σ.set 0 (some x)) H);rw [if_pos rfl];exact h
theorem zIo {K:PySem.W.Frag} {a:Addr} {as:List Addr} {rs:List (List Int)} {te:TE} {D:Addr} {Q:Hp->Prop} {σ:St} {H1:Hp} (F:List Int->List Int) (hS:zQ K H1 a (as.map V.ref)) (hR:ZO H1 as rs) (hD:H1 D=none) (hn:as.length≤1000)
  (he:∀(b:Addr) (r:List Int) (H':Hp) (P:VK),r∈rs->H' b=some (.lst (r.map V.int))->zC H1 H'->(∀(o:Addr) (H2:Hp),zC H' H2->H' o=none->H2 o=some (.lst ((F r).map V.int))->P (.ref o) H2)->te (some (.ref b)::σ) H' P)
  (hq:∀(us:List Addr) (H':Hp),zC H1 H'->(∀u∈us,H1 u=none)->us.Nodup->D∉us->H' D=some (.lst (us.map V.ref))->ZO H' us (rs.map F)->Q H'):YN (Itl K a) (Zi 0) zBO te D Q (none::σ) (upd H1 D (.lst [])):=by
 have al:=hR.len;refine yi (n:=as.length) (λi σ' H'=>∃(x:Option V) (us:List Addr),σ'=x::σ/\zC H1 H'/\(∀u∈us,H1 u=none)/\us.Nodup/\D∉us/\H' D=some (.lst (us.map V.ref))/\ZO H' us ((rs.take i).map F))
  ⟨none,[],rfl,zC.new hD _,λ_ h=>(nomatch h),XE,(λh=>nomatch h),zD, .nil⟩ ?_ ?_
 ·rintro i σ' H' hi ⟨x,us,rfl,g,fre,nd,du,hl,rows⟩
  have ex:(as.map V.ref)[i]?=some (.ref (as.getD i 0)):=by rw [qR,qC,qB hi]; rfl
  refine ⟨⟨_,_,g.seq hS,ex⟩,λy H7 hy=>?_⟩;obtain ⟨rfl,hy⟩:=hy;have ey:=hy _ (g.seq hS);rw [ex] at ey;cases ey;refine zLd ?_;obtain ⟨er,_,mr⟩:=hR.get hi;refine he _ _ _ _ mr (g _ _ er) g λo H2 g2 no eo=>?_
  have oD:o≠D:=Ne.symm (zJ hl no);have oH:H1 o=none:=by
   cases e:H1 o with
   | none=>rfl
   | some u=>rw [g _ _ e] at no; cases no
  have ul:us.length=i:=by
   have:=rows.len;rw [qA,xG] at this;omega
  have hi':i<rs.length:=by omega
  have tk:(rs.take (i+1)).map F=(rs.take i).map F++[F (rs.getD i [])]:=by
   rw [List.take_succ,qB hi',qS,qC,qB hi'];rfl
  refine ⟨_,g2 _ _ hl,zDZ (by rw [qA]; omega),some (.ref (as.getD i 0)),us++[o],rfl,λc o' hc=>?_,λu hu=>?_,?_,λz=>?_,by rw [zD,qS]; rfl,?_⟩
  ·rw [zI (λe=>by rw [e,hD] at hc; cases hc)]
   exact g2 _ _ (g _ _ hc)
  ·rcases qO.mp hu with z | z
   ·exact fre u z
   ·rw [qH.mp z]; exact oH
  ·refine List.nodup_append.mpr ⟨nd,xF.mpr ⟨(λh=>nomatch h),XE⟩,λc hc d hd z=>?_⟩
   rw [qH.mp hd] at z;obtain ⟨r',_,e⟩:=rows.mem hc;rw [z,no] at e;cases e
  ·rcases qO.mp z with z | z
   ·exact du z
   ·exact oD (qH.mp z).symm
  ·rw [tk]
   refine ZO.snoc ((rows.same g2).by λc hc o' h=>?_) (by rw [zI oD]; exact eo);have ne:c≠D:=λz=>du (by rw [<-z]; exact hc)
   rw [zI ne];exact h
 ·rintro σ' H' ⟨x,us,rfl,g,fre,nd,du,hl,rows⟩
  rw [al,List.take_length] at rows;exact ⟨⟨_,g.seq hS,by rw [qA]; exact qE _⟩,hq us H' g fre nd du hl rows⟩
theorem ZO.append {H:Hp} {as bs:List Addr} {rs ts:List (List Int)} (h:ZO H as rs) (g:ZO H bs ts):ZO H (as++bs) (rs++ts):=by
 unfold ZO at*
 induction h with
 | nil=>exact g
 | cons e _ ih=>exact .cons e ih
end L2
namespace L2
open PySem PySem.Spec PyProof.Rows
theorem lg2 {i:Int} (h:i.natAbs<10^30):i.natAbs.log2<1920:=by
 by_cases z:i.natAbs=0
 ·rw [z]; decide
 ·exact (Nat.log2_lt z).mpr (Nat.lt_trans h (qP (show 10^30<2^100 by decide) (XH (by decide) (by decide))))
def ZF (i:Int):Str:=Str.ofString (toString i)
theorem zED {X:Cx}:yS X (.type "str") (λvs H Q=>∃i:Int,vs=[.int i]/\i.natAbs<10^30/\Q (.str (ZF i)) H):=by
 intro pins s σ H vs us Q I r ⟨i,e,h,q⟩;subst e;cases r with
 | cons r1 r2=>
  cases r2;obtain ⟨t,rfl⟩:=r1;exact PySem.P.str_of_int (lg2 h) ⟨.str (ZF i),H,I.tok _,⟨_,rfl⟩,q⟩
theorem zAx (i:Int) {k:Nat} (hk:k≠45/\(k<48\/57<k)):k∉(ZF i).cps.toList:=int_text_free' k hk i
theorem zBx (n:Nat):(ZF (n:Int)).cps.toList=(Nat.toDigits 10 n).map Char.toNat:=by
 show (Str.ofString (toString (n:Int))).cps.toList=_;rw [PySem.Str.ofString_eq_toList];have e:(toString (n:Int)).toList=Nat.toDigits 10 n:=by
  show (Nat.repr n).toList=_;exact Nat.toList_repr
 rw [e]
theorem zFj {x y:Int} (hx:0≤x) (hy:0≤y) (h:ZF x=ZF y):x=y:=by
 obtain ⟨n,rfl⟩:=Int.eq_ofNat_of_zero_le hx;obtain ⟨m,rfl⟩:=Int.eq_ofNat_of_zero_le hy;have e:(ZF (n:Int)).cps.toList=(ZF (m:Int)).cps.toList:=by rw [h]
 rw [zBx,zBx] at e;have ci:∀a b:List Char,a.map Char.toNat=b.map Char.toNat->a=b:=λa b q=>(List.map_inj_right (λc d z=>Char.toNat_inj.mp z)).mp q
 have e2:=ci _ _ e;have e3:Nat.ofDigitChars 10 (Nat.toDigits 10 n) 0=Nat.ofDigitChars 10 (Nat.toDigits 10 m) 0:=by rw [e2]
 rw [Nat.ofDigitChars_ten_toDigits,Nat.ofDigitChars_ten_toDigits] at e3;rw [e3]
theorem zKJ {a b u v:List Nat} (ha:32∉a) (hb:32∉b) (h:a++32::u=b++32::v):a=b/\u=v:=by
 induction a generalizing b with
 | nil=>
  cases b with
  | nil=>exact ⟨rfl,(List.cons.inj h).2⟩
  | cons y b=>exact absurd (List.cons.inj h).1 λz=>hb (by rw [<-z]; exact qD)
 | cons x a ih=>
  cases b with
  | nil=>exact absurd (List.cons.inj h).1 λz=>ha (by rw [z]; exact qD)
  | cons y b=>
   obtain ⟨h1,h2⟩:=List.cons.inj h;obtain ⟨h3,h4⟩:=ih (λz=>ha (qF _ z)) (λz=>hb (qF _ z)) h2;exact ⟨by rw [h1,h3],h4⟩
theorem Zl {x y:Str} (h:x.cps.toList=y.cps.toList):x=y:=by
 cases x; cases y;exact congrArg Str.mk (Array.toList_inj.mp h)
def Zk (zs:List Int):Str:=Txt.join (Str.ofString " ") (zs.map ZF)
theorem zBN (zs:List Int):Zk zs=Str.join (Str.ofString " ") (zs.map ZF):=StrLaws.glued_eq_join _ _
theorem zHy:(Str.ofString " ").cps.toList=[32]:=by decide
theorem Yb (x y:Int) (r:List Int):(Zk (x::y::r)).cps.toList=(ZF x).cps.toList++32::(Zk (y::r)).cps.toList:=by
 rw [zBN,zBN];show ((ZF x).cps++(Str.ofString " ").cps++(Str.join (Str.ofString " ") ((y::r).map ZF)).cps).toList=_;rw [xC,xC,zHy,xS];rfl
theorem Y2 (x:Int):(Zk [x]).cps.toList=(ZF x).cps.toList:=by rw [zBN]; rfl
theorem zHh (x:Int):32∉(ZF x).cps.toList:=zAx x ⟨by decide, .inl (by decide)⟩
theorem zBe:∀{zs ys:List Int},(∀x∈zs,0≤x)->(∀x∈ys,0≤x)->zs≠[]->ys≠[]->Zk zs=Zk ys->zs=ys
 | [],_,_,_,h,_,_=>absurd rfl h
 | _,[],_,_,_,h,_=>absurd rfl h
 | [x],[y],hz,hy,_,_,h=>by
  have e:ZF x=ZF y:=Zl (by rw [<-Y2,h,Y2]);rw [zFj (hz x qD) (hy y qD) e]
 | [x],y::y2::r,_,_,_,_,h=>by
  have e:(Zk [x]).cps.toList=(Zk (y::y2::r)).cps.toList:=by rw [h]
  rw [Y2,Yb] at e;refine absurd ?_ (zHh x);rw [e];exact qW _ qD
 | x::x2::r,[y],_,_,_,_,h=>by
  have e:(Zk (x::x2::r)).cps.toList=(Zk [y]).cps.toList:=by rw [h]
  rw [Y2,Yb] at e;refine absurd ?_ (zHh y);rw [<-e];exact qW _ qD
 | x::x2::r,y::y2::q,hz,hy,_,_,h=>by
  have e:(Zk (x::x2::r)).cps.toList=(Zk (y::y2::q)).cps.toList:=by rw [h]
  rw [Yb,Yb] at e;obtain ⟨e1,e2⟩:=zKJ (zHh x) (zHh y) e;rw [zFj (hz x qD) (hy y qD) (Zl e1),zBe (λz q=>hz z (qF _ q)) (λz q=>hy z (qF _ q)) (λz=>nomatch z) (λz=>nomatch z) (Zl e2)]
section
variable {X:Cx}
end
end L2
namespace L2
open PySem PySem.Spec PyProof.Rows
section
variable {X:Cx}
theorem zGY {v:Value} {lo:Option Int} (h:IsPart v lo):∃l:Option (Int×Tok),v=partValue l/\l.map (·.1)=lo:=by
 cases h with
 | none=>exact ⟨none,rfl,rfl⟩
 | int i t=>exact ⟨some (i,t),rfl,rfl⟩
theorem JG:SlR X (λx lo hi H Q=>∃z:Str,x= .str z/\z.length≤sizeLine/\Q (.str (Txt.slice z lo hi)) H):=by
 intro pins s σ H x v vl vu lo hi sl Q I rx hs pl pu h;obtain ⟨z,rfl,hz,q⟩:=h;obtain ⟨t,rfl⟩:=rx;refine ⟨"str",_,F.slot_str_getitem.lookup,typeIs_str s z t,?_⟩;obtain ⟨l,rfl,el⟩:=zGY pl;obtain ⟨u,rfl,eu⟩:=zGY pu;refine wpAny_getItem_str_slice (l:=l) (u:=u) (st:=none) hs rfl ?_;subst el eu;exact PySem.post_val_or_str ⟨qK (Txt.slice_le z _ _) hz,λt' k=>⟨.str _,H,I.tok k,⟨_,rfl⟩,q⟩⟩
theorem zEH:∀{ws:List Str} {us:List Value},zi (ws.map V.str) us->∃l:List (Str×Tok),us=strValues l/\l.map (·.1)=ws
 | [],_, .nil=>⟨[],rfl,rfl⟩
 | w::ws,_, .cons r rs=>by
  obtain ⟨t,rfl⟩:=r;obtain ⟨l,rfl,e⟩:=zEH rs;exact ⟨(w,t)::l,rfl,by rw [qQ,e]⟩
theorem zCu:MtR X "str.join" (λx xs H Q=>∃(z:Str) (D:Addr) (ws:List Str),x= .str z/\xs=[.ref D]/\zQ X.K H D (ws.map V.str)/\JoinOk z ws=true/\Q (.str (Txt.join z ws)) H):=by
 intro pins s σ H x xs v us Q I rx rs h;obtain ⟨z,D,ws,rfl,rfl,hD,hj,q⟩:=h;obtain ⟨t,rfl⟩:=rx;obtain ⟨u,rfl,ru⟩:=rs.one;cases ru;obtain ⟨its,r,ht,_⟩:=I.list hD;obtain ⟨l,rfl,e⟩:=zEH r;exact SC.join ht.isList e hj λt' k=>⟨.str _,H,I.tok k,⟨_,rfl⟩,q⟩
end
end L2
namespace L2
open PySem PySem.Spec PyProof.Rows
section
variable {X:Cx}
end
end L2
namespace L2
open PySem PySem.Spec PyProof.Rows
section
variable {X:Cx}
def zW (c:Nat):Str:=⟨#[c]⟩
theorem zJG:yN X (compareOp .In) (λx y H Q=>∃(z:Str) (c:Nat),x= .str (zW c)/\y= .str z/\Q (.bl (decide (c∈z.cps.toList))) H):=by
 intro pins s σ H x y v u Q I rx ry ⟨z,c,e1,e2,q⟩;subst e1 e2;obtain ⟨t,rfl⟩:=rx;obtain ⟨t2,rfl⟩:=ry;refine P.in_str (x:=z) (y:=zW c) ?_;have e:=StrLaws.found_one z c;refine ⟨.bl (decide (c∈z.cps.toList)),H,I,?_,q⟩;rw [<-e];rfl
theorem zJg:yN X (compareOp .NotIn) (λx y H Q=>∃(z:Str) (c:Nat),x= .str (zW c)/\y= .str z/\Q (.bl (!decide (c∈z.cps.toList))) H):=by
 intro pins s σ H x y v u Q I rx ry ⟨z,c,e1,e2,q⟩;subst e1 e2;obtain ⟨t,rfl⟩:=rx;obtain ⟨t2,rfl⟩:=ry;refine P.notIn_str (x:=z) (y:=zW c) ?_;have e:=StrLaws.found_one z c;refine ⟨.bl (!decide (c∈z.cps.toList)),H,I,?_,q⟩;rw [<-e];rfl
theorem zIC (z:Str) (c:Nat):Txt.startswith z (zW c)=decide (z.cps.toList[0]?=some c):=by
 rw [QY,decide_eq_true_eq,<-StrLaws.subAt_one];unfold Txt.startswith;rw [qM,decide_eq_true_eq];exact Iff.rfl
theorem zDX:MtR X "str.startswith" (λx xs H Q=>∃(z:Str) (c:Nat),x= .str z/\xs=[.str (zW c)]/\Q (.bl (decide (z.cps.toList[0]?=some c))) H):=by
 intro pins s σ H x xs v us Q I rx rs h;obtain ⟨z,c,rfl,rfl,q⟩:=h;obtain ⟨t,rfl⟩:=rx;obtain ⟨u,rfl,ru⟩:=rs.one;obtain ⟨t2,rfl⟩:=ru;rw [<-zIC] at q;exact SC.startswith ⟨.bl _,H,I,rfl,q⟩
theorem zDm:∀l:List (Str×Tok),zi ((l.map (·.1)).map V.str) (strValues l)
 | []=> .nil
 | p::l=> .cons ⟨p.2,rfl⟩ (zDm l)
theorem YK {pins:List (Addr×Obj)} {σ:St} {H:Hp} {s:Shared} {Q:VK} {ws:List Str} (I:zN X pins σ H s) (hw:ws.length≤sizeLine) (q:∀D,H D=none->Q (.ref D) (upd H D (.lst (ws.map V.str)))) (l:List (Str×Tok)) (tk:Nat) (e:l.map (·.1)=ws):
  EP X pins σ Q (.ref s.heap.objs.size) {s with heap:=s.heap.push {cls:= .type "list",data:= .seq (strValues l).toArray},toks:=tk}:=
 ⟨.ref s.heap.objs.size,_,I.laid (t':=tk) (λb o e=>Heap.get?_push_of_some _ e) (qE _) (show ZU X.prog X.w _ _ _ (.lst (ws.map V.str)) from ⟨by rw [qA]; exact hw,strValues l,_,by rw [<-e]; exact zDm l,Heap.get?_push_size _ rfl⟩),rfl,q _ (I.hok.fresh (qE _))⟩
theorem zIZ {z:Str} {c:Nat} (h:z.length+2≤sizeLine):(Txt.split z (zW c)).length≤sizeLine/\(Builtin.Str.partsBetween z (Builtin.Str.occurrences z (zW c) 0 z.length (z.length+1)) (zW c).length).length≤sizeLine:=by
 have e1:=StrLaws.occ_length_le_len z (zW c) 0 z.length (z.length+1);have e2:(Builtin.Str.partsBetween z (Builtin.Str.occurrences z (zW c) 0 z.length (z.length+1)) (zW c).length).length≤sizeLine:=by rw [length_partsBetween]; omega
 refine ⟨?_,e2⟩;unfold Txt.split
 split
 ·exact qK (show 1≤z.length+2 by omega) h
 ·split
  ·exact qK (show 1≤z.length+2 by omega) h
  ·exact e2
theorem JN:MtM X "str.split" (λx vs H Q=>∃(z:Str) (c:Nat),x= .str z/\vs=[.str (zW c)]/\z.length+2≤sizeLine/\∀D,H D=none->Q (.ref D) (upd H D (.lst ((Txt.split z (zW c)).map V.str)))):=by
 intro pins s σ H x vs v us Q I rx rv h;obtain ⟨z,c,rfl,rfl,hz,q⟩:=h;obtain ⟨t,rfl⟩:=rx;obtain ⟨u,rfl,ru⟩:=rv.one;obtain ⟨t2,rfl⟩:=ru;obtain ⟨f1,f2⟩:=zIZ (c:=c) hz;have hy:((zW c).length==0)=false:=rfl;cases h1:(decide (z.length<(zW c).length)||decide (Builtin.Str.strKind z<Builtin.Str.strKind (zW c)))
 ·cases h2:(Builtin.Str.occurrences z (zW c) 0 z.length (z.length+1)).isEmpty
  ·refine call_meets F.slot_str_split (typeIs_str _ _ _) F.entry_str_split (F.args_str_split_2 _ _) (meets_str_split_sep z (zW c) t t2 h1 hy h2 (by omega) f2) ?_
   have:=YK I f1 q (numbered s.toks (Builtin.Str.partsBetween z (Builtin.Str.occurrences z (zW c) 0 z.length (z.length+1)) (zW c).length)) (s.toks+(Builtin.Str.partsBetween z (Builtin.Str.occurrences z (zW c) 0 z.length (z.length+1)) (zW c).length).length) ((numbered_texts _ _).trans ((if_neg (ne_true_of_eq_false h1)).trans (if_neg (ne_true_of_eq_false h2))).symm);rw [<-strsFrom_eq] at this;exact this
  ·exact call_meets F.slot_str_split (typeIs_str _ _ _) F.entry_str_split (F.args_str_split_2 _ _) (meets_str_split_not_found z (zW c) t t2 h1 hy h2) (YK I f1 q [(z,t)] s.toks ((if_neg (ne_true_of_eq_false h1)).trans (if_pos h2)).symm)
 ·exact call_meets F.slot_str_split (typeIs_str _ _ _) F.entry_str_split (F.args_str_split_2 _ _) (meets_str_split_cannot_occur z (zW c) t t2 h1) (YK I f1 q [(z,t)] s.toks (if_pos h1).symm)
theorem zGz {z:Str} {c:Nat} (h:z.length+2≤sizeLine):(Txt.splitMax z (zW c) 1).length≤sizeLine/\(Builtin.Str.partsBetween z (Builtin.Str.occurrences z (zW c) 0 z.length (limitOf z 1)) (zW c).length).length≤sizeLine:=by
 have e1:=StrLaws.occ_length_le_len z (zW c) 0 z.length (limitOf z 1);have e2:(Builtin.Str.partsBetween z (Builtin.Str.occurrences z (zW c) 0 z.length (limitOf z 1)) (zW c).length).length≤sizeLine:=by rw [length_partsBetween]; omega
 refine ⟨?_,e2⟩;unfold Txt.splitMax
 split
 ·exact qK (show 1≤z.length+2 by omega) h
 ·split
  ·exact qK (show 1≤z.length+2 by omega) h
  ·exact e2
theorem zId:MtM X "str.split" (λx vs H Q=>∃(z:Str) (c:Nat),x= .str z/\vs=[.str (zW c), .int 1]/\z.length+2≤sizeLine/\∀D,H D=none->Q (.ref D) (upd H D (.lst ((Txt.splitMax z (zW c) 1).map V.str)))):=by
 intro pins s σ H x vs v us Q I rx rv h;obtain ⟨z,c,rfl,rfl,hz,q⟩:=h;obtain ⟨t,rfl⟩:=rx;obtain ⟨u,u2,rfl,ru,ru2⟩:=rv.two;obtain ⟨t2,rfl⟩:=ru;obtain ⟨t3,rfl⟩:=ru2;obtain ⟨f1,f2⟩:=zGz (c:=c) hz;have hy:((zW c).length==0)=false:=rfl;have hk:(decide ((1:Int) < -(2^63:Int))||decide ((1:Int)≥2^63))=false:=by decide
 cases h1:(decide (z.length<(zW c).length)||decide (Builtin.Str.strKind z<Builtin.Str.strKind (zW c)))
 ·cases h2:(Builtin.Str.occurrences z (zW c) 0 z.length (limitOf z 1)).isEmpty
  ·refine call_meets F.slot_str_split (typeIs_str _ _ _) F.entry_str_split (F.args_str_split_3 _ _ _) (meets_str_split_sep_max z (zW c) 1 t t2 t3 hk h1 hy h2 (by omega) f2) ?_
   have:=YK I f1 q (numbered s.toks (Builtin.Str.partsBetween z (Builtin.Str.occurrences z (zW c) 0 z.length (limitOf z 1)) (zW c).length)) (s.toks+(Builtin.Str.partsBetween z (Builtin.Str.occurrences z (zW c) 0 z.length (limitOf z 1)) (zW c).length).length) ((numbered_texts _ _).trans ((if_neg (ne_true_of_eq_false h1)).trans (if_neg (ne_true_of_eq_false h2))).symm);rw [<-strsFrom_eq] at this;exact this
  ·exact call_meets F.slot_str_split (typeIs_str _ _ _) F.entry_str_split (F.args_str_split_3 _ _ _) (meets_str_split_max_not_found z (zW c) 1 t t2 t3 hk h1 hy h2) (YK I f1 q [(z,t)] s.toks ((if_neg (ne_true_of_eq_false h1)).trans (if_pos h2)).symm)
 ·exact call_meets F.slot_str_split (typeIs_str _ _ _) F.entry_str_split (F.args_str_split_3 _ _ _) (meets_str_split_max_cannot_occur z (zW c) 1 t t2 t3 hk h1) (YK I f1 q [(z,t)] s.toks (if_pos h1).symm)
theorem zAs:yS X (.type "int") (λvs H Q=>∃(z:Str) (n:Int),vs=[.str z]/\PySem.intText? z=some n/\z.length≤640/\Q (.int n) H):=by
 intro pins s σ H vs us Q I r ⟨z,n,e,h1,h2,q⟩;subst e;obtain ⟨u,rfl,ru⟩:=r.one;obtain ⟨t,rfl⟩:=ru;exact PySem.W.KIN.call_text h1 h2 ⟨.int n,H,I.tok _,⟨_,rfl⟩,q⟩
end
def zIA (x:Str):It:=⟨λi _=>i<x.cps.size,λi H y H'=>H'=H/\∃c,x.cps[i]?=some c/\y= .str ⟨#[c]⟩,λi _=>i=x.cps.size⟩
theorem zIU {P:Program} {w:World} {K:PySem.W.Frag} {tg:Expr} (x:Str) (t:Tok) (it:Addr):zAa P w K tg (zIA x) [it] it (λi h=>h.IsStrIter it "str_ascii_iterator" x t i) where
 mem:=qH.mpr rfl
 obj:=λi h st b hb=>by
  cases qH.mp hb;obtain ⟨o,e,c,d⟩:=st;exact ⟨o,e,λv z=>by rw [d] at z; cases z⟩
 keep:=λi h h' st k=>by
  obtain ⟨o,e,r⟩:=st;exact ⟨o,k it (qH.mpr rfl) o e,r⟩
 item:=by
  intro X hP hw hK hc i pins s σ H E I hf st hg;subst hP hw hK;obtain ⟨f0,f1,f2,f3,f4,f5⟩:=hf it (qH.mpr rfl);have hi:i<x.cps.size:=hg;refine (Walks.strAscii (prog:=X.prog) (w:=X.w) (A:=X.A) (I.ok.hd hc) it x t).item i s _ E hi st λv h' tk sa st' keep=>?_
  obtain ⟨c,u,hcx,rfl⟩:=sa;have I1:zN X pins σ H {s with heap:=h',toks:=tk}:=I.turned (t':=tk) (λb o hb e=>keep b o (λz=>hb (qH.mp z)) e) f0 f1 f3 f4 f5;obtain ⟨o,e,c',d⟩:=id st';exact ⟨_,rfl,zCV (s:={s with heap:=h',toks:=tk}) e c' d (by decide) ⟨.str ⟨#[c]⟩,H,I1,⟨_,rfl⟩,⟨rfl,c,hcx,rfl⟩,st',λb hb=>(hf b hb).1⟩⟩
 done:=by
  intro X hP hw hK hc i pins s σ H E I hf st hg;subst hP hw hK;obtain ⟨f0,f1,f2,f3,f4,f5⟩:=hf it (qH.mpr rfl);have hi:i=x.cps.size:=hg;subst hi;refine (Walks.strAscii (prog:=X.prog) (w:=X.w) (A:=X.A) (I.ok.hd hc) it x t).done s _ E st λh' tk keep=>⟨rfl,?_⟩
  exact I.turned (t':=tk) (λb o hb e=>keep b o (λz=>hb (qH.mp z)) e) f0 f1 f3 f4 f5
 self:=λA _ _ _ _ st h=>wpAny_pyIter_striter_ascii st h
theorem zIt {P:Program} {w:World} {K:PySem.W.Frag} {tg:Expr} (x:Str) (t:Tok) (it:Addr):zAa P w K tg (zIA x) [it] it (λi h=>h.IsStrIter it "str_iterator" x t i) where
 mem:=qH.mpr rfl
 obj:=λi h st b hb=>by
  cases qH.mp hb;obtain ⟨o,e,c,d⟩:=st;exact ⟨o,e,λv z=>by rw [d] at z; cases z⟩
 keep:=λi h h' st k=>by
  obtain ⟨o,e,r⟩:=st;exact ⟨o,k it (qH.mpr rfl) o e,r⟩
 item:=by
  intro X hP hw hK hc i pins s σ H E I hf st hg;subst hP hw hK;obtain ⟨f0,f1,f2,f3,f4,f5⟩:=hf it (qH.mpr rfl);have hi:i<x.cps.size:=hg;refine (Walks.strWide (prog:=X.prog) (w:=X.w) (A:=X.A) (I.ok.hd hc) it x t).item i s _ E hi st λv h' tk sa st' keep=>?_
  obtain ⟨c,u,hcx,rfl⟩:=sa;have I1:zN X pins σ H {s with heap:=h',toks:=tk}:=I.turned (t':=tk) (λb o hb e=>keep b o (λz=>hb (qH.mp z)) e) f0 f1 f3 f4 f5;obtain ⟨o,e,c',d⟩:=id st';exact ⟨_,rfl,zCV (s:={s with heap:=h',toks:=tk}) e c' d (by decide) ⟨.str ⟨#[c]⟩,H,I1,⟨_,rfl⟩,⟨rfl,c,hcx,rfl⟩,st',λb hb=>(hf b hb).1⟩⟩
 done:=by
  intro X hP hw hK hc i pins s σ H E I hf st hg;subst hP hw hK;obtain ⟨f0,f1,f2,f3,f4,f5⟩:=hf it (qH.mpr rfl);have hi:i=x.cps.size:=hg;subst hi;refine (Walks.strWide (prog:=X.prog) (w:=X.w) (A:=X.A) (I.ok.hd hc) it x t).done s _ E st λh' tk keep=>⟨rfl,?_⟩
  exact I.turned (t':=tk) (λb o hb e=>keep b o (λz=>hb (qH.mp z)) e) f0 f1 f3 f4 f5
 self:=λA _ _ _ _ st h=>wpAny_pyIter_striter_wide st h
section
variable {X:Cx} {tg:Expr}
def zSU (tl:TE):TI:=λσ H R=>tl σ H λx H1=>∃z,x= .str z/\R (zIA z) H1
theorem zJU {l:Expr} {tl:TE} (hl:PE X l tl):PI X tg l (zSU tl):=by
 intro pins s σ H R I h;refine zj (hl pins s σ H _ I h) λv s1 ⟨x,H1,I1,r1,q1⟩=>?_
 obtain ⟨z,rfl,q⟩:=q1;obtain ⟨t,rfl⟩:=r1;have fp:∀b∈[s1.heap.objs.size],ja X pins H1 b:=λb hb=>by
  cases qH.mp hb;exact I1.fpOk (qE _) (I1.hok.fresh (qE _))
 cases ha:z.cps.all (·<128)
 ·exact wpAny_pyIter_wide ha ⟨s1.heap.objs.size,[s1.heap.objs.size],_,_,H1,rfl,I1.kept (t':=s1.toks) λb o e=>Heap.get?_push_of_some _ e,zIt z t _,⟨_,Heap.get?_push_size _ rfl,rfl,rfl⟩,fp,q⟩
 ·exact wpAny_pyIter_ascii ha ⟨s1.heap.objs.size,[s1.heap.objs.size],_,_,H1,rfl,I1.kept (t':=s1.toks) λb o e=>Heap.get?_push_of_some _ e,zIU z t _,⟨_,Heap.get?_push_size _ rfl,rfl,rfl⟩,fp,q⟩
end
theorem zDc {x:Str} {tc:TT} {te:TE} {D:Addr} {Q:Hp->Prop} {σ:St} {H1:Hp} (c:Nat->Bool) (v:Nat->V) (hD:H1 D=none) (hn:x.cps.size≤1000)
  (ht:∀i H',i<x.cps.size->zC H1 H'->zAK tc (some (.str (zW (x.cps.toList.getD i 0)))::σ) H' (c i)) (he:∀i H',i<x.cps.size->c i=true->zC H1 H'->zBE te (some (.str (zW (x.cps.toList.getD i 0)))::σ) H' (v i))
  (hq:∀H',zC H1 H'->H' D=some (.lst (((List.range x.cps.size).filter c).map v))->Q H'):YN (zIA x) (Zi 0) tc te D Q (none::σ) (upd H1 D (.lst [])):=by
 refine zDq (λi=> .str (zW (x.cps.toList.getD i 0))) c v hD hn (λi H' _ h=>h) (λi H' y H2 _ h z=>⟨z.1,?_⟩) (λH' _=>rfl) ht he hq;obtain ⟨_,d,e1,e2⟩:=z;rw [e2,qC,Array.getElem?_toList,e1];rfl
end L2
namespace L2
open PySem PySem.Spec PyProof.Rows
theorem jD {c:Nat} {a b u v:List Nat} (ha:c∉a) (hb:c∉b) (h:a++c::u=b++c::v):a=b/\u=v:=by
 induction a generalizing b with
 | nil=>
  cases b with
  | nil=>exact ⟨rfl,(List.cons.inj h).2⟩
  | cons y b=>exact absurd (List.cons.inj h).1 λz=>hb (by rw [<-z]; exact qD)
 | cons x a ih=>
  cases b with
  | nil=>exact absurd (List.cons.inj h).1 λz=>ha (by rw [z]; exact qD)
  | cons y b=>
   obtain ⟨h1,h2⟩:=List.cons.inj h;obtain ⟨h3,h4⟩:=ih (λz=>ha (qF _ z)) (λz=>hb (qF _ z)) h2;exact ⟨by rw [h1,h3],h4⟩
theorem ZZ (c:Nat) (x y:Str) (r:List Str):(Str.join (zW c) (x::y::r)).cps.toList=x.cps.toList++c::(Str.join (zW c) (y::r)).cps.toList:=by
 show (x.cps++(zW c).cps++(Str.join (zW c) (y::r)).cps).toList=_;rw [xC,xC,xS];rfl
theorem zEF {c:Nat}:∀{ws vs:List Str},(∀x∈ws,c∉x.cps.toList)->(∀x∈vs,c∉x.cps.toList)->ws≠[]->vs≠[]->Str.join (zW c) ws=Str.join (zW c) vs->ws=vs
 | [],_,_,_,h,_,_=>absurd rfl h
 | _,[],_,_,_,h,_=>absurd rfl h
 | [x],[y],_,_,_,_,h=>by rw [show x=y from h]
 | [x],y::y2::r,hw,_,_,_,h=>by
  have e:=congrArg (λz:Str=>z.cps.toList) h;have e:x.cps.toList=(Str.join (zW c) (y::y2::r)).cps.toList:=e;rw [ZZ] at e;refine absurd ?_ (hw x qD);rw [e];exact qW _ qD
 | x::x2::r,[y],_,hv,_,_,h=>by
  have e:=congrArg (λz:Str=>z.cps.toList) h;have e:(Str.join (zW c) (x::x2::r)).cps.toList=y.cps.toList:=e;rw [ZZ] at e;refine absurd ?_ (hv y qD);rw [<-e];exact qW _ qD
 | x::x2::r,y::y2::q,hw,hv,_,_,h=>by
  have e:=congrArg (λz:Str=>z.cps.toList) h;have e:(Str.join (zW c) (x::x2::r)).cps.toList=(Str.join (zW c) (y::y2::q)).cps.toList:=e;rw [ZZ,ZZ] at e;obtain ⟨e1,e2⟩:=jD (hw x qD) (hv y qD) e;rw [Zl e1,zEF (λz q=>hw z (qF _ q)) (λz q=>hv z (qF _ q)) (λz=>nomatch z) (λz=>nomatch z) (Zl e2)]
theorem jZ (x:Str) (c:Nat):Txt.split x (zW c)≠[]:=by
 unfold Txt.split
 split
 ·exact λz=>nomatch z
 ·split
  ·exact λz=>nomatch z
  ·rw [StrLaws.partsBetween_eq]
   obtain ⟨p,r,e⟩:=StrLaws.partsFrom_ne x (zW c).length 0 (Builtin.Str.occurrences x (zW c) 0 x.length (x.length+1));rw [e];exact λz=>nomatch z
theorem JF {c:Nat} {ws:List Str} (h:∀x∈ws,c∉x.cps.toList) (ne:ws≠[]):Txt.split (Str.join (zW c) ws) (zW c)=ws:=
 zEF (λx hx=>StrLaws.split_free _ c x hx) h (jZ _ c) ne (StrLaws.join_split _ _)
theorem zDf:Str.ofString " "=zW 32:=by decide
theorem zJA:Str.ofString ":"=zW 58:=by decide
theorem Yu (x:Str) (i j:Nat):(Builtin.Str.strSub x i j).cps.toList=(x.cps.toList.take j).drop i:=by
 show (x.cps.extract i j).toList=_;rw [Array.toList_extract];simp [List.extract_eq_take_drop,List.drop_take]
theorem zHz {c:Nat} {a b x:Str} (ha:c∉a.cps.toList) (hx:x.cps.toList=a.cps.toList++c::b.cps.toList):Txt.splitMax x (zW c) 1=[a,b]:=by
 have xl:x.length=a.cps.toList.length+(b.cps.toList.length+1):=by
  show x.cps.size=_;rw [<-qJ,hx,qI,qL]
 have cin:c∈x.cps.toList:=by rw [hx]; exact qW _ qD
 have h1:¬((decide (x.length<(zW c).length)||decide (Builtin.Str.strKind x<Builtin.Str.strKind (zW c)))=true):=by
  rw [Bool.or_eq_true,decide_eq_true_eq,decide_eq_true_eq];rintro (z | z)
  ·have:(zW c).length=1:=rfl
   omega
  ·exact StrLaws.kind_free x c z cin
 have YB:∀i,StrLaws.At x (zW c) x.length i↔x.cps.toList[i]?=some c:=λi=>StrLaws.subAt_one x c i
 have lim:limitOf x 1=1:=rfl;have ata:x.cps.toList[a.cps.toList.length]?=some c:=by rw [hx,xN (qE _),Nat.sub_self]; rfl
 have occ:Builtin.Str.occurrences x (zW c) 0 x.length 1=[a.cps.toList.length]:=by
  rcases StrLaws.occ_head x (zW c) 1 (qE _) with ⟨_,h⟩ | ⟨i,r,h,hi,hm⟩
  ·exact absurd ((YB _).mpr ata) (h _)
  ·have hl:=StrLaws.occ_length_le x (zW c) 0 x.length 1
   rw [h] at hl ⊢;have:r=[]:=by
    cases r with
    | nil=>rfl
    | cons _ _=>simp at hl
   subst this;have h2:¬a.cps.toList.length<i:=λz=>hm _ z ((YB _).mpr ata)
   have h3:¬i<a.cps.toList.length:=λz=>by
    have:=(YB i).mp hi;rw [hx,xT z] at this;exact ha (xA this)
   rw [show i=a.cps.toList.length by omega]
 unfold Txt.splitMax;rw [if_neg h1,lim,occ,if_neg (λz=>nomatch z),StrLaws.partsBetween_eq];show [Builtin.Str.strSub x 0 a.cps.toList.length,Builtin.Str.strSub x (a.cps.toList.length+1) x.length]=[a,b];have e1:Builtin.Str.strSub x 0 a.cps.toList.length=a:=Zl (by rw [Yu,hx,List.take_left,List.drop_zero]);have e2:Builtin.Str.strSub x (a.cps.toList.length+1) x.length=b:=Zl (by
  rw [Yu,QO (by rw [qJ]; exact qE _),hx,<-List.drop_drop,List.drop_left];rfl)
 rw [e1,e2]
def yg (ss:List Int):Str:=Txt.join (Str.ofString "") (ss.map λs=>Str.ofString " "++ZF s)
theorem yw:∀(s:Int) (r:List Int),(yg (s::r)).cps.toList=32::(Zk (s::r)).cps.toList
 | s,[]=>by
  show ((Str.ofString " ").cps++(ZF s).cps).toList=_;rw [xC,Y2,zHy];rfl
 | s,t::r=>by
  have ih:=yw t r;have e:yg (s::t::r)=Str.ofString " "++ZF s++Str.ofString ""++yg (t::r):=by
   show Txt.join _ _=_;unfold yg Txt.join;rw [StrLaws.glued_eq_join,StrLaws.glued_eq_join];rfl
  rw [e];show ((Str.ofString " ").cps++(ZF s).cps++(Str.ofString "").cps++(yg (t::r)).cps).toList=_;rw [xC,xC,xC,ih,zHy,Yb];show [32]++(ZF s).cps.toList++[]++_=_;simp
theorem zAv (zs:List Int):58∉(Zk zs).cps.toList:=by
 induction zs with
 | nil=>decide
 | cons x r ih=>
  cases r with
  | nil=>rw [Y2]; exact zAx x ⟨by decide, .inr (by decide)⟩
  | cons y r=>
   rw [Yb];intro h;rcases qO.mp h with z | z
   ·exact zAx x ⟨by decide, .inr (by decide)⟩ z
   ·rcases qG.mp z with z | z
    ·cases z
    ·exact ih z
def jm (ns ss:List Int):Str:=Zk ns++Str.ofString ":"++yg ss
theorem zAW (ns ss:List Int):(jm ns ss).cps.toList=(Zk ns).cps.toList++58::(yg ss).cps.toList:=by
 show ((Zk ns).cps++(Str.ofString ":").cps++(yg ss).cps).toList=_;rw [xC,xC,zJA,xS];rfl
theorem zJb {ss ts:List Int} (hs:∀x∈ss,0≤x) (ht:∀x∈ts,0≤x) (h:yg ss=yg ts):ss=ts:=by
 cases ss with
 | nil=>
  cases ts with
  | nil=>rfl
  | cons t r=>
   have e:(yg []).cps.toList=(yg (t::r)).cps.toList:=by rw [h]
   rw [yw] at e;cases e
 | cons s q=>
  have e:(yg (s::q)).cps.toList=(yg ts).cps.toList:=by rw [h]
  cases ts with
  | nil=>rw [yw] at e; cases e
  | cons t r=>
   rw [yw,yw] at e;exact zBe hs ht (λz=>nomatch z) (λz=>nomatch z) (Zl (List.cons.inj e).2)
theorem zDt {ns ms ss ts:List Int} (hn:∀x∈ns,0≤x) (hm:∀x∈ms,0≤x) (hs:∀x∈ss,0≤x) (ht:∀x∈ts,0≤x) (nn:ns≠[]) (nm:ms≠[]) (h:jm ns ss=jm ms ts):ns=ms/\ss=ts:=by
 have e:(jm ns ss).cps.toList=(jm ms ts).cps.toList:=by rw [h]
 rw [zAW,zAW] at e;obtain ⟨e1,e2⟩:=jD (zAv ns) (zAv ms) e;exact ⟨zBe hn hm nn nm (Zl e1),zJb hs ht (Zl e2)⟩
theorem Jr {l:List Nat} {B:Nat} (h:∀x∈l,x≤B):l.sum≤l.length*B:=by
 induction l with
 | nil=>exact QG _
 | cons x r ih=>
  have h1:=ih λy hy=>h y (qF _ hy)
  have h2:=h x qD;rw [List.sum_cons,qL,Nat.add_mul,Nat.one_mul];omega
theorem Ze (x y:Str):(x++y).length=x.length+y.length:=Array.size_append
end L2
namespace L2
open PySem PySem.Spec PyProof.Rows
theorem ZU.there {P:Program} {w:World} {H:Hp} {h:Heap} {a:Addr} {o:HO} (x:ZU P w H h a o):∃ob,h.get? a=some ob:=by
 cases o with
 | lst xs=>obtain ⟨_,_,_,_,e⟩:=x; exact ⟨_,e⟩
 | tup xs=>obtain ⟨_,_,_,ob,e,_⟩:=x; exact ⟨_,e⟩
 | dK kvs=>obtain ⟨_,_,_,_,o,_,_,e,_⟩:=x; exact ⟨_,e⟩
 | dT kvs=>obtain ⟨_,_,_,_,o,_,_,e,_⟩:=x; exact ⟨_,e⟩
 | set S n=>obtain ⟨o,_,_,_,e,_⟩:=x; exact ⟨_,e⟩
 | ins C dx fs=>obtain ⟨_,_,_,e,_⟩:=x; exact ⟨_,e⟩
 | own y=>exact x
 | xd fs=>obtain ⟨_,⟨_,_,_,e,_⟩,_⟩:=x; exact ⟨_,e⟩
 | rng lo hi=>obtain ⟨_,_,_,e⟩:=x; exact ⟨_,e⟩
 | frz ob u=>obtain ⟨e,_⟩:=x; exact ⟨_,e⟩
 | tbl ps=>exact ⟨_,show h.get? a=some _ from x⟩
 | met f y=>exact ⟨_,show h.get? a=some _ from x⟩
 | ext φ=>exact x.2.1
def InB (B:Heap) (fs:List Addr) (H':Hp) (h h':Heap):Prop:=∀b o,h'.get? b=some o->((∃o',h.get? b=some o')/\b∉fs)\/(∃u,H' b=some u)->B.get? b=some o
def Zv (P:Program) (w:World):jJ:=λouter H s E e s'=>∃(ea:Addr) (C a0:Value) (H':Hp) (B:Heap),
 e= .ref ea/\s'.os=s.os/\AllBare s'.gens/\Un (yP outer) [] H H' s.heap s'.heap/\yV P w H' s'.heap/\Heap.FlyingW B outer ea C a0 s'.heap/\InB B (yP outer) H' s.heap s'.heap/\H' ea=none/\E C none H'
section
variable {X:Cx} {pins:List (Addr×Obj)} {σ:St} {H H':Hp} {s s':Shared} {B h'':Heap}
theorem zN.flown (I:zN X pins σ H s) (os:s'.os=s.os) (bare:AllBare s'.gens) (un:Un (yP X.stack) [] H H' s.heap s'.heap) (hok:yV X.prog X.w H' s'.heap)
  (hB:InB B (yP X.stack) H' s.heap s'.heap) (st:B.StaysIn h'') (up:s'.heap.UpToSlots h''):zN X pins σ H' {s' with heap:=h''}:=by
 have ff:=I.stack;have slot:∀b o,s.heap.get? b=some o->H b=none->b∈yP X.stack->∃sl,h''.get? b=some {o with slots:=sl}:=λb o q n m=>by
  obtain ⟨sl,e1⟩:=un.slot b o q n m (by simp);obtain ⟨_,o',q',nf⟩:=ff.mem m;rw [q] at q';cases q';obtain ⟨sl',e2⟩:=up b _ e1 nf;exact ⟨sl',e2⟩
 refine I.call' (s':={s' with heap:=h''}) (ch:=[]) os ⟨λb o q n m _=>st b o (hB b o (un.keep b o q n m (by simp)) (.inl ⟨⟨o,q⟩,m⟩)),λb o q n m _=>slot b o q n m,λb o q n m=>un.free b o q n m,λb o q _=>?_,un.tups,un.frzs,un.tbls⟩ (λa o e=>?_) bare (λb z=>absurd z (by simp))
 ·by_cases m:b∈yP X.stack
  ·obtain ⟨sl,e⟩:=slot b o q (I.stkFree b m) m
   exact ⟨_,e⟩
  ·obtain ⟨o',e⟩:=un.there b o q (by simp)
   exact ⟨o',st b o' (hB b o' e (.inl ⟨⟨o,q⟩,m⟩))⟩
 ·refine (hok a o e).stay (λb u z q=>st b u (hB b u q (.inr ?_))) (λ_ z=>z) λ_ _ z=>z
  rcases z with z | z
  ·subst z; exact ⟨_,e⟩
  ·exact ⟨_,z⟩
theorem zN.gone {ea:Addr} {C a0:Value} {E:XK} (I:zN X pins σ H s) (os:s'.os=s.os) (bare:AllBare s'.gens) (un:Un (yP X.stack) [] H H' s.heap s'.heap) (hok:yV X.prog X.w H' s'.heap)
  (hB:InB B (yP X.stack) H' s.heap s'.heap) (fl:Heap.FlyingW B X.outer ea C a0 h'') (up:s'.heap.UpToSlots h'') (hn:H' ea=none) (hE:E C none H')
  (hst:X.stack=X.env::X.outer) (hfr:X.env.frame=some X.env.locals) (hex:X.ex=[]):Zv X.prog X.w X.outer X.H₀ X.s₀ E (.ref ea) {s' with heap:=h''}:=by
 have J:=I.flown os bare un hok hB fl.1 up;have jb:=J.base;have ib:=I.base;rw [hex] at jb ib;refine ⟨ea,C,a0,H',B,rfl,J.os,J.bare,jb,J.hok,fl,λb o q z=>?_,hn,hE⟩;rcases z with ⟨⟨o₀,q₀⟩,m⟩ | ⟨u,z⟩
 ·have m2:b∉yP X.stack:=λz=>by
   rw [hst] at z;unfold yP at z;rw [XJ,hfr] at z;rcases qG.mp z with z | z
   ·have:=I.ok.above
    rw [<-z] at this;exact absurd (Heap.lt_size q₀) (Nat.not_lt.mpr this)
   ·exact m z
  obtain ⟨o1,q1⟩:=ib.there b o₀ q₀ (by simp);obtain ⟨o2,q2⟩:=un.there b o1 q1 (by simp);have e:=hB b o2 q2 (.inl ⟨⟨o1,q1⟩,m2⟩);have e2:=fl.1 b o2 e;have q':h''.get? b=some o:=q;rw [q'] at e2;cases e2;exact e
 ·obtain ⟨o2,q2⟩:=(hok b u z).there
  have e:=hB b o2 q2 (.inr ⟨u,z⟩);have e2:=fl.1 b o2 e;have q':h''.get? b=some o:=q;rw [q'] at e2;cases e2;exact e
end
section
variable {P:Program} {w:World} {K:PySem.W.Frag} {mg:Str->Option Value} {base:Heap} {N:List Str} {qual:Str} {scope:Scope} {f:Addr} {cd:Value} {A:Around} {outer:List Env} {s₀:Shared} {H₀:Hp} {E:XK}
theorem y0:YF (Zv P w) (zAX (Zv P w) P w K mg base N qual scope f cd A outer s₀ H₀ E) E:=by
 intro pins σ H s e s' I h;obtain ⟨ea,C,a0,H',B,rfl,os,bare,un,hok,fl,hB,hn,hE⟩:=h;refine wpAny_leaves_onW (outer:=outer) I.ok.frames rfl fl λh'' fl2 up=>?_
 exact I.gone os bare un hok hB fl2 up hn hE rfl rfl rfl
def zFp (X:Cx) (E:XK):Prop:=∀(pins:List (Addr×Obj)) (σ:St) (H:Hp) (s:Shared) (h':Heap) (ea:Addr) (C:Value) (vs:List Value),zN X pins σ H s->Heap.MadeExcOf s.heap h' ea C vs->E C none H->X.xe (.ref ea) {s with heap:=h'}
theorem yT:zFp (zAX (Zv P w) P w K mg base N qual scope f cd A outer s₀ H₀ E) E:=by
 intro pins σ H s h' ea C vs I hx hE;have hin:∀env∈(envOfC qual scope s₀.heap.objs.size f cd::outer),∀b,env.frame=some b->b∈(envOfC qual scope s₀.heap.objs.size f cd::outer).filterMap (·.frame):=λenv he b hb=>List.mem_filterMap.mpr ⟨env,he,hb⟩
 refine wpAny_leaves_madeW (base:=PySem.W.hideAll s.heap ((envOfC qual scope s₀.heap.objs.size f cd::outer).filterMap (·.frame))) (outer:=outer) I.ok.frames rfl (λb o q=>PySem.W.of_hideAll _ q) (PySem.W.funFrames_hide I.stack hin) hx λh'' t x1 x2 x3 x4=>?_
 have hn:H ea=none:=by
  cases q:H ea with
  | none=>rfl
  | some u=>
   obtain ⟨o,e⟩:=(I.hok ea u q).there;rw [hx.new] at e;cases e
 refine I.gone (s':={s with heap:=h'}) (H':=H) rfl I.bare (Un.kept hx.keeps) (I.hok.kept hx.keeps) (λb o q z=>?_) x1 x4 hn hE rfl rfl rfl;have q':h'.get? b=some o:=q;have key:∃o',s.heap.get? b=some o'/\b∉(envOfC qual scope s₀.heap.objs.size f cd::outer).filterMap (·.frame):=by
  rcases z with ⟨⟨o',e⟩,m⟩ | ⟨u,z⟩
  ·exact ⟨o',e,m⟩
  ·obtain ⟨o',e⟩:=(I.hok b u z).there
   exact ⟨o',e,λm=>by have:=I.stkFree b m; rw [z] at this; cases this⟩
 obtain ⟨o',e,m⟩:=key;have e2:=hx.keeps b o' e;rw [q'] at e2;cases e2;exact PySem.W.hideAll_get _ e m
theorem zm.ok1 {x qual:Str} {st:Stmt} {f:Addr} {fd:FuncData} {N ps:List Str} {k:Nat} {sp:Sp} (F:zm K x qual st f fd) (S:zP N ps (zF st)) (len:∀vs H Q E,sp vs H Q E->vs.length=ps.length)
  (hbody:∀(cdv:Value) (A:Around) (outer:List Env) (s:Shared) (H:Hp) (vs:List V) (Q:VK) (E:XK),Zz k (A.deeper (envOfC qual (zF st) s.heap.objs.size f cdv))->sp vs H Q E->
   ∃t,Yl (zAX (Zv P w) P w K mg base N qual (zF st) f cdv A outer s H E) (Zx st) t/\t {nx:=λ_ H'=>Q .non H',rt:=Q} (j5 N vs) H):zH P w K mg base (Zv P w) (k+1) f fd ps sp:=by
 obtain ⟨oc,od,kV,doc,pm,an,cdv,ct,osl,rfl,lk,hcd⟩:=F.ex;exact zLo lk hcd S len λA outer s H vs Q E hr hsp=>hbody cdv A outer s H vs Q E hr hsp
end
theorem zNO {K:PySem.W.Frag} {h:Heap} {C:Addr} {bmB:List Value} {newId:String} (X:K.In h) (q:PySem.W.excIn K C bmB newId=true):
  ∃bm N nm q bs hdct sn sub ab col dd k0 k1 k2 k3 k5 mN,h.get? C=some (excClassObj nm q C N bs bm hdct sn sub ab col dd k0 k1 k2 k3 k5 newId)/\h.Ns N mN/\mN "__init__"=none/\OwnTail h bmB bm:=by
 unfold PySem.W.excIn at q
 split at q
 ·rename_i dd cd sl ho
  split at q
  ·rename_i C' bm k0 k1 k2 k3 n k5 hm hs
   simp only [qM,beq_iff_eq,QQ] at q;obtain ⟨⟨⟨⟨⟨rfl,rfl⟩,hdel⟩,ht⟩,hok⟩,hni⟩:=q;obtain ⟨nm,bs,mro,ns,qn,hd,sn,sub,ab,col,del⟩:=cd;dsimp only at hm hdel hok hni;subst hm hdel;have hsl:sl=#[k0,k1,k2,k3,some (.builtin n),k5]:=by
    obtain ⟨l⟩:=sl;simp only at hs;rw [hs]
   subst hsl;exact ⟨bm,ns,nm,qn,bs,hd,sn,sub,ab,col,dd,k0,k1,k2,k3,k5,_,X _ _ ho, .of_isNs (PySem.W.isNs_of_in X hok),PySem.W.nsMap_none_of_in X hok hni,PySem.W.tail_of_in X ht⟩
  ·cases q
 ·cases q
section
variable {X:Cx} {E:XK} {x:Str} {C:Addr} {B newId initId:String} {bm:List Value} {np cpos pos:Pos} {e:Expr} {es:List Expr} {t:TA}
def zOl (C:Addr) (E:XK) (t:TA):TS:=λ_ σ H=>t σ H λvs H1=>vs.length≤1000/\E (.ref C) none H1
theorem Z7 (hr:zFp X E) (hc:X.calm=true) (FB:ExcBaseFacts B newId initId bm) (hq:PySem.W.excIn X.K C bm newId=true) (hg:Gl X x) (hm:X.mg x=some (.ref C)) (ha:PA X (e::es) t)
  (hd:(x==("__debug__":Str))=false:=by decide) (he:starEach (e::es) X.env=(false,eval e X.env)::starEach es X.env:=by rfl) (hpl:(backTo cpos (starEach es X.env)).any (·.1)=false:=by rfl):
  PS X (.Raise (some (.Call (.Name x np) (e::es) [] cpos)) none pos) (zOl C E t):=by
 intro pins s σ H D I h;obtain ⟨tl,N,nm,q,bs,hdct,sn,sub,ab,col,dd,k0,k1,k2,k3,k5,mN,hC,hN,hni,T⟩:=zNO I.mod.kin hq;refine wpAny_Raise_call_subT (C:=C) (nm:=nm) (q:=q) (N:=N) (bs:=bs) (bm:=tl) (hdct:=hdct) (sn:=sn) (sub:=sub) (ab:=ab) (col:=col) (dd:=dd) (k0:=k0) (k1:=k1) (k2:=k2) (k3:=k3) (k5:=k5)
  FB (mN:=mN) (T.hasType FB.hasBase) (I.ok.hd hc) (by rw [he]; show (false||(backTo cpos (starEach es X.env)).any (·.1))=false; rw [hpl]; rfl) hni (jh I hg hm ⟨rfl,?_⟩ hd)
 have ha':=ha cpos pins s σ H _ I h;rw [he] at ha' ⊢;refine Calls.evalArgs_plain (wpAny_mono ha' (λus s₂ ⟨vs,H1,I1,r,l,q⟩=>?_) λ_ _ y=>y);exact ⟨rfl,by rw [<-r.length]; exact qK l (by decide),I1.bk _ _ hC,hN.keeps I1.bk,T.keeps I1.bk,λh' ea hx=>hr pins σ H1 s₂ h' ea _ _ I1 hx q⟩
end
def PB (X:Cx) (st:List Stmt) (tb:XK->TS):Prop:=∀(pins:List (Addr×Obj)) (s:Shared) (σ:St) (H:Hp) (D:Ym) (E:XK) (F:Value->Shared->Prop),zN X pins σ H s->
 (∀H1 s1 e s',zN X pins σ H1 s1->Zv X.prog X.w X.stack H1 s1 E e s'->F e s')->tb E D σ H->wpAny (model X.prog X.w) X.A (execs st X.env) (SP X pins D) F s
section
variable {X:Cx} {k:Nat} {f:Addr} {fd:FuncData} {ps:List Str} {sp:Sp} {dvs:List V} {ds:List Value} {x:Str} {p pos cpos:Pos} {e:Expr} {es:List Expr} {t:TA}
end
def Y1 (ea:Addr) (C:Value):Heap->Prop:=λh=>∃o vs,h.get? ea=some o/\o.cls=C/\o.data= .fields vs
abbrev Cx.mark (X:Cx) (v:Value):Cx:={X with A:=X.A.mark (some v),calm:=false,xe:=λ_ _=>False}
section
variable {X:Cx} {pins:List (Addr×Obj)} {σ:St} {H:Hp} {s:Shared} {v:Value}
theorem zN.mark (I:zN X pins σ H s) (v:Value):zN (X.mark v) pins σ H s:=
 ⟨⟨I.ok.mod,I.ok.kind,I.ok.glob,I.ok.blt,I.ok.above,I.ok.inj,I.ok.has,I.ok.cab,λz=>Bool.noConfusion z,I.ok.frames,I.ok.stk,I.ok.exf,I.ok.bs,I.ok.bsz,I.ok.noex,I.ok.exfs,I.ok.funs,I.ok.frf⟩,I.os,I.bare,I.base,I.loc,I.cell,I.free,I.freeC,I.pin,I.hok,I.len⟩
theorem zN.unmark (ok:X.Ok) (I:zN (X.mark v) pins σ H s):zN X pins σ H s:=⟨ok,I.os,I.bare,I.base,I.loc,I.cell,I.free,I.freeC,I.pin,I.hok,I.len⟩
end
section
variable {X:Cx} {pins:List (Addr×Obj)} {σ:St} {H:Hp} {s:Shared}
theorem zNp {M:Model} {A:Around} {E:Value->Shared->Prop} {i:Nat} {x:Str} {pos:Pos} {Q:Unit->Shared->Prop} (I:zN X pins σ H s) (hN:X.N.Nodup) (hi:X.N[i]?=some x) (hk:X.env.scope.names.lookup x=some .local)
  (h:∀s',zN X pins (σ.set i none) H s'->Q () s'):wpAny M A (do bindName X.env x .none; unbindBehindTheSuite X.env x pos) Q E s:=by
 obtain ⟨m,hn,hl⟩:=id I.loc;have hcls:(X.env.scope.kind== .class||(X.env.scope.kind== .module&&X.env.locals !=X.env.globals))=false:=by rw [I.ok.kind]; rfl
 have hiσ:i<σ.length:=by rw [I.len]; exact (qZ.mp hi).1
 have cne:=I.cne;refine wpAny_nameGoes_keeps hk hn hcls (λh' vv hn' hs=>?_);obtain ⟨oL,_,_,hoL,_⟩:=id hn;have tracked:yV X.prog X.w H h':=λb ob e=>by
  refine (I.hok b ob e).stay (λc w' hc q=>(hs.2 c ?_).trans q) (λ_ q=>q) λ_ _ q=>q
  rintro rfl;rcases hc with rfl | hc
  ·rw [I.free] at e; cases e
  ·rw [I.free] at hc; cases hc
 refine h _ ⟨I.ok,I.os,I.bare,⟨λb o e n hb hx=>?_,λb o e n hb hx=>?_,I.base.free,λb o e hx=>?_,I.base.tups,I.base.frzs,I.base.tbls⟩,⟨_,hn',λj y v' e1 e2 e3=>?_⟩,λy c e=>?_,I.free,I.freeC,λp hp=>?_,tracked,by simpa using I.len⟩
 ·exact (hs.2 b (qT (qP (Heap.lt_size e) I.ok.above))).trans (I.base.keep b o e n hb hx)
 ·obtain ⟨sl,e1⟩:=I.base.slot b o e n hb hx
  exact ⟨sl,(hs.2 b (qT (qP (Heap.lt_size e) I.ok.above))).trans e1⟩
 ·obtain ⟨o',e1⟩:=I.base.there b o e hx
  exact ⟨o',(hs.2 b (qT (qP (Heap.lt_size e) I.ok.above))).trans e1⟩
 ·by_cases hj:j=i
  ·subst hj
   rw [xP hiσ] at e2;cases e2
  ·rw [XQ (Ne.symm hj)] at e2
   obtain ⟨u',r',q⟩:=hl j y v' e1 e2 e3;refine ⟨u',r',?_⟩;rcases q with ⟨k,e⟩ | ⟨k,c,e,z⟩
   ·refine .inl ⟨k,?_⟩
    have:y≠x:=λe=>hj (zBj hN e1 (e▸hi))
    simp [this,e]
   ·exact .inr ⟨k,c,e,z.sameBut hs (cne y c e)⟩
 ·obtain ⟨w',z⟩:=I.cell y c e
  exact ⟨w',z.sameBut hs (cne y c e)⟩
 ·obtain ⟨e,n,ne,nf,d⟩:=I.pin p hp
  exact ⟨(hs.2 p.1 ne).trans e,n,ne,nf,d⟩
theorem zN.track {a:Addr} {o:HO} (I:zN X pins σ H s) (hn:H a=none) (new:X.s₀.heap.get? a=none) (hL:X.env.locals≠a) (hC:∀x c,X.env.cells.lookup x=some c->c≠a) (hp:∀p∈X.pn++pins,p.1≠a)
  (hO:ZU X.prog X.w (upd H a o) s.heap a o):zN X pins σ (upd H a o) s:=by
 have ne:∀b u,H b=some u->b≠a:=λb u q z=>by rw [z,hn] at q; cases q
 have nw:∀b u,X.s₀.heap.get? b=some u->b≠a:=λb u q z=>by rw [z,new] at q; cases q
 refine ⟨I.ok,I.os,I.bare,⟨I.base.keep,I.base.slot,λb u q n hx=>by rw [zI (nw b u q)]; exact I.base.free b u q n hx,I.base.there,λb xs q=>?_,λb u xs q=>?_,λb ps q=>?_⟩,I.loc,I.cell,by rw [zI hL]; exact I.free,λx c e=>by rw [zI (hC x c e)]; exact I.freeC x c e,λp z=>?_,λb u e=>?_,I.len⟩
 ·have:=I.base.tups b xs q
  rw [zI (ne _ _ this)]; exact this
 ·have:=I.base.frzs b u xs q
  rw [zI (ne _ _ this)]; exact this
 ·obtain ⟨m,this⟩:=I.base.tbls b ps q
  exact ⟨m,by rw [zI (ne _ _ this)]; exact this⟩
 ·obtain ⟨e,n,ne',nf,d⟩:=I.pin p z
  exact ⟨e,by rw [zI (hp p z)]; exact n,ne',nf,d⟩
 ·by_cases h:b=a
  ·subst h
   rw [zD] at e;cases e;exact hO
  ·rw [zI h] at e
   exact (I.hok b u e).stay (λ_ _ _ q=>q) (λc q=>by rw [zI (ne _ _ q)]; exact q) λc xs q=>by rw [zI (ne _ _ q)]; exact q
end
section
variable {X:Cx} {S:Addr} {cls n c:Str} {i j:Nat} {np cp np2 apos hpos pos:Pos} {body:List Stmt} {tb:XK->TS}
end
end L2
namespace L2
open PySem PySem.Spec PyProof.Rows PySem.W PySem.Builtin PySem.Builtin.ObjectAttr PySem.Builtin.Getset_descriptor
section
variable {prog:Program} {w:World} {A:Around} {E:Value->Shared->Prop} {h:Heap} {g:Array GenState} {d:Drawn} {t:Nat} {os:OsState} {K:PySem.W.Frag} {a C:Addr} {o:Obj}
theorem zEJ {tp:Value} {R:Result->Shared->Prop} (X:K.In h) (hx:h.get? a=some o) (hc:o.cls= .ref C) (hm:mroIn K C (.type "object")=some true)
  (q:R (.ok (.ret (.ref C))) ⟨h,g,d,t,os⟩):codeAny (model prog w) A (.call (.builtin "getset_descriptor.__get__") ⟨[.builtin "object.__class__", .ref a,tp],[]⟩) R ⟨h,g,d,t,os⟩:=by
 have L0:Looks (model prog w) h (typeOf (.ref a)) (.ref C):=hc▸(Looks.ld hx).andThen .now;have L1:=looks_mroIn (M:=model prog w) X hm;refine codeAny_call_builtin KF.slot_gs.plain KF.entry_gs (KF.slot_gs.check _ _ _ _ _ _ _ _ KF.type_class (KF.args_gs _ _ _) ?_);unfold Builtin.«getset_descriptor.__get__» descrGet;rw [dga_obj];refine wpAny_bind (wpAny_pure ?_);unfold descrGetter descrCheckInstance descrNameAndClass isInstance;simp only [KF.owner_class]
 repeat lk
 refine ⟨Code.quiet_builtin _ (by decide +kernel),codeAny_builtin KF.entry_class ?_⟩;unfold Builtin.«object.__class__» shownTypeOf
 repeat lk
 exact q
structure jr (K:PySem.W.Frag) (C:Addr):Prop where
 ga:findIn K (.ref C) "__getattribute__"=some (some (.builtin "BaseException.__getattribute__"))
 gh:findIn K (.ref C) "__getattr__"=some none
 ca:findIn K (.ref C) "__class__"=some (some (.builtin "object.__class__"))
 ob:mroIn K C (.type "object")=some true
 be:mroIn K C (.type "BaseException")=some true
 cl:(clsIn K C).isSome=true
 hn:specialIn K (.builtin "object.__class__") "__get__"=some (some (.builtin "getset_descriptor.__get__"))
 htk:takesIn K (.builtin "object.__class__")=some true
theorem zLc {M:Model} (X:K.In h) (c:jr K C):Looks M h (find (.ref a) (.ref C) "__class__") (.bind (.builtin "getset_descriptor.__get__") (.builtin "object.__class__")):=by
 refine (looks_findIn X c.ca).andThen ((looks_specialIn X c.hn).andThen ?_);exact (show Looks M h (dataDescriptor? (some (.builtin "object.__class__")) (some (.builtin "getset_descriptor.__get__"))) _ from (looks_takesIn X c.htk).andThen .now).andThen (Looks.tag .now)
theorem zJY {tk:Tok} {Q:Fin->Shared->Prop} (X:K.In h) (c:jr K C) (hx:h.get? a=some o) (hc:o.cls= .ref C) (q:Q (.done (.ret (.ref C))) ⟨h,g,d,t,os⟩):
  wpAny (model prog w) A (Builtin.«object.__getattribute__» ⟨[.ref a, .str "__class__" tk],[]⟩) Q E ⟨h,g,d,t,os⟩:=by
 have L0:Looks (model prog w) h (typeOf (.ref a)) (.ref C):=hc▸(Looks.ld hx).andThen .now;have L1:=zLc (M:=model prog w) (a:=a) X c;unfold Builtin.«object.__getattribute__»;refine wpAny_bind (wpAny_pure (wpAny_bind (wpAny_pure (wpAny_bind (L0.at (wpAny_bind (L1.at ?_)))))));refine wpAny_bind (wpAny_holding (wpAny_call (zEJ X hx hc c.ob ?_)));exact wpAny_pure q
theorem zIP {M:Model} {nameV:Value} {Q:Unit->Shared->Prop} (X:K.In h) (c:jr K C) (hx:h.get? a=some o) (hc:o.cls= .ref C) (q:Q () ⟨h,g,d,t,os⟩):wpAny M A (checkBuiltinCall "BaseException.__getattribute__" ⟨[.ref a,nameV],[]⟩) Q E ⟨h,g,d,t,os⟩:=by
 have hk:builtinKind "BaseException.__getattribute__"=some .slot:=by decide +kernel
 have hsplit:splitId "BaseException.__getattribute__"=some ("BaseException","__getattribute__"):=by decide +kernel
 have ha:=F.args_bexc_ga (.ref a) nameV;have L0:Looks M h (typeOf (.ref a)) (.ref C):=hc▸(Looks.ld hx).andThen .now;have LI:Looks M h (isInstance (.ref a) (.type "BaseException")) true:=L0.andThen (looks_mroIn X c.be);simp only [checkBuiltinCall,hk,hsplit];refine wpAny_bind (LI.at ?_)
 repeat (first | wp_step)
 exact q
theorem zQF {tk:Tok} {Q:Value->Shared->Prop} (X:K.In h) (c:jr K C) (hx:h.get? a=some o) (hc:o.cls= .ref C) (q:Q (.ref C) ⟨h,g,d,t,os⟩):
  wpAny (model prog w) A (getAttrBy (.ref a) (.str "__class__" tk) false) Q E ⟨h,g,d,t,os⟩:=by
 have L0:Looks (model prog w) h (typeOf (.ref a)) (.ref C):=hc▸(Looks.ld hx).andThen .now;have L1:=looks_findIn (M:=model prog w) X c.ga;have L2:=looks_findIn (M:=model prog w) X c.gh;have hb:bindSpecial (.builtin "BaseException.__getattribute__") (.ref a)=pure (.builtin "BaseException.__getattribute__",[.ref a]):=by
  have hop:withoutEnding? "BaseException.__getattribute__" "#opaque"=none:=by decide +kernel
  have hdat:withoutEnding? "BaseException.__getattribute__" "#data"=none:=by decide +kernel
  have hk:builtinKind "BaseException.__getattribute__"=some .slot:=by decide +kernel
  simp only [bindSpecial,typeOf,builtinType,hop,hdat,hk]; rfl
 have hx2:(Value.builtin "BaseException.__getattribute__"==Value.builtin "object.__getattribute__")=false:=by decide +kernel
 have hx1:(onTheHeap (Value.ref C)&&Value.builtin "BaseException.__getattribute__"==Value.builtin "object.__getattribute__")=false:=by rw [hx2]; rfl
 unfold getAttrBy;refine wpAny_holding (wpAny_bind (L0.at (wpAny_bind (L1.at ?_))));dsimp only;rw [hx1,if_neg qN];unfold getAttrByItsOwn hookBefore;rw [show onTheHeap (Value.ref C)=true from rfl,if_pos rfl];refine wpAny_bind (L2.at (wpAny_bind (wpAny_attempt (wpAny_holding ?_))));unfold callGetattribute;rw [QH,if_neg qN];unfold boundAndCalled;rw [hb];refine wpAny_bind (wpAny_pure ?_);refine wpAny_call (codeAny_call_builtin (by decide +kernel) F.entry_bexc_ga (zIP X c hx hc (zJY X c hx hc ?_)));exact wpAny_pure q
theorem zFf (c:jr K C):KitX K (.ref a) (.ref C) (Y1 a (.ref C)) where
 ty:=λ_ _ _ ⟨_,_,hx,hc,_⟩=>hc▸(Looks.ld hx).andThen .now
 it:=λ_ _ X _=>by
  have hcD:=c.cl;unfold clsIn at hcD
  split at hcD
  ·rename_i c' d' cd' sl' ho
   intro A' Q' E' s' k q;unfold isType loadHead;exact wpAny_bind (wpAny_loadPart (k _ _ (X _ _ ho)) (wpAny_pure q))
  ·cases hcD
 ne:=λh tp dd its n sl X htp=>by
  have hcD:=c.cl;refine QR.mpr λq=>?_
  have e:C=tp:=Value.ref.inj (beq_iff_eq.mp q);subst e;unfold clsIn at hcD
  split at hcD
  ·rename_i c' d' cd' sl' ho
   have z:=(X _ _ ho).symm.trans htp;cases z
  ·cases hcD
 ca:=λ{_ _ _ _ _ s} X ⟨_,_,hx,hc,_⟩ k=>by
  obtain ⟨h,g,d,t,os⟩:=s;unfold getAttr? getAttrBy?;refine wpAny_bind (wpAny_mkText (wpAny_bind (wpAny_attempt (zQF X c hx hc ?_))));exact wpAny_pure k
end
end L2
namespace L2
open PySem PySem.Spec PyProof.Rows
def zMa (K:PySem.W.Frag):List V->Hp->VK->Prop:=λvs H Q=>∃(ea D:Addr) (c:V) (cv:Value) (b:Bool),vs=[.ref ea,c]/\H ea=some (.ext (Y1 ea (.ref D)))/\jr K D/\(∀u,zn c u->u=cv)/\PySem.W.kitOne K (.ref D) cv=some b/\Q (.bl b) H
theorem zIL {X:Cx}:yS X (.builtin "isinstance") (zMa X.K):=by
 intro pins s σ H vs us Q I r ⟨ea,D,c,cv,b,e,h,hc,hu,hk,q⟩;subst e;obtain ⟨u,v,rfl,h1,h2⟩:=r.two;cases h1;cases hu _ h2;have ho:Y1 ea (.ref D) s.heap:=(I.hok ea _ h).1;exact PySem.W.kia_one (zFf hc) I.kIn ho hk (λz=>nomatch z) λtk=>⟨.bl b,H,I.tok tk,rfl,q⟩
end L2
namespace L2
open PySem PySem.Spec PyProof.Rows
def noE (sp:Sp):Sp:=λvs H Q _=>sp vs H Q λ_ _ _=>False
theorem zH.cx0 {P:Program} {w:World} {K:PySem.W.Frag} {mg:Str->Option Value} {base:Heap} {k:Nat} {f:Addr} {fd:FuncData} {ps:List Str} {sp:Sp} (F:zH P w K mg base (Zv P w) k f fd ps sp):zH P w K mg base zT k f fd ps (noE sp):=
 ⟨λvs H Q E h=>F.len vs H Q _ h,λA outer s H args us vs Q E hr he hb hv hs=>codeAny_mono (F.run A outer s H args us vs Q _ hr he hb hv hs) λr s' q=>by
  cases r with
  | error e=>
   obtain ⟨ea,C,a0,H',B,_,_,_,_,_,_,_,_,z⟩:=q;exact z.elim
  | ok fl=>cases fl <;> exact q⟩
end L2
namespace L2
open PySem PySem.Spec PyProof.Rows
def zEX:Nat->PyData->Bool
 | _, .none=>true
 | _, .bool _=>true
 | _, .int _=>true
 | _, .str _=>true
 | n+1, .list ds=>ds.all (zEX n)
 | n+1, .tuple ds=>ds.all (zEX n)
 | _,_=>false
theorem ZK.get {H:Hp}:∀{xs:List V} {ds:List PyData},ZK H xs ds->∀{j:Nat} {x:V},xs[j]?=some x->∃d,ds[j]?=some d/\yD H x d
 | _,_, .nil,_,_,h=>by cases h
 | _,_, .cons a t,0,_,h=>by cases h; exact ⟨_,rfl,a⟩
 | _,_, .cons _ t,j+1,_,h=>t.get (j:=j) h
theorem zFi (n:Nat):(List.range n).all (λ_=>true)=true:=QM.mpr λ_ _=>rfl
theorem zMh {K:PySem.W.Frag} {H:Hp}:∀(n:Nat) {x y:V} {d:PyData},zEX n d=true->yD H x d->yD H y d->YO K H n x y true:=by
 intro n
 induction n with
 | zero=>
  intro x y d f a b;cases a with
  | non=>cases b; exact .non
  | bl i=>cases b; have q:=YO.bl (K:=K) (H:=H) (n:=0) i i; rw [beq_self_eq_true] at q; exact q
  | int i=>cases b; have q:=YO.int (K:=K) (H:=H) (n:=0) i i; rw [beq_self_eq_true] at q; exact q
  | str i=>cases b; have q:=YO.str (K:=K) (H:=H) (n:=0) i i; rw [beq_self_eq_true] at q; exact q
  | _=>cases f
 | succ n ih=>
  intro x y d f a b;cases a with
  | non=>cases b; exact .non
  | bl i=>cases b; have q:=YO.bl (K:=K) (H:=H) (n:=n+1) i i; rw [beq_self_eq_true] at q; exact q
  | int i=>cases b; have q:=YO.int (K:=K) (H:=H) (n:=n+1) i i; rw [beq_self_eq_true] at q; exact q
  | str i=>cases b; have q:=YO.str (K:=K) (H:=H) (n:=n+1) i i; rw [beq_self_eq_true] at q; exact q
  | @lst a1 xs ds e1 h1=>
   cases b with
   | @lst a2 ys _ e2 h2=>
    by_cases z:a1=a2
    ·rw [z]; exact .same _
    ·have q:=YO.lst (K:=K) (n:=n) (e:=λ_=>true) z (zQ.of e1) (zQ.of e2) (h1.len.trans h2.len.symm) λj x y hx hy=>by
      obtain ⟨d1,g1,k1⟩:=h1.get hx;obtain ⟨d2,g2,k2⟩:=h2.get hy;rw [g1] at g2;cases g2;exact ih (QM.mp f d1 (xA g1)) k1 k2
     rw [zFi] at q;exact q
  | @tup a1 xs ds e1 h1=>
   cases b with
   | @tup a2 ys _ e2 h2=>
    by_cases z:a1=a2
    ·rw [z]; exact .same _
    ·have q:=YO.tup (K:=K) (n:=n) (e:=λ_=>true) z (Zd.of e1) (Zd.of e2) (h1.len.trans h2.len.symm) λj x y hx hy=>by
      obtain ⟨d1,g1,k1⟩:=h1.get hx;obtain ⟨d2,g2,k2⟩:=h2.get hy;rw [g1] at g2;cases g2;exact ih (QM.mp f d1 (xA g1)) k1 k2
     rw [zFi] at q;exact q
  | _=>cases f
theorem zFk {K:PySem.W.Frag} {H:Hp} {a b:Addr} {xs ys:List V} {ds:List PyData} (f:ds.all (zEX 4)=true) (e1:H a=some (.lst xs)) (h1:ZK H xs ds) (e2:H b=some (.lst ys)) (h2:ZK H ys ds):jy K H (.ref a) (.ref b) true:=by
 have q:=jy.lst (K:=K) (e:=λ_=>true) (zQ.of e1) (zQ.of e2) (h1.len.trans h2.len.symm) λj x y hx hy=>by
  obtain ⟨d1,g1,k1⟩:=h1.get hx;obtain ⟨d2,g2,k2⟩:=h2.get hy;rw [g1] at g2;cases g2;exact zMh 4 (QM.mp f d1 (xA g1)) k1 k2
 rw [zFi] at q;exact q
end L2
namespace L2
open PySem PySem.Spec PyProof.Rows
section
variable {X:Cx}
end
section
variable {X:Cx} {k:Nat} {f:Addr} {fd:FuncData} {ps:List Str} {sp:Sp} {dvs:List V} {ds:List Value} {x y:Str} {i:Nat} {p pos pos' cpos:Pos} {e:Expr} {es:List Expr} {t:TA}
end
end L2
namespace L2
open PySem PySem.Spec PyProof.Rows
end L2
namespace L2
open PySem PySem.Spec PyProof.Rows
section
variable {X:Cx} {S:Addr} {cls n:Str} {j:Nat} {np hpos pos:Pos} {b0:Stmt} {body suite:List Stmt} {tb:XK->TS} {th:TS}
def zMT (K:PySem.W.Frag) (S:Addr) (j:Nat) (tb:XK->TS) (th:TS):TS:=λD σ H=>
 tb (λC _ H'=>PySem.W.exmOne K C (.ref S)=some true/\∀ea:Addr,H' ea=none->th {nx:=λσ' H''=>D.nx (σ'.set j none) H'',rt:=λ_ _=>False} (σ.set j (some (.ref ea))) (upd H' ea (.ext (Y1 ea C)))) D σ H
theorem zNM (hb:PB X body tb) (hh:∀v,Yl (X.mark v) (b0::suite) th) (hst:X.stack=X.env::X.outer) (hfr:X.env.frame=some X.env.locals) (hex:X.ex=[]) (hN:X.N.Nodup) (hg:Gl X cls) (hm:X.mg cls=some (.ref S))
  (hj:X.N[j]?=some n) (hn:X.env.scope.names.lookup n=some .local) (hd:(cls==("__debug__":Str))=false:=by decide):
  PS X (.Try body [.ExceptHandler (some (.Name cls np)) (some n) (b0::suite) hpos] [] [] pos) (zMT X.K S j tb th):=by
 intro pins s σ H D I h;refine wpAny_Try_except (wpAny_mono (hb pins s σ H D _ (λe s₁=>wpAny (model X.prog X.w) X.A (noteFrame e X.env) (λ_ s₂=>wpAny (model X.prog X.w) X.A (setFlight e none) (λ_ s₃=>wpAny (model X.prog X.w) X.A (handleBy e X.env [.ExceptHandler (some (.Name cls np)) (some n) (b0::suite) hpos]) (SP X pins D) X.xe s₃) X.xe s₂) X.xe s₁) I (λH1 s1 e s' I1 hx=>?_) h) (λfl s1 q=>?_) λ_ _ z=>z)
 ·obtain ⟨ea,C,a0,H',B,rfl,os,bare,un,hok,fl,hB,hn',hE,hk⟩:=hx
  rw [hst] at fl;refine wpAny_looks_onW (outer:=X.outer) (by rw [I1.ok.frames,hst]) hfr fl λh₄ held₄ up₄=>?_
  refine wpAny_landsW held₄ λh₅ fl₅ up₅=>?_
  have J:=I1.flown os bare un hok hB fl₅.1 (up₄.trans up₅);have LT:PySem.W.Looks (model X.prog X.w) h₅ (typeOf (.ref ea)) C:=by
   obtain ⟨ob,hob,hobc⟩:=fl₅.there;exact hobc▸(PySem.W.Looks.ld hob).andThen .now
  refine wpAny_handleBy_cons (codeAny_handlers_test (jh (J.mark (.ref ea)) hg hm ?_ hd)) (by intro q; cases q);refine PySem.W.Looks.here (PySem.W.exm_one (K:=X.K) J.kIn LT hE) ?_;refine codeAny_handlers_suite_as (lands_againW fl₅ λh₆ fl₆ up₆=>?_);have J6:=I1.flown os bare un hok hB fl₆.1 ((up₄.trans up₅).trans up₆);obtain ⟨oe,ws,hoe,hoec,hoed,_⟩:=fl₆.first;have nofr:ea∉yP X.stack:=λm=>by
   rw [hst] at m;obtain ⟨_,o,q,nf⟩:=fl₆.2.2.1.mem m;rw [hoe] at q;cases q;exact nf _ hoed
  have inB:∀b o,s1.heap.get? b=some o->b∉yP X.stack->b≠ea:=λb o q m z=>by
   obtain ⟨o',q'⟩:=un.there b o q (by simp);have e:=hB b o' q' (.inl ⟨⟨o,q⟩,m⟩);rw [z,fl₆.2.1] at e;cases e
  have hLs:X.env.locals∈yP X.stack:=by
   rw [hst];unfold yP;rw [XJ,hfr];exact qD
  have T:zN X pins σ (upd H' ea (.ext (Y1 ea C))) {s' with heap:=h₆}:=by
   refine J6.track hn' ?_ (λz=>nofr (z▸hLs)) (λx c e z=>?_) (λp hp=>?_) ⟨⟨oe,ws,hoe,hoec,hoed⟩,⟨oe,hoe⟩,λa b ⟨o,us,q1,q2⟩ k=>⟨o,us,k o q1,q2⟩⟩
   ·cases q:X.s₀.heap.get? ea with
    | none=>rfl
    | some o=>
     have ib:=I1.base;rw [hex] at ib;obtain ⟨o1,q1⟩:=ib.there ea o q (by simp);exact absurd rfl (inB ea o1 q1 nofr)
   ·obtain ⟨v,o,q,d⟩:=J6.cell x c e
    have q':h₆.get? c=some o:=q;rw [z,hoe] at q';cases q';rw [hoed] at d;cases d
   ·obtain ⟨e,n,ne,nf,d⟩:=I1.pin p hp
    refine inB p.1 p.2 e λm=>?_
    rw [hst] at m;unfold yP at m;rw [XJ,hfr] at m;rcases qG.mp m with z | z
    ·exact ne z
    ·exact nf z
  refine JW T hN hj (.inl hn) (show zn (.ref ea) (.ref ea) from rfl) (λs7 I7=>?_) (.inr hn);refine wpAny_mono (hh (.ref ea) pins s7 _ _ _ (I7.mark (.ref ea)) (hk ea hn')) (λfl s8 q=>?_) (λ_ _ z=>z.elim);cases fl with
  | next=>
   obtain ⟨σ',H'',I8,q8⟩:=q;exact zNp (zN.unmark I1.ok I8) hN hj hn λs9 I9=>⟨_,_,I9,q8⟩
  | ret v=>obtain ⟨_,_,_,_,_,z⟩:=q; exact z.elim
  | brk=>obtain ⟨_,_,_,z⟩:=q; exact z.elim
  | cont=>obtain ⟨_,_,_,z⟩:=q; exact z.elim
 ·cases fl with
  | next=>exact wpAny_execs_nil q
  | ret v=>exact q
  | brk=>exact q
  | cont=>exact q
end
section
variable {X:Cx} {k:Nat} {f:Addr} {fd:FuncData} {ps:List Str} {sp:Sp} {dvs:List V} {ds:List Value} {x:Str} {p pos cpos:Pos} {e tg:Expr} {es:List Expr} {t:TA} {g:TG}
end
section
variable {X:Cx}
def zLt (K:PySem.W.Frag):List V->Hp->VK->Prop:=λvs H Q=>∃(ea D tp:Addr) (cs:List V) (cvs:List Value) (b:Bool),vs=[.ref ea, .ref tp]/\H ea=some (.ext (Y1 ea (.ref D)))/\jr K D/\H tp=some (.tup cs)/\(∀us,zi cs us->us=cvs)/\PySem.W.kitAny K (.ref D) cvs=some b/\Q (.bl b) H
theorem zIe:yS X (.builtin "isinstance") (zLt X.K):=by
 intro pins s σ H vs us Q I r ⟨ea,D,tp,cs,cvs,b,e,h,hc,ht,hu,hk,q⟩;subst e;obtain ⟨u,v,rfl,h1,h2⟩:=r.two;cases h1;cases h2;have ho:Y1 ea (.ref D) s.heap:=(I.hok ea _ h).1;obtain ⟨_,its,rv,o,o1,o2,m,o3⟩:=I.hok tp _ ht;cases hu _ rv;obtain ⟨c,dd,da,sl⟩:=o;cases o2;cases o3;exact PySem.W.kia_tup (zFf hc) I.kIn ho o1 hk (λz=>nomatch z) λtk=>⟨.bl b,H,I.tok tk,rfl,q⟩
theorem zSC {i:Int} (h:i.natAbs<10^570):i.natAbs.log2<1920:=by
 by_cases z:i.natAbs=0
 ·rw [z]; decide
 ·exact (Nat.log2_lt z).mpr (Nat.lt_trans h (by decide +kernel))
theorem zDj:yS X (.type "str") (λvs H Q=>∃i:Int,vs=[.int i]/\i.natAbs<10^570/\Q (.str (ZF i)) H):=by
 intro pins s σ H vs us Q I r ⟨i,e,h,q⟩;subst e;cases r with
 | cons r1 r2=>
  cases r2;obtain ⟨t,rfl⟩:=r1;exact PySem.P.str_of_int (zSC h) ⟨.str (ZF i),H,I.tok _,⟨_,rfl⟩,q⟩
theorem yf (K:PySem.W.Frag) (h:X.K=K:=by rfl):yS X (.builtin "isinstance") (zMa K):=by
 subst h;exact zIL
theorem zHI (K:PySem.W.Frag) (h:X.K=K:=by rfl):yS X (.builtin "isinstance") (zLt K):=by
 subst h;exact zIe
end
end L2
namespace L2
open PySem PySem.Spec PyProof.Rows
abbrev jf:List Nat:=(Str.ofString "0123456789").cps.toList
theorem zLM (c:Nat):c∈jf↔48≤c/\c≤57:=by
 have e:jf=[48,49,50,51,52,53,54,55,56,57]:=by decide
 rw [e];simp only [qG,QZ,or_false];omega
def zPu (z:Str):Bool:=z.cps.toList.all λc=>decide (c∈jf)
theorem zFZ {z:Str} (h:zPu z=true):NumText.AllDigits z.cps.toList:=λc hc=>(zLM c).mp (of_decide_eq_true (QM.mp h c hc))
def ya (z:Str):Bool:=(!decide (z=Str.ofString "")&&z.cps.toList.all λc=>decide (c∈jf))&&(decide (z=Str.ofString "0")|| !decide (z.cps.toList[0]?=some 48))
def ZT (z:Str):Int:=((NumText.digitsVal z.cps.toList:Nat):Int)
theorem zGX {z:Str} (h:z≠Str.ofString ""):z.cps.toList≠[]:=λe=>h (Zl (by rw [e]; rfl))
theorem zEn {z:Str} (h:ya z=true):z≠Str.ofString ""/\zPu z=true/\(z=Str.ofString "0"\/z.cps.toList[0]?≠some 48):=by
 unfold ya at h;rw [qM,qM,Bool.or_eq_true,QQ,QQ,decide_eq_false_iff_not,decide_eq_false_iff_not,decide_eq_true_eq] at h;exact ⟨h.1.1,h.1.2,h.2⟩
theorem zIk {c:Nat} (h:48≤c/\c≤57):(Char.ofNat c).toNat=c:=by
 have:∀c,c<58->48≤c->(Char.ofNat c).toNat=c:=by decide
 exact this c (by omega) h.1
theorem zPZ {z:Str} (h:ya z=true):ZF (ZT z)=z:=by
 obtain ⟨h1,h2,h3⟩:=zEn h;refine Zl ?_;unfold ZT;rw [zBx];have hd:=zFZ h2;have hn:=zGX h1;obtain ⟨c,r,e⟩:=xO hn;rw [PySem.NumText.toDigits_digitsVal r.length z.cps.toList (by rw [e]; rfl) hd ?_]
 ·rw [qU]
  refine (xI λc hc=>?_).trans (List.map_id _);exact zIk (hd c hc)
 ·rcases h3 with h3 | h3
  ·left
   rw [h3] at e;have e:(48:Nat)::[]=c::r:=e;rw [<-(List.cons.inj e).2];rfl
  ·right
   refine ⟨c,r,e,?_⟩;have:=hd c (by rw [e]; exact qD);have ne:c≠48:=λq=>h3 (by rw [e,q]; rfl)
   omega
theorem zBu {z:Str} (h:ya z=true) (l:z.length≤640):PySem.intText? z=some (ZT z):=by
 obtain ⟨h1,h2,h3⟩:=zEn h;exact PySem.intText_digits (zFZ h2) (zGX h1) (qK l (by decide))
theorem zNX (z:Str):0≤ZT z:=Int.natCast_nonneg _
theorem zFa {c:Nat}:∀{l:List Nat},c∈l->∃a b,l=a++c::b/\c∉a
 | x::r,h=>by
  by_cases e:x=c
  ·exact ⟨[],r,by rw [e]; rfl,λz=>nomatch z⟩
  ·have h2:c∈r:=by
    rcases qG.mp h with z | z
    ·exact absurd z.symm e
    ·exact z
   obtain ⟨a,b,e1,e2⟩:=zFa h2;refine ⟨x::a,b,by rw [e1]; rfl,λz=>?_⟩;rcases qG.mp z with z | z
   ·exact e z.symm
   ·exact e2 z
def jG (l:List Nat):Str:=⟨l.toArray⟩
def Je (z:Str):Option (List Str):=if z=Str.ofString "" then some [] else if z.cps.toList[0]?=some 32 then some (Txt.split (Txt.slice z (some 1) none) (zW 32)) else none
def yh (few:Int) (ns:List Int):Bool:=yp few (.list (ns.map PyData.int))
def rd2 (a b:Str):Option (List Int×List Int):=
 if (Txt.split a (zW 32)).all ya=true then
  match Je b with
  | none=>none
  | some vs=>if vs.all ya=true then (if (yh 1 ((Txt.split a (zW 32)).map ZT)&&yh 0 (vs.map ZT))=true then some ((Txt.split a (zW 32)).map ZT,vs.map ZT) else none) else none
 else none
def RdT (z:Str) (r:Option (List Int×List Int)):Prop:=(58∉z.cps.toList/\r=none)\/∃a b:Str,58∉a.cps.toList/\z.cps.toList=a.cps.toList++58::b.cps.toList/\r=rd2 a b
theorem zGi (z:Str):∃r,RdT z r:=by
 by_cases h:58∈z.cps.toList
 ·obtain ⟨a,b,e,n⟩:=zFa h
  exact ⟨_, .inr ⟨jG a,jG b,n,e,rfl⟩⟩
 ·exact ⟨none, .inl ⟨h,rfl⟩⟩
theorem zDr {z:Str} {r:List Nat} (h:z.cps.toList=32::r):(Txt.slice z (some 1) none).cps.toList=r:=by
 have hl:z.cps.toList.length=r.length+1:=by rw [h,qL]
 have e:Txt.slice z (some 1) none=(⟨((z.cps.toList.drop (1:Int).toNat).take ((z.cps.toList.length:Int) - 1).toNat).toArray⟩:Str):=StrLaws.sliceText_from ⟨by decide,by rw [hl]; omega⟩;rw [e];show List.take _ _=_;rw [h];exact QO (by show r.length≤_; rw [qL]; omega)
theorem zNr {ws:List Str} (h:ws.all ya=true):(ws.map ZT).map ZF=ws:=by
 rw [qU];refine (xI λw hw=>?_).trans (List.map_id _);exact zPZ (QM.mp h w hw)
theorem zFE {a:Str} (h:(Txt.split a (zW 32)).all ya=true):Zk ((Txt.split a (zW 32)).map ZT)=a:=by
 rw [zBN,zNr h,zDf];exact StrLaws.join_split _ _
theorem zMD {l:List Nat} {c:Nat} (h:l[0]?=some c):∃r,l=c::r:=by
 cases l with
 | nil=>cases h
 | cons x r=>exact ⟨r,by cases h; rfl⟩
theorem zEC {b:Str} {vs:List Str} (h:Je b=some vs) (hv:vs.all ya=true):yg (vs.map ZT)=b:=by
 unfold Je at h
 split at h
 ·rename_i e
  cases h;exact e.symm
 ·split at h
  ·rename_i n0 h0
   cases h;obtain ⟨r,er⟩:=zMD h0;have es:=zDr er;obtain ⟨w,ws,ew⟩:=xO (jZ (Txt.slice b (some 1) none) 32);have rb:=zFE hv;rw [ew,qQ] at rb ⊢;refine Zl ?_;rw [yw,rb,es,er]
  ·cases h
theorem zBF {z:Str} {ns ss:List Int} (h:RdT z (some (ns,ss))):jm ns ss=z/\(yh 1 ns&&yh 0 ss)=true:=by
 rcases h with ⟨_,h⟩ | ⟨a,b,na,ez,h⟩
 ·cases h
 ·unfold rd2 at h
  split at h
  ·rename_i wa
   split at h
   ·cases h
   ·rename_i vs hvs
    split at h
    ·rename_i wv
     split at h
     ·rename_i hr
      cases h;refine ⟨Zl ?_,hr⟩;rw [zAW,zFE wa,zEC hvs wv,ez]
     ·cases h
    ·cases h
  ·cases h
def upB:List Int->Bool
 | []=>true
 | [_]=>true
 | a::b::r=>decide (a<b)&&upB (b::r)
theorem zJm:∀l:List Int,upB l=true↔l.Pairwise (·<·)
 | []=>by simp [upB]
 | [a]=>by simp [upB]
 | a::b::r=>by
  rw [upB,qM,decide_eq_true_eq,zJm (b::r),QT (a:=a)];constructor
  ·rintro ⟨h1,h2⟩
   refine ⟨λx hx=>?_,h2⟩;rcases qG.mp hx with e | e
   ·rw [e]; exact h1
   ·exact Int.lt_trans h1 ((QT.mp h2).1 x e)
  ·rintro ⟨h1,h2⟩
   exact ⟨h1 b qD,h2⟩
def lnB (few:Nat) (ws:List Str):Bool:=(decide (few≤ws.length)&&decide (ws.length≤10))&&(ws.all ya&&upB (ws.map ZT))
theorem zAI:∀(ns:List Int) (b:Int),Zh b (ns.map PyData.int)=true↔(b::ns).Pairwise (·<·)
 | [],b=>by simp [Zh]
 | n::r,b=>by
  rw [qQ,Zh,qM,decide_eq_true_eq,zAI r n,QT (a:=b)];constructor
  ·rintro ⟨h1,h2⟩
   refine ⟨λx hx=>?_,h2⟩;rcases qG.mp hx with e | e
   ·rw [e]; exact h1
   ·exact Int.lt_trans h1 ((QT.mp h2).1 x e)
  ·rintro ⟨h1,h2⟩
   exact ⟨h1 n qD,h2⟩
theorem zDU (few:Nat) (ws:List Str):yh few (ws.map ZT)=((decide (few≤ws.length)&&decide (ws.length≤10))&&upB (ws.map ZT)):=by
 have e:yh few (ws.map ZT)=(decide ((few:Int)≤(((ws.map ZT).map PyData.int).length:Int))&&(decide (((ws.map ZT).map PyData.int).length≤10)&&Zh (-1) ((ws.map ZT).map PyData.int))):=rfl;rw [e,qA,qA,<-Bool.and_assoc]
 congr 1
 ·congr 1
  exact decide_eq_decide.mpr Int.ofNat_le
 ·rw [QY,zAI,zJm,QT]
  constructor
  ·exact λh=>h.2
  ·refine λh=>⟨λx hx=>?_,h⟩
   obtain ⟨w,_,rfl⟩:=qY.mp hx;have:=zNX w;omega
theorem zIw (few:Nat) (ws:List Str):lnB few ws=(ws.all ya&&yh few (ws.map ZT)):=by
 unfold lnB;rw [zDU];cases ws.all ya <;> cases (decide (few≤ws.length)&&decide (ws.length≤10)) <;> rfl
def wr2 (a b:Str):Bool:=lnB 1 (Txt.split a (zW 32))&&(decide (b=Str.ofString "")||(decide ((Txt.split b (zW 32))[0]?=some (Str.ofString ""))&&lnB 1 ((Txt.split b (zW 32)).drop 1)))
theorem zFz {b:Str} {r:List Nat} (h:b.cps.toList=32::r):Txt.split b (zW 32)=Str.ofString ""::Txt.split (jG r) (zW 32):=by
 have e:b=Str.join (zW 32) (Str.ofString ""::Txt.split (jG r) (zW 32)):=by
  obtain ⟨w,ws,ew⟩:=xO (jZ (jG r) 32);refine Zl ?_;rw [ew,ZZ,<-ew,StrLaws.join_split,h];rfl
 have k:=JF (c:=32) (ws:=Str.ofString ""::Txt.split (jG r) (zW 32)) (λx hx=>?_) (List.cons_ne_nil _ _)
 ·rw [<-e] at k
  exact k
 ·rcases qG.mp hx with z | z
  ·rw [z]
   exact λz=>nomatch z
  ·exact StrLaws.split_free _ 32 x z
theorem zMk {a b:Str} (hb:58∉b.cps.toList\/(rd2 a b).isSome=true):wr2 a b=(rd2 a b).isSome:=by
 clear hb
 unfold wr2 rd2;rw [zIw];by_cases wa:(Txt.split a (zW 32)).all ya=true
 ·rw [if_pos wa,wa,QL]
  by_cases b0:b=Str.ofString ""
  ·have e:Je b=some []:=by unfold Je; rw [if_pos b0]
   rw [e,decide_eq_true b0,Bool.true_or,Bool.and_true];show _=(if [].all ya=true then _ else none:Option (List Int×List Int)).isSome;rw [if_pos (show ([]:List Str).all ya=true from rfl)];have e2:yh 0 (([]:List Str).map ZT)=true:=rfl;rw [e2,Bool.and_true];show yh ((1:Nat):Int) _=_;cases yh 1 ((Txt.split a (zW 32)).map ZT) <;> rfl
  ·rw [decide_eq_false b0,Bool.false_or]
   by_cases h0:b.cps.toList[0]?=some 32
   ·obtain ⟨r,er⟩:=zMD h0
    have es:Txt.slice b (some 1) none=jG r:=Zl (zDr er);have e:Je b=some (Txt.split (jG r) (zW 32)):=by unfold Je; rw [if_neg b0,if_pos h0,es]
    rw [e,zFz er];show (_&&(decide (some (Str.ofString "")=some (Str.ofString ""))&&lnB 1 (Txt.split (jG r) (zW 32))))=(if (Txt.split (jG r) (zW 32)).all ya=true then _ else none:Option (List Int×List Int)).isSome;rw [decide_eq_true rfl,QL,zIw];by_cases wv:(Txt.split (jG r) (zW 32)).all ya=true
    ·rw [if_pos wv,wv,QL]
     have e3:yh ((1:Nat):Int) ((Txt.split (jG r) (zW 32)).map ZT)=yh 0 ((Txt.split (jG r) (zW 32)).map ZT):=by
      have q1:=zDU 1 (Txt.split (jG r) (zW 32));have q0:=zDU 0 (Txt.split (jG r) (zW 32));rw [q1,show (0:Int)=((0:Nat):Int) from rfl,q0];have n0:=jZ (jG r) 32;have l1:1≤(Txt.split (jG r) (zW 32)).length:=by
       rcases Nat.eq_zero_or_pos (Txt.split (jG r) (zW 32)).length with z | z
       ·exact absurd (List.eq_nil_of_length_eq_zero z) n0
       ·exact z
      rw [decide_eq_true l1,decide_eq_true (QG _)]
     rw [e3];show (yh ((1:Nat):Int) _&&_)=_;cases (yh 1 ((Txt.split a (zW 32)).map ZT)&&yh 0 ((Txt.split (jG r) (zW 32)).map ZT)) <;> rfl
    ·rw [if_neg wv,QR.mpr wv,QH,XU]
     rfl
   ·have e:Je b=none:=by unfold Je; rw [if_neg b0,if_neg h0]
    rw [e];have e2:decide ((Txt.split b (zW 32))[0]?=some (Str.ofString ""))=false:=by
     refine decide_eq_false λz=>h0 ?_
     obtain ⟨w,ws,ew⟩:=xO (jZ b 32);rw [ew] at z;have ew0:w=Str.ofString "":=Option.some.inj z;have eb:=StrLaws.join_split b (zW 32);rw [ew,ew0] at eb;cases ws with
     | nil=>exact absurd eb.symm b0
     | cons v vs=>
      rw [<-eb,ZZ];rfl
    rw [e2,QH,XU];rfl
 ·rw [if_neg wa,QR.mpr wa,QH,QH]
  rfl
def wrT (z:Str):Bool:=decide ((Txt.split z (zW 58)).length=2)&&wr2 ((Txt.split z (zW 58)).getD 0 Str.empty) ((Txt.split z (zW 58)).getD 1 Str.empty)
theorem zLg {a b:Str} (h:(rd2 a b).isSome=true):58∉b.cps.toList:=by
 unfold rd2 at h
 split at h
 ·split at h
  ·cases h
  ·rename_i vs hvs
   split at h
   ·rename_i wv
    rw [<-zEC hvs wv];cases ev:vs.map ZT with
    | nil=>exact λz=>nomatch z
    | cons v r=>
     rw [yw];intro z;rcases qG.mp z with z | z
     ·cases z
     ·exact zAv _ z
   ·cases h
 ·cases h
theorem zIy {a b z:Str} (ha:58∉a.cps.toList) (hb:58∉b.cps.toList) (ez:z.cps.toList=a.cps.toList++58::b.cps.toList):Txt.split z (zW 58)=[a,b]:=by
 have e:z=Str.join (zW 58) [a,b]:=Zl (by rw [ZZ,ez]; rfl);rw [e];refine JF (λx hx=>?_) (List.cons_ne_nil _ _);simp only [qG,QZ,or_false] at hx;rcases hx with h | h <;> rw [h]
 ·exact ha
 ·exact hb
theorem zGu {z:Str} {r:Option (List Int×List Int)} (h:RdT z r):wrT z=r.isSome:=by
 rcases h with ⟨nc,rfl⟩ | ⟨a,b,na,ez,rfl⟩
 ·have e:Txt.split z (zW 58)=[z]:=by
   have q:=JF (c:=58) (ws:=[z]) (λx hx=>by rw [qH.mp hx]; exact nc) (List.cons_ne_nil _ _);exact q
  unfold wrT;rw [e];rfl
 ·by_cases nb:58∉b.cps.toList
  ·unfold wrT
   rw [zIy na nb ez];show (decide (2=2)&&wr2 a b)=_;rw [decide_eq_true rfl,QL];exact zMk (.inl nb)
  ·have e1:(rd2 a b).isSome=false:=QR.mpr λq=>nb (zLg q)
   rw [e1];unfold wrT;have e2:decide ((Txt.split z (zW 58)).length=2)=false:=by
    refine decide_eq_false λq=>nb ?_
    match hs:Txt.split z (zW 58),q with
    | [x,y],_=>
     have ej:=StrLaws.join_split z (zW 58);rw [hs] at ej;have ex:z.cps.toList=x.cps.toList++58::y.cps.toList:=by rw [<-ej,ZZ]; rfl
     have fx:58∉x.cps.toList:=StrLaws.split_free z 58 x (by show x∈Txt.split z (zW 58); rw [hs]; exact qD);have fy:58∉y.cps.toList:=StrLaws.split_free z 58 y (by show y∈Txt.split z (zW 58); rw [hs]; exact qF _ qD);rw [ez] at ex;obtain ⟨_,e4⟩:=jD na fx ex;rw [e4];exact fy
   rw [e2,QH]
theorem zJM {i:Int} {k:Nat} (hk:0<k) (h:i.natAbs<10^k):(ZF i).length≤k+1:=by
 have q:=int_text_length_le10 hk h;have q2:(Str.ofString (toString i)).length=(toString i).length:=PySem.ofString_length _;show (Str.ofString (toString i)).length≤k+1;omega
theorem zBA {B:Nat}:∀{zs:List Int},(∀x∈zs,(ZF x).length≤B)->(Zk zs).length≤(B+1)*zs.length
 | [],_=>qE _
 | [x],h=>by
  have e:(Zk [x]).length=(ZF x).length:=by show (Zk [x]).cps.size=(ZF x).cps.size; rw [<-qJ,Y2,qJ]
  have:=h x qD;rw [e];show _≤(B+1)*1;omega
 | x::y::r,h=>by
  have ih:=zBA (zs:=y::r) λz hz=>h z (qF _ hz)
  have h1:=h x qD;have e:(Zk (x::y::r)).length=(ZF x).length+((Zk (y::r)).length+1):=by
   show (Zk (x::y::r)).cps.size=(ZF x).cps.size+((Zk (y::r)).cps.size+1);rw [<-qJ,Yb,qI,qL,qJ,qJ]
  rw [e];have e2:(B+1)*(x::y::r).length=(B+1)*(y::r).length+(B+1):=by rw [qL (a:=x),Nat.mul_succ]
  omega
theorem zIG {B:Nat} {ss:List Int} (h:∀x∈ss,(ZF x).length≤B):(yg ss).length≤(B+1)*ss.length+1:=by
 cases ss with
 | nil=>exact QG _
 | cons s r=>
  have e:(yg (s::r)).length=(Zk (s::r)).length+1:=by
   show (yg (s::r)).cps.size=(Zk (s::r)).cps.size+1;rw [<-qJ,yw,qL,qJ]
  rw [e];exact Nat.succ_le_succ (zBA h)
theorem zHH {zs:List Int} (h:∀x∈zs,(ZF x).length≤571) (l:zs.length≤100):JoinOk (Str.ofString " ") (zs.map ZF)=true:=by
 refine joinOk_of_weight ?_ (by decide);have:=Jr (l:=(zs.map ZF).map (·.length)) (B:=571) λx hx=>by
  obtain ⟨y,hy,rfl⟩:=qY.mp hx;obtain ⟨s,hs,rfl⟩:=qY.mp hy;exact h s hs
 rw [qA,qA] at this;rw [qA];omega
theorem zFs {zs:List Int} (h:∀x∈zs,(ZF x).length≤571) (l:zs.length≤100):JoinOk (Str.ofString "") (zs.map λs=>Str.ofString " "++ZF s)=true:=by
 refine joinOk_of_weight ?_ (by decide);have:=Jr (l:=(zs.map λs=>Str.ofString " "++ZF s).map (·.length)) (B:=572) λx hx=>by
  obtain ⟨y,hy,rfl⟩:=qY.mp hx;obtain ⟨s,hs,rfl⟩:=qY.mp hy;have e:(Str.ofString " "++ZF s).length=1+(ZF s).length:=Ze _ _;have:=h s hs;show (Str.ofString " "++ZF s).length≤572;omega
 rw [qA,qA] at this;rw [qA];omega
theorem zGQ {c:Nat}:∀{ws:List Str} {w:Str},w∈ws->w.cps.toList.length≤(Str.join (zW c) ws).cps.toList.length
 | [x],w,h=>by rw [qH.mp h]; exact qE _
 | x::y::r,w,h=>by
  rw [ZZ,qI,qL];rcases qG.mp h with e | e
  ·rw [e]; omega
  ·have:=zGQ (c:=c) e; omega
theorem zBi {a:Str} {c:Nat} {w:Str} (h:w∈Txt.split a (zW c)):w.length≤a.length:=by
 have q:=zGQ (c:=c) h;rw [StrLaws.join_split] at q;rw [qJ,qJ] at q;exact q
theorem zAh (a:Str) (c:Nat):(Txt.split a (zW c)).length≤a.length+1:=by
 have key:∀ws:List Str,ws.length≤(Str.join (zW c) ws).cps.toList.length+1:=λws=>by
  induction ws with
  | nil=>exact QG _
  | cons x r ih=>
   cases r with
   | nil=>show 1≤_; omega
   | cons y r=>
    rw [ZZ,qI,qL (as:=(Str.join (zW c) (y::r)).cps.toList),qL (a:=x)];omega
 have q:=key (Txt.split a (zW c));rw [StrLaws.join_split,qJ] at q;exact q
def Wid (xs:List Int):Prop:=∀x∈xs,x.natAbs<10^570
theorem Wid.len {xs:List Int} (h:Wid xs):∀x∈xs,(ZF x).length≤571:=λx hx=>zJM (by decide) (h x hx)
theorem zAf (z:Str):(Txt.slice z (some 1) none).length≤z.length:=Txt.slice_le z _ _
theorem zQy {b:Str} {vs:List Str} (h:Je b=some vs):(∀w∈vs,w.length≤b.length)/\vs.length≤b.length+1:=by
 unfold Je at h
 split at h
 ·cases h
  exact ⟨(λ_ h=>nomatch h),QG _⟩
 ·split at h
  ·cases h
   have:=zAf b;refine ⟨λw hw=>qK (zBi hw) this,?_⟩;have:=zAh (Txt.slice b (some 1) none) 32;omega
  ·cases h
theorem zNV {z a b:Str} (ez:z.cps.toList=a.cps.toList++58::b.cps.toList):a.length≤z.length/\b.length≤z.length:=by
 have e:z.length=a.length+(b.length+1):=by
  show z.cps.size=a.cps.size+(b.cps.size+1);rw [<-qJ,ez,qI,qL,qJ,qJ]
 omega
def RdD:PyData->Option (List Int×List Int)->Prop
 | .str z,r=>RdT z r
 | _,r=>r=none
def isS:PyData->Bool
 | .str _=>true
 | _=>false
theorem zMZ (K:PySem.W.Frag) (d:PyData):PySem.W.kitOne K (.type (tyD d)) (.type "str")=some (isS d):=by cases d <;> rfl
def ShD (d:PyData):Prop:=∀z,d= .str z->z.length≤570
end L2
namespace L2
open PySem PySem.Spec PyProof.Rows
section
variable {prog:Program} {w:World} {A:Around} {E:Value->Shared->Prop} {s:Shared}
theorem zGH {z U W p q a b:Addr} {k:Nat} {xs ys:Array Value} {o1 o2:Value} {Q:Value->Shared->Prop} (D:ZipApart z U W p q a b) (cz:IsZip s.heap z U W .none) (cU:IsPair s.heap U (.ref p) (.ref q)) (cW:IsPair s.heap W o1 o2)
  (cp:s.heap.IsTupleIter p a k) (cq:s.heap.IsListIter q b k) (ca:s.heap.IsTuple a xs) (cb:s.heap.IsList b ys)
  (one:∀x y g',xs[k]?=some x->ys[k]?=some y->IsZip g' z U W (rawInt s.heap.objs.size)->IsPair g' W x y->g'.IsTupleIter p a (k+1)->g'.IsListIter q b (k+1)->IsPair g' s.heap.objs.size x y->g'.objs.size=s.heap.objs.size+1->
   (∀c o,c≠z->c≠W->c≠p->c≠q->s.heap.get? c=some o->g'.get? c=some o)->Q (.ref s.heap.objs.size) {s with heap:=g'})
  (out:(xs[k]?=none\/ys[k]?=none)->A.handled=none/\∀g' e,(∀c o,c≠z->c≠W->c≠p->c≠q->s.heap.get? c=some o->g'.get? c=some o)->(∃o,g'.get? e=some o/\o.cls= .type "StopIteration")->E (.ref e) {s with heap:=g'}):
  wpAny (model prog w) A (Builtin.«zip.__next__» ⟨[.ref z],[]⟩) (λr s'=>∃v,r= .done (.ret v)/\Q v s') E s:=by
 change wpAny _ _ (field (.ref z) 2 >>=_) _ _ _
 refine wpAny_bind (wpAny_field cz rfl (x:= .bool false) rfl ?_)
 change wpAny _ _ (field (.ref z) 3 >>=_) _ _ _
 refine wpAny_bind (wpAny_field cz rfl (x:= .ref U) rfl (wpAny_bind (wpAny_seqItems cU rfl ?_)))
 change wpAny _ _ (Builtin.SmallTypes.ownedTupleIsFree (.ref z) >>=_) _ _ _
 unfold Builtin.SmallTypes.ownedTupleIsFree;refine wpAny_bind (wpAny_bind (wpAny_field cz rfl (x:= .none) rfl (wpAny_pure ?_)));simp only [if_true];refine wpAny_bind (wpAny_rule (wpAny_bind (wpAny_field cz rfl (x:= .ref W) rfl ?_)));refine wpAny_bind (wpAny_setField_rec cz (by simp) λg₁ z₁ b₁=>?_);have z₁:IsZip g₁ z U W .ellipsis:=z₁;simp only [List.zipIdx_cons,List.zipIdx_nil,List.forIn_cons,List.forIn_nil];refine wpAny_bind (wpAny_bind (wpAny_bind (wpAny_onRaise ?_)))
 change wpAny _ _ (Builtin.SmallTypes.nextOf (.ref p) >>=_) _ _ _
 refine wpAny_bind (zHb (jP cp λo e=>b₁.extBut _ _ D.i1z e) (zOf ca λo e=>b₁.extBut _ _ D.l1z e) (λx g₂ hx p₂ b₂=>wpAny_pure ?_) λhx=>?_)
 ·have W₂:IsPair g₂ W o1 o2:=b₂.extBut _ _ D.TOi1 (b₁.extBut _ _ D.TOz cW)
  refine wpAny_bind (wpAny_seqItems W₂ rfl (wpAny_bind (wpAny_updateSeq_pair W₂ λg₃ W₃ b₃=>?_)));have W₃:IsPair g₃ W x o2:=W₃;refine wpAny_bind (wpAny_letGo (wpAny_pure (wpAny_bind (wpAny_bind (wpAny_onRaise ?_)))))
  change wpAny _ _ (Builtin.SmallTypes.nextOf (.ref q) >>=_) _ _ _
  have q₃:g₃.IsListIter q b k:=((cq.extBut b₁.extBut D.i2z).extBut b₂.extBut (Ne.symm D.i12)).extBut b₃.extBut (Ne.symm D.TOi2);have c₃:g₃.IsList b ys:=((cb.extBut b₁.extBut D.l2z).extBut b₂.extBut D.l2i1).extBut b₃.extBut D.l2TO;cases hy:ys[k]? with
  | none=>
   obtain ⟨hh,go⟩:=out (.inr hy);refine wpAny_bind (wpAny_nextOf_list_end hh q₃ c₃ hy λg₄ e b₄ ⟨oe,he,hc⟩=>?_);have z₄:IsZip g₄ z U W .ellipsis:=b₄ _ _ (Ne.symm D.i2z) (b₃.extBut _ _ (Ne.symm D.TOz) (b₂.extBut _ _ (Ne.symm D.i1z) z₁));have ne:e≠z:=λy=>by subst y; rw [z₄] at he; cases he; simp at hc
   exact wpAny_setField_rec z₄ (by simp) λg₅ _ b₅=>go g₅ e (λc o n1 n2 n3 n4 y=>b₅.extBut _ _ n1 (b₄ _ _ n4 (b₃.extBut _ _ n2 (b₂.extBut _ _ n3 (b₁.extBut _ _ n1 y))))) ⟨oe,b₅.extBut _ _ ne he,hc⟩
  | some y=>
   refine wpAny_bind (wpAny_nextOf_list_item q₃ c₃ hy λg₄ q₄ b₄=>wpAny_pure ?_);have W₄:IsPair g₄ W x o2:=b₄.extBut _ _ D.TOi2 W₃;refine wpAny_bind (wpAny_seqItems W₄ rfl (wpAny_bind (wpAny_updateSeq_pair W₄ λg₅ W₅ b₅=>?_)));have W₅:IsPair g₅ W x y:=W₅;refine wpAny_bind (wpAny_letGo (wpAny_pure (wpAny_pure (wpAny_bind (wpAny_seqItems W₅ rfl (wpAny_bind (wpAny_newTuple ?_)))))));have sz:g₅.objs.size=s.heap.objs.size:=by rw [b₅.1,b₄.1,b₃.1,b₂.1,b₁.1]
   have z₅:IsZip g₅ z U W .ellipsis:=b₅.extBut _ _ (Ne.symm D.TOz) (b₄.extBut _ _ (Ne.symm D.i2z) (b₃.extBut _ _ (Ne.symm D.TOz) (b₂.extBut _ _ (Ne.symm D.i1z) z₁)));have k₅:∀c o,c≠z->c≠W->c≠p->c≠q->s.heap.get? c=some o->g₅.get? c=some o:=λc o n1 n2 n3 n4 e=>b₅.extBut _ _ n2 (b₄.extBut _ _ n4 (b₃.extBut _ _ n2 (b₂.extBut _ _ n3 (b₁.extBut _ _ n1 e))))
   have p₅:g₅.IsTupleIter p a (k+1):=jP p₂ λo e=>b₅.extBut _ _ (Ne.symm D.TOi1) (b₄.extBut _ _ D.i12 (b₃.extBut _ _ (Ne.symm D.TOi1) e))
   have q₅:g₅.IsListIter q b (k+1):=q₄.extBut b₅.extBut (Ne.symm D.TOi2);have zl:z<g₅.objs.size:=Heap.lt_size z₅
   change wpAny _ _ (Builtin.SmallTypes.ownedTupleHandOut (.ref z) (.ref g₅.objs.size) >>=_) _ _ _
   unfold Builtin.SmallTypes.ownedTupleHandOut;have z₆:IsZip (g₅.push {cls:= .type "tuple",data:= .seq #[x,y]}) z U W .ellipsis:=Heap.get?_push_of_some _ z₅;refine wpAny_bind (wpAny_bind (wpAny_setField_rec z₆ (by simp) λg₇ z₇ b₇=>?_));have z₇:IsZip g₇ z U W (rawInt g₅.objs.size):=z₇;refine wpAny_setField_rec z₇ (by simp) λg₈ z₈ b₈=>?_
   have z₈:IsZip g₈ z U W (rawInt g₅.objs.size):=z₈;have on:∀c o,c≠z->g₅.get? c=some o->g₈.get? c=some o:=λc o n e=>b₈.extBut _ _ n (b₇.extBut _ _ n (Heap.get?_push_of_some _ e))
   have T₈:IsPair g₈ g₅.objs.size x y:=b₈.extBut _ _ (Nat.ne_of_gt zl) (b₇.extBut _ _ (Nat.ne_of_gt zl) (Heap.get?_push_size _ rfl));have n₈:g₈.objs.size=g₅.objs.size+1:=by rw [b₈.1,b₇.1,Heap.size_push]
   rw [sz] at z₈ T₈ n₈;refine wpAny_pure ⟨_,rfl,?_⟩
   change Q (.ref g₅.objs.size) _
   rw [sz];exact one x y g₈ hx hy z₈ (on _ _ D.TOz W₅) (jP p₅ λo e=>on _ o D.i1z e) (q₅.at λo e=>on _ o D.i2z e) T₈ n₈ λc o n1 n2 n3 n4 e=>on c o n1 (k₅ c o n1 n2 n3 n4 e)
 ·obtain ⟨hh,go⟩:=out (.inl hx)
  refine ⟨hh,λg₂ e b₂ ⟨oe,he,hc⟩=>?_⟩;have z₂:IsZip g₂ z U W .ellipsis:=b₂ _ _ (Ne.symm D.i1z) z₁;have ne:e≠z:=λy=>by subst y; rw [z₂] at he; cases he; simp at hc
  exact wpAny_setField_rec z₂ (by simp) λg₃ _ b₃=>go g₃ e (λc o n1 _ n3 _ y=>b₃.extBut _ _ n1 (b₂ _ _ n3 (b₁.extBut _ _ n1 y))) ⟨oe,b₃.extBut _ _ ne he,hc⟩
theorem zNt {z U W p q a b:Addr} {k:Nat} {xs ys:Array Value} {x y o1 o2:Value} {Q:Option Value->Shared->Prop} (D:ZipApart z U W p q a b) (cz:IsZip s.heap z U W .none) (cU:IsPair s.heap U (.ref p) (.ref q)) (cW:IsPair s.heap W o1 o2)
  (cp:s.heap.IsTupleIter p a k) (cq:s.heap.IsListIter q b k) (ca:s.heap.IsTuple a xs) (cb:s.heap.IsList b ys) (hx:xs[k]?=some x) (hy:ys[k]?=some y)
  (one:∀g',IsZip g' z U W (rawInt s.heap.objs.size)->IsPair g' W x y->g'.IsTupleIter p a (k+1)->g'.IsListIter q b (k+1)->IsPair g' s.heap.objs.size x y->g'.objs.size=s.heap.objs.size+1->
   (∀c o,c≠z->c≠W->c≠p->c≠q->s.heap.get? c=some o->g'.get? c=some o)->Q (some (.ref s.heap.objs.size)) {s with heap:=g'}):wpAny (model prog w) A (pyNext (.ref z)) Q E s:=by
 have ty:s.TypeIs (.ref z) "zip":=⟨_,cz,rfl⟩;unfold pyNext;refine wpAny_bind (wpAny_attempt (wpAny_callSpecial?_slot (name:=Str.ofString "__next__") ty F.slot_zip_next (wpAny_call_entry F.slot_zip_next ty F.entry_zip_next (zGH D cz cU cW cp cq ca cb ?_ ?_) (F.args_zip_next_1 _))))
 ·intro x' y' g' ex ey t1 t2 t3 t4 t5 t6 t7
  rw [hx] at ex;rw [hy] at ey;cases ex;cases ey;exact wpAny_pure (one g' t1 t2 t3 t4 t5 t6 t7)
 ·rintro (e | e)
  ·rw [hx] at e; cases e
  ·rw [hy] at e; cases e
theorem zON {z U W p q a b:Addr} {k:Nat} {xs ys:Array Value} {o1 o2:Value} {Q:Option Value->Shared->Prop} (hh:A.handled=none) (D:ZipApart z U W p q a b) (cz:IsZip s.heap z U W .none) (cU:IsPair s.heap U (.ref p) (.ref q)) (cW:IsPair s.heap W o1 o2)
  (cp:s.heap.IsTupleIter p a k) (cq:s.heap.IsListIter q b k) (ca:s.heap.IsTuple a xs) (cb:s.heap.IsList b ys) (no:xs[k]?=none\/ys[k]?=none)
  (fin:∀g',(∀c o,c≠z->c≠W->c≠p->c≠q->s.heap.get? c=some o->g'.get? c=some o)->Q none {s with heap:=g'}):wpAny (model prog w) A (pyNext (.ref z)) Q E s:=by
 have ty:s.TypeIs (.ref z) "zip":=⟨_,cz,rfl⟩;unfold pyNext;refine wpAny_bind (wpAny_attempt (wpAny_callSpecial?_slot (name:=Str.ofString "__next__") ty F.slot_zip_next (wpAny_call_entry F.slot_zip_next ty F.entry_zip_next (zGH D cz cU cW cp cq ca cb ?_ ?_) (F.args_zip_next_1 _))))
 ·intro x' y' g' ex ey
  rcases no with e | e
  ·rw [e] at ex; cases ex
  ·rw [e] at ey; cases ey
 ·intro _
  refine ⟨hh,λg' e kp ⟨o,ho,hc⟩=>?_⟩;exact wpAny_bind (wpAny_isInstance (T:="StopIteration") (b:=true) ⟨o,ho,hc⟩ isSubtype_stop (wpAny_pure (fin _ kp)))
end
abbrev ztO (a:Addr):Obj:={cls:= .type "tuple_iterator",data:= .fields #[.ref a, .int 0 0]}
abbrev ztL (b:Addr):Obj:={cls:= .type "list_iterator",data:= .fields #[.ref b, .int 0 0]}
theorem zLB (a b:Addr) (xs ys:Array Value):
  Meets (Builtin.«zip.__new__» ⟨[.type "zip", .ref a, .ref b],[]⟩) (λ_ R s=>s.heap.IsTuple a xs/\s.heap.IsList b ys/\
   ∀g2 g4,g2=(s.heap.push (ztO a)).push (ztL b)->g4=(g2.push {cls:= .type "tuple",data:= .seq #[.ref s.heap.objs.size, .ref (s.heap.push (ztO a)).objs.size]}).push {cls:= .type "tuple",data:= .seq #[.none, .none]}->
    R (.ok (.ret (.ref g4.objs.size))) {s with heap:=g4.push {cls:= .type "zip",data:= .fields #[.none, .bool false, .bool false, .ref g2.objs.size, .ref (g2.push {cls:= .type "tuple",data:= .seq #[.ref s.heap.objs.size, .ref (s.heap.push (ztO a)).objs.size]}).objs.size]}}):=by
 refine .of_wp λprog w A R s h=>?_
 rcases s with ⟨hp,g,d,tk,os⟩
 rcases h with ⟨ta,tb,h⟩
 have sb:=sub_zip;have t1:Heap.IsTuple (Shared.heap ⟨hp,g,d,tk,os⟩) a xs:=ta;have t2:Heap.IsList (Shared.heap ⟨hp.push (ztO a),g,d,tk,os⟩) b ys:=Heap.IsList.push tb _;have fin:=h _ _ rfl rfl
 (wp_walk using wpAny_pyIter_tuple t1,wpAny_pyIter_list t2)
 exact ⟨_,rfl,fin⟩
section
variable {prog:Program} {w:World} {A:Around} {E:Value->Shared->Prop} {s:Shared}
theorem zNy {a b:Addr} {xs ys:Array Value} {Q:Value->Shared->Prop} (ta:s.heap.IsTuple a xs) (tb:s.heap.IsList b ys)
  (h:∀g',IsZip g' (s.heap.objs.size+4) (s.heap.objs.size+2) (s.heap.objs.size+3) .none->IsPair g' (s.heap.objs.size+2) (.ref s.heap.objs.size) (.ref (s.heap.objs.size+1))->IsPair g' (s.heap.objs.size+3) .none .none->
   g'.IsTupleIter s.heap.objs.size a 0->g'.IsListIter (s.heap.objs.size+1) b 0->(∀c o,s.heap.get? c=some o->g'.get? c=some o)->Q (.ref (s.heap.objs.size+4)) {s with heap:=g'}):
  wpAny (model prog w) A (call (.type "zip") [.ref a, .ref b]) Q E s:=by
 refine callType_new F.called_zip (by decide) (F.typeCall_zip_2 _ _) (F.newCall_zip_2 _ _) (λx=>F.args_object_init_3 x _ _) F.entry_zip_new (zLB a b xs ys) ⟨ta,tb,λg2 g4 e2 e4=>?_⟩;have n1:(s.heap.push (ztO a)).objs.size=s.heap.objs.size+1:=Heap.size_push ..;have n2:g2.objs.size=s.heap.objs.size+2:=by rw [e2,Heap.size_push,n1]
 have n3:(g2.push {cls:= .type "tuple",data:= .seq #[.ref s.heap.objs.size, .ref (s.heap.push (ztO a)).objs.size]}).objs.size=s.heap.objs.size+3:=by rw [Heap.size_push,n2]
 have n4:g4.objs.size=s.heap.objs.size+4:=by rw [e4,Heap.size_push,n3]
 have k1:∀c o,(s.heap.push (ztO a)).get? c=some o->g2.get? c=some o:=λc o e=>by rw [e2]; exact Heap.get?_push_of_some _ e
 have k2:∀c o,g2.get? c=some o->g4.get? c=some o:=λc o e=>by rw [e4]; exact Heap.get?_push_of_some _ (Heap.get?_push_of_some _ e)
 have i1:g4.get? s.heap.objs.size=some (ztO a):=k2 _ _ (k1 _ _ (Heap.get?_push_size _ rfl));have i2:g4.get? (s.heap.objs.size+1)=some (ztL b):=by
  refine k2 _ _ ?_;rw [e2,<-n1];exact Heap.get?_push_size _ rfl
 have i3:IsPair g4 (s.heap.objs.size+2) (.ref s.heap.objs.size) (.ref (s.heap.objs.size+1)):=by
  rw [e4,<-n2,<-n1];exact Heap.get?_push_of_some _ (Heap.get?_push_size _ rfl)
 have i4:IsPair g4 (s.heap.objs.size+3) .none .none:=by
  rw [e4,<-n3];exact Heap.get?_push_size _ rfl
 show _/\_;rw [n4,n3,n2];refine ⟨⟨_,by rw [<-n4]; exact Heap.get?_push_size _ rfl,rfl⟩,h _ (by rw [<-n4]; exact Heap.get?_push_size _ rfl) (Heap.get?_push_of_some _ i3) (Heap.get?_push_of_some _ i4) ⟨_,Heap.get?_push_of_some _ i1,rfl,rfl⟩ ⟨_,Heap.get?_push_of_some _ i2,rfl,rfl⟩ λc o e=>Heap.get?_push_of_some _ (k2 _ _ (k1 _ _ (Heap.get?_push_of_some _ e)))⟩
end
def zKv (K:PySem.W.Frag) (a b:Addr) (xs ys:List V):It:=
  ⟨λi H=>Zd K H a xs/\H b=some (.lst ys)/\i<xs.length/\i<ys.length,
   λi H v H'=>∃T x y,H T=none/\xs[i]?=some x/\ys[i]?=some y/\v= .ref T/\H'=upd H T (.tup [x,y]),
   λi H=>Zd K H a xs/\H b=some (.lst ys)/\(xs.length≤i\/ys.length≤i)⟩
theorem zNe {P:Program} {w:World} {K:PySem.W.Frag} {es:List Expr} {k:Nat} {pos:Pos} {a b z U W p q:Addr} {xs ys:List V} (D:ZipApart z U W p q a b):
  zAa P w K (.Tuple es k pos) (zKv K a b xs ys) [z,U,W,p,q] z (λi h=>IsZip h z U W .none/\IsPair h U (.ref p) (.ref q)/\(∃u v,IsPair h W u v)/\h.IsTupleIter p a i/\h.IsListIter q b i) where
 mem:=by simp
 obj:=λi h st c hc=>by
  obtain ⟨cz,cU,⟨u,v,cW⟩,c1,c2⟩:=st;simp only [qG,QZ,or_false] at hc;rcases hc with rfl | rfl | rfl | rfl | rfl
  ·exact ⟨_,cz,λv z=>by cases z⟩
  ·exact ⟨_,cU,λv z=>by cases z⟩
  ·exact ⟨_,cW,λv z=>by cases z⟩
  ·obtain ⟨o,e1,c,d⟩:=c1
   exact ⟨o,e1,λv z=>by rw [d] at z; cases z⟩
  ·obtain ⟨o,e1,c,d⟩:=c2
   exact ⟨o,e1,λv z=>by rw [d] at z; cases z⟩
 keep:=λi h h' st k=>by
  obtain ⟨cz,cU,⟨u,v,cW⟩,c1,c2⟩:=st;exact ⟨k z (by simp) _ cz,k U (by simp) _ cU,⟨u,v,k W (by simp) _ cW⟩,jP c1 λo e=>k p (by simp) o e,c2.at λo e=>k q (by simp) o e⟩
 item:=by
  intro X hP hw hK hc i pins s σ H E I hf st hg;subst hP hw hK;obtain ⟨hqa,hqb,lx,ly⟩:=hg;obtain ⟨x,hx⟩:∃x,xs[i]?=some x:=⟨_,qB lx⟩;obtain ⟨y,hy⟩:∃y,ys[i]?=some y:=⟨_,qB ly⟩;obtain ⟨its1,r1,ha,_⟩:=I.tuple hqa;obtain ⟨_,its2,n2,r2,hl2,eb⟩:=I.lstM hqb;obtain ⟨u1,hu1,ru1⟩:=r1.get hx;obtain ⟨u2,hu2,ru2⟩:=r2.get hy;obtain ⟨cz,cU,⟨o1,o2,cW⟩,c1,c2⟩:=st;have hB:s.heap.IsList b its2.toArray:=⟨_,eb,rfl,n2,rfl⟩;have hA:s.heap.IsTuple a its1.toArray:=ha;have lt:∀c∈[z,U,W,p,q],c<s.heap.objs.size:=λc hc=>by
   simp only [qG,QZ,or_false] at hc;rcases hc with rfl | rfl | rfl | rfl | rfl
   ·exact Heap.lt_size cz
   ·exact Heap.lt_size cU
   ·exact Heap.lt_size cW
   ·obtain ⟨_,e,_⟩:=c1; exact Heap.lt_size e
   ·obtain ⟨_,e,_⟩:=c2; exact Heap.lt_size e
  refine zNt D cz cU cW c1 c2 hA hB (x:=u1) (y:=u2) (by simpa using hu1) (by simpa using hu2) λh' a1 a2 a3 a4 a5 a6 hk=>?_
  refine ⟨_,rfl,wpAny_letOwnedTupleGo_zip a1 λh2' hz2 hs2=>?_⟩
  replace hs2:Heap.SameBut z h' h2':=hs2
  have I1:zN X pins σ (upd H s.heap.objs.size (.tup [x,y])) {s with heap:=s.heap.push {cls:= .type "tuple",data:= .seq #[u1,u2]},toks:=s.toks}:=
   I.laid (λb o q=>Heap.get?_push_of_some _ q) (qE _) ⟨by show 2≤sizeLine; decide,[u1,u2], .cons ru1 (.cons ru2 .nil),⟨_,Heap.get?_push_size _ rfl,rfl,_,rfl⟩⟩
  have yP:∀c∈[z,U,W,p,q],upd H s.heap.objs.size (.tup [x,y]) c=none:=λc hc=>by
   rw [zI (qT (lt c hc))]; exact (hf c hc).1
  have I2:zN X pins σ (upd H s.heap.objs.size (.tup [x,y])) {s with heap:=h2',toks:=s.toks}:=by
   refine zN.turnedL (s:={s with heap:=s.heap.push {cls:= .type "tuple",data:= .seq #[u1,u2]},toks:=s.toks}) (h':=h2') (t':=s.toks) (fp:=[z,U,W,p,q]) I1 (λc o hc q=>?_) (λc hc=>⟨yP c hc,(hf c hc).2⟩);have n1:c≠z:=λe=>hc (by simp [e])
   refine (hs2.2 c n1).trans ?_;rcases Heap.get?_push_cases q with ⟨ec,eo⟩ | q
   ·rw [ec,eo]; exact a5
   ·exact hk c o n1 (λe=>hc (by simp [e])) (λe=>hc (by simp [e])) (λe=>hc (by simp [e])) q
  refine ⟨.ref s.heap.objs.size,_,I2,rfl,⟨_,x,y,I.fresh,hx,hy,rfl,rfl⟩,⟨hz2,?_,⟨_,_,hs2.extBut _ _ D.TOz a2⟩,jP a3 λo e=>hs2.extBut _ _ D.i1z e,a4.extBut hs2.extBut D.i2z⟩,yP⟩;exact hs2.extBut _ _ D.TIz (hk _ _ D.TIz D.TITO D.TIi1 D.TIi2 cU)
 done:=by
  intro X hP hw hK hc i pins s σ H E I hf st hg;subst hP hw hK;obtain ⟨hqa,hqb,hend⟩:=hg;obtain ⟨its1,r1,ha,_⟩:=I.tuple hqa;obtain ⟨_,its2,n2,r2,hl2,eb⟩:=I.lstM hqb;obtain ⟨cz,cU,⟨o1,o2,cW⟩,c1,c2⟩:=st;have hA:s.heap.IsTuple a its1.toArray:=ha;have hB:s.heap.IsList b its2.toArray:=⟨_,eb,rfl,n2,rfl⟩;have l1:=r1.length;have he:its1.toArray[i]?=none\/its2.toArray[i]?=none:=by
   rcases hend with z | z
   ·exact .inl (by simp; omega)
   ·exact .inr (by simp; omega)
  exact zON (I.ok.hd hc) D cz cU cW c1 c2 hA hB he λh' hk=>⟨rfl,I.turnedL (t':=s.toks) (fp:=[z,U,W,p,q]) (λc o hc q=>hk c o (λe=>hc (by simp [e])) (λe=>hc (by simp [e])) (λe=>hc (by simp [e])) (λe=>hc (by simp [e])) q) hf⟩
 self:=λ_ _ _ _ _ st h=>wpAny_pyIter_zip st.1 h
section
variable {X:Cx}
def iZt (K:PySem.W.Frag) (ta:TA):TI:=λσ H R=>ta σ H λvs H1=>∃a b xs ys,vs=[.ref a, .ref b]/\Zd K H1 a xs/\H1 b=some (.lst ys)/\R (zKv K a b xs ys) H1
theorem zQi {es:List Expr} {k:Nat} {tp:Pos} {a b:Expr} {ta:TA} {p pos:Pos} (hg:Gl X "zip") (hm:X.mg "zip"=none) (ha:PA X [a,b] ta) (hs:starEach [a,b] X.env=(false,eval a X.env)::starEach [b] X.env:=by rfl) (hpl:(backTo pos (starEach [b] X.env)).any (·.1)=false:=by rfl):
  PI X (.Tuple es k tp) (.Call (.Name "zip" p) [a,b] [] pos) (iZt X.K ta):=by
 intro pins s σ H R I h;refine wpAny_Call_Name_kw (Yc I hg hm boot_zip ?_ (by decide) (by decide));refine QV (zj (ha pos pins s σ H _ I h) λus s1 ⟨vs,H1,I1,r1,q1⟩=>?_) hs hpl;obtain ⟨a,b,xs,ys,e,hqa,hqb,q⟩:=q1;subst e;obtain ⟨u1,u2,rfl,ru1,ru2⟩:=r1.two;cases ru1;cases ru2;obtain ⟨its1,rv1,ea,_⟩:=I1.tuple hqa;obtain ⟨_,its2,n2,rv2,hl2,eb⟩:=I1.lstM hqb;have hA:s1.heap.IsTuple a its1.toArray:=ea;have la:a<s1.heap.objs.size:=by obtain ⟨_,e,_⟩:=hA; exact Heap.lt_size e
 refine zNy (xs:=its1.toArray) (ys:=its2.toArray) hA ⟨_,eb,rfl,n2,rfl⟩ λh' hz hTI hTO hi1 hi2 hk=>?_
 refine wpAny_pyIter_zip hz ?_;have I2:zN X pins σ H1 {s1 with heap:=h'}:=I1.kept (t':=s1.toks) hk;refine ⟨s1.heap.objs.size+4,[s1.heap.objs.size+4,s1.heap.objs.size+2,s1.heap.objs.size+3,s1.heap.objs.size,s1.heap.objs.size+1],_,_,H1,rfl,I2,zNe (zipApart_new la (Heap.lt_size eb)),⟨hz,hTI,⟨_,_,hTO⟩,hi1,hi2⟩,λc hc=>?_,q⟩;have hge:s1.heap.objs.size≤c:=by
  simp only [qG,QZ,or_false] at hc;rcases hc with rfl | rfl | rfl | rfl | rfl <;> omega
 exact I1.fpOk hge (I1.hok.fresh hge)
end
theorem zC.seqT {K:PySem.W.Frag} {H H':Hp} {a:Addr} {xs:List V} (e:zC H H') (h:Zd K H a xs):Zd K H' a xs:=by
 rcases h with (h | ⟨o,h⟩) | h
 ·exact .inl (.inl (e _ _ h))
 ·exact .inl (.inr ⟨o,e _ _ h⟩)
 ·exact .inr h
theorem zLN {K:PySem.W.Frag} {a b:Addr} {xs ys:List V} {tc:TT} {te:TE} {D:Addr} {Q:Hp->Prop} {σ:St} {H1:Hp} {n:Nat} (c:Nat->Bool) (v:Nat->V) (hA:Zd K H1 a xs) (hB:H1 b=some (.lst ys)) (hmin:n=min xs.length ys.length) (hD:H1 D=none) (hn:n≤1000)
  (ht:∀i H',i<n->zC H1 H'->zAK tc (some (xs.getD i .non)::some (ys.getD i .non)::σ) H' (c i)) (he:∀i H',i<n->c i=true->zC H1 H'->zBE te (some (xs.getD i .non)::some (ys.getD i .non)::σ) H' (v i))
  (hq:∀H',zC H1 H'->H' D=some (.lst (((List.range n).filter c).map v))->Q H'):YN (zKv K a b xs ys) (zHD K 2 (zCk (Zi 0) (zCk (Zi 1) zLV))) tc te D Q (none::none::σ) (upd H1 D (.lst [])):=by
 refine yi (n:=n) (λi σ' H'=>∃x y,σ'=x::y::σ/\zC H1 H'/\H' D=some (.lst (((List.range i).filter c).map v))) ⟨none,none,rfl,zC.new hD _,zD⟩ ?_ ?_
 ·rintro i σ' H' hi ⟨x,y,rfl,g,hl⟩
  have hix:i<xs.length:=by omega
  have hiy:i<ys.length:=by omega
  refine ⟨⟨g.seqT hA,g _ _ hB,hix,hiy⟩,λz H2 hz=>?_⟩;obtain ⟨T,u,u',hT,hu,hu',rfl,rfl⟩:=hz;have eu:u=xs.getD i .non:=by rw [qC,hu]; rfl
  have eu':u'=ys.getD i .non:=by rw [qC,hu']; rfl
  subst eu eu';have g2:zC H1 (upd H' T (.tup [xs.getD i .non,ys.getD i .non])):=g.trans (zC.new hT _);have hl2:(upd H' T (.tup [xs.getD i .non,ys.getD i .non])) D=some (.lst (((List.range i).filter c).map v)):=zC.new hT _ _ _ hl;refine ⟨T,_,rfl,Zd.of zD,rfl,_,_,rfl,_,_,rfl,rfl,?_⟩;show tc (some (xs.getD i .non)::some (ys.getD i .non)::σ) _ _;generalize upd H' T (.tup [xs.getD i .non,ys.getD i .non])=H3 at g2 hl2 ⊢;refine ht i H3 hi g2 _ λH4 g4=>?_
  have hr:(List.range (i+1)).filter c=(List.range i).filter c++(if c i=true then [i] else []):=by
   rw [List.range_succ,xV,QU,List.filter_nil]
  refine zq (λhc=>?_) (λhc=>?_)
  ·refine he i H4 hi hc (g2.trans g4) _ λH5 g5=>?_
   have l5:=g5 _ _ (g4 _ _ hl2);refine ⟨_,l5,?_,_,_,rfl,λb o hb=>?_,?_⟩
   ·rw [qA]
    have:=QI c (List.range i);rw [xX] at this;exact ZW (by omega)
   ·rw [zI (λe=>by rw [e,hD] at hb; cases hb)]
    exact g5 _ _ (g4 _ _ (g2 _ _ hb))
   ·rw [zD,hr,if_pos hc,qS]
    rfl
  ·refine ⟨_,_,rfl,g2.trans g4,?_⟩
   rw [hr,if_neg hc,xB];exact g4 _ _ hl2
 ·rintro σ' H' ⟨x,y,rfl,g,hl⟩
  exact ⟨⟨g.seqT hA,g _ _ hB,by omega⟩,hq H' g hl⟩
end L2
namespace L2
open PySem PySem.Spec PyProof.Rows
section
variable {X:Cx}
def zMN (X:Cx) (CX:jJ) (k:Nat) (Fm:Addr->Sp->Prop):Prop:=∀f sp,Fm f sp->∃fd ps,zH X.prog X.w X.K X.mg X.base CX k f fd ps sp/\PySem.W.keepIn X.K (.ref f)=true/\zL X.K fd ps []
def zGJ (Fm:Addr->Sp->Prop) (tf:TE) (t:TA) (E:XK):TE:=λσ H Q=>tf σ H λx H1=>∃f sp,x= .ref f/\Fm f sp/\t σ H1 λvs H2=>sp vs H2 Q E
theorem zAi {CX:jJ} {k:Nat} {Fm:Addr->Sp->Prop} {E:XK} {fe e:Expr} {es:List Expr} {tf:TE} {t:TA} {pos:Pos} (F:zMN X CX k Fm) (hr:Zz k X.A) (hx:YF CX X E) (hf:PE X fe tf) (ha:PA X (e::es) t)
  (hev:eval (.Call fe (e::es) [] pos) X.env=(do callWith pos (<-eval fe X.env) [] (backTo pos (starEach (e::es) X.env)) (backToKw pos (keywordEach [] X.env))):=by rfl)
  (he:starEach (e::es) X.env=(false,eval e X.env)::starEach es X.env:=by rfl) (hpl:(backTo pos (starEach es X.env)).any (·.1)=false:=by rfl):PE X (.Call fe (e::es) [] pos) (zGJ Fm tf t E):=by
 intro pins s σ H Q I h;rw [hev];refine wpAny_bind (zj (hf pins s σ H _ I h) λv s1 ⟨x,H1,I1,r,f,sp,ex,hm,q⟩=>?_);subst ex;cases r;obtain ⟨fd,ps,G,hk,hb⟩:=F f sp hm;refine PySem.W.callWith_K (h₀:=X.base) I1.ok.mod.kin hk (zj (ha pos pins s1 σ H1 _ I1 q) λus s2 ⟨vs,H2,I2,r2,q2⟩=>⟨I2.kIn,?_⟩) he hpl;exact JZ G hr hb .nil hx I2 r2 (by rw [xB]; exact q2)
theorem zIn {CX:jJ} {k:Nat} {Fm:Addr->Sp->Prop} {E:XK} {x:Str} {p:Pos} {e:Expr} {es:List Expr} {tf:TE} {t:TA} {pos:Pos} (F:zMN X CX k Fm) (hr:Zz k X.A) (hx:YF CX X E) (hf:PE X (.Name x p) tf) (ha:PA X (e::es) t)
  (he:starEach (e::es) X.env=(false,eval e X.env)::starEach es X.env:=by rfl) (hpl:(backTo pos (starEach es X.env)).any (·.1)=false:=by rfl):PE X (.Call (.Name x p) (e::es) [] pos) (zGJ Fm tf t E):=by
 intro pins s σ H Q I h;refine wpAny_Call_Name_kw (zj (hf pins s σ H _ I h) λv s1 ⟨x,H1,I1,r,f,sp,ex,hm,q⟩=>?_);subst ex;cases r;obtain ⟨fd,ps,G,hk,hb⟩:=F f sp hm;refine PySem.W.callWith_K (h₀:=X.base) I1.ok.mod.kin hk (zj (ha pos pins s1 σ H1 _ I1 q) λus s2 ⟨vs,H2,I2,r2,q2⟩=>⟨I2.kIn,?_⟩) he hpl;exact JZ G hr hb .nil hx I2 r2 (by rw [xB]; exact q2)
end
section
variable {X:Cx} {d:Addr} {kvs:List (Str×Tok×Value)} {o i:Expr} {td ty:TE} {pos:Pos}
def zSR (d:Addr) (kvs:List (Str×Tok×Value)) (ty td:TE):TE:=λσ H Q=>ty σ H λy H1=>td σ H1 λx H2=>∃z,x= .ref d/\y= .str z/\Q (.bl (valueAt (ZN kvs) (Sum.inr z)).isSome) H2
theorem zEq (D:yv X.K X.w d kvs) (hi:PE X i ty) (ho:PE X o td):PC X .In i o (zSR d kvs ty td):=by
 intro pins s σ H Q I h;refine zj (hi pins s σ H _ I h) λiv s1 ⟨y,H1,I1,ry,q1⟩=>zj (ho pins s1 σ H1 _ I1 q1) λu s2 ⟨x,H2,I2,rx,z,ex,ey,q2⟩=>?_
 subst ex;subst ey;cases rx;have dd:=D.dict (P:=X.prog) I2.kIn;exact wpAny_in_of (knd:=ZV X.prog X.w) (JB (k:=Sum.inr z) ry) D.lo dd.mapOf ⟨.bl _,H2,I2.tok _,rfl,q2⟩
end
section
variable {X:Cx}
theorem zHN:MtR X "str.startswith" (λx xs H Q=>∃z y:Str,x= .str z/\xs=[.str y]/\Q (.bl (Txt.startswith z y)) H):=by
 intro pins s σ H x xs v us Q I rx rs h;obtain ⟨z,y,rfl,rfl,q⟩:=h;obtain ⟨t,rfl⟩:=rx;obtain ⟨u,rfl,ru⟩:=rs.one;obtain ⟨t2,rfl⟩:=ru;exact SC.startswith ⟨.bl _,H,I,rfl,q⟩
theorem zGk {z:Str} {c:Nat} {n:Int} (h:z.length+2≤sizeLine):(Txt.splitMax z (zW c) n).length≤sizeLine/\(Builtin.Str.partsBetween z (Builtin.Str.occurrences z (zW c) 0 z.length (limitOf z n)) (zW c).length).length≤sizeLine:=by
 have e1:=StrLaws.occ_length_le_len z (zW c) 0 z.length (limitOf z n);have e2:(Builtin.Str.partsBetween z (Builtin.Str.occurrences z (zW c) 0 z.length (limitOf z n)) (zW c).length).length≤sizeLine:=by rw [length_partsBetween]; omega
 refine ⟨?_,e2⟩;unfold Txt.splitMax
 split
 ·exact qK (show 1≤z.length+2 by omega) h
 ·split
  ·exact qK (show 1≤z.length+2 by omega) h
  ·exact e2
theorem zIf:MtM X "str.split" (λx vs H Q=>∃(z:Str) (c:Nat) (n:Int),x= .str z/\vs=[.str (zW c), .int n]/\(0≤n/\n<1000)/\z.length+2≤sizeLine/\∀D,H D=none->Q (.ref D) (upd H D (.lst ((Txt.splitMax z (zW c) n).map V.str)))):=by
 intro pins s σ H x vs v us Q I rx rv h;obtain ⟨z,c,n,rfl,rfl,hn,hz,q⟩:=h;obtain ⟨t,rfl⟩:=rx;obtain ⟨u,u2,rfl,ru,ru2⟩:=rv.two;obtain ⟨t2,rfl⟩:=ru;obtain ⟨t3,rfl⟩:=ru2;obtain ⟨f1,f2⟩:=zGk (c:=c) (n:=n) hz;have hy:((zW c).length==0)=false:=rfl;have hk:(decide (n < -(2^63:Int))||decide (n≥2^63))=false:=by
  rw [decide_eq_false (by omega),decide_eq_false (by omega)];rfl
 cases h1:(decide (z.length<(zW c).length)||decide (Builtin.Str.strKind z<Builtin.Str.strKind (zW c)))
 ·cases h2:(Builtin.Str.occurrences z (zW c) 0 z.length (limitOf z n)).isEmpty
  ·refine call_meets F.slot_str_split (typeIs_str _ _ _) F.entry_str_split (F.args_str_split_3 _ _ _) (meets_str_split_sep_max z (zW c) n t t2 t3 hk h1 hy h2 (by omega) f2) ?_
   have:=YK I f1 q (numbered s.toks (Builtin.Str.partsBetween z (Builtin.Str.occurrences z (zW c) 0 z.length (limitOf z n)) (zW c).length)) (s.toks+(Builtin.Str.partsBetween z (Builtin.Str.occurrences z (zW c) 0 z.length (limitOf z n)) (zW c).length).length) ((numbered_texts _ _).trans ((if_neg (ne_true_of_eq_false h1)).trans (if_neg (ne_true_of_eq_false h2))).symm);rw [<-strsFrom_eq] at this;exact this
  ·exact call_meets F.slot_str_split (typeIs_str _ _ _) F.entry_str_split (F.args_str_split_3 _ _ _) (meets_str_split_max_not_found z (zW c) n t t2 t3 hk h1 hy h2) (YK I f1 q [(z,t)] s.toks ((if_neg (ne_true_of_eq_false h1)).trans (if_pos h2)).symm)
 ·exact call_meets F.slot_str_split (typeIs_str _ _ _) F.entry_str_split (F.args_str_split_3 _ _ _) (meets_str_split_max_cannot_occur z (zW c) n t t2 t3 hk h1) (YK I f1 q [(z,t)] s.toks (if_pos h1).symm)
def zFO (b:Bool):Value->Bool
 | .bool c=>c==b
 | _=>false
theorem zOo (c b:Bool):MeetsSeq.EqGives (.bool c) (.bool b) (zFO b (.bool c)):=λprog w A E s Q h=>SeqAt.EqAt.bool_bool (A:=A) (s:=s) c b prog w E Q h
theorem zCC:∀{bs:List Bool} {us:List Value},zi (bs.map V.bl) us->us=bs.map Value.bool
 | [],_, .nil=>rfl
 | _::_,_, .cons r rs=>by cases r; rw [qQ,zCC rs]
theorem zJQ:MtM X "list.count" (λx vs H Q=>∃(l:Addr) (bs:List Bool),x= .ref l/\vs=[.bl true]/\H l=some (.lst (bs.map V.bl))/\Q (.int (bs.countP id:Nat)) H):=by
 intro pins s σ H x vs v us Q I rx rv h;obtain ⟨l,bs,rfl,rfl,hH,q⟩:=h;cases rx;obtain ⟨u,rfl,ru⟩:=rv.one;cases ru;obtain ⟨z,its,n,r,hl,e⟩:=I.lstM hH;cases zCC r;refine call_meets F.slot_list_count ⟨_,e,rfl⟩ F.entry_list_count (F.args_list_count_2 _ _) (MeetsSeq.list_count l _ n (.bool true) (zFO true) (λy hy=>?_)) ⟨e,?_⟩
 ·have hy':y∈bs.map Value.bool:=by simpa using hy
  obtain ⟨c,_,rfl⟩:=qY.mp hy';exact zOo c true
 ·have ec:(bs.map Value.bool).toArray.toList.countP (zFO true)=bs.countP id:=by
   show (bs.map Value.bool).countP (zFO true)=_;rw [List.countP_map]
   congr 1
   funext c
   cases c <;> rfl
  rw [ec];exact ⟨.int _,H,I.tok _,⟨_,rfl⟩,q⟩
theorem zJH:MtM X "list.index" (λx vs H Q=>∃(l:Addr) (bs:List Bool) (j:Nat),x= .ref l/\vs=[.bl true]/\H l=some (.lst (bs.map V.bl))/\bs[j]?=some true/\(∀m<j,bs[m]?=some false)/\bs.length≤1000/\Q (.int (j:Int)) H):=by
 intro pins s σ H x vs v us Q I rx rv h;obtain ⟨l,bs,j,rfl,rfl,hH,hj,hno,hsm,q⟩:=h;cases rx;obtain ⟨u,rfl,ru⟩:=rv.one;cases ru;obtain ⟨z,its,n,r,hl,e⟩:=I.lstM hH;cases zCC r;have jl:j<bs.length:=(qZ.mp hj).1;have at_:∀m (hm:m<(bs.map Value.bool).toArray.size) b,bs[m]?=some b->(bs.map Value.bool).toArray[m]= .bool b:=λm hm b hb=>by
  have hm':m<bs.length:=by simpa using hm
  have:bs[m]=b:=by rw [qB hm'] at hb; exact Option.some.inj hb
  simp [this]
 refine call_meets F.slot_list_index ⟨_,e,rfl⟩ F.entry_list_index (F.args_list_index_2 _ _)
  (MeetsSeq.list_index l _ n (.bool true) (zFO true) (λy hy=>?_) j (by simpa using jl) (by omega) ?_ (λm hm hmj=>?_)) ⟨e,⟨.int _,H,I.tok _,⟨_,rfl⟩,q⟩⟩
 ·have hy':y∈bs.map Value.bool:=by simpa using hy
  obtain ⟨c,_,rfl⟩:=qY.mp hy';exact zOo c true
 ·rw [at_ j (by simpa using jl) true hj]; rfl
 ·rw [at_ m hm false (hno m hmj)]; rfl
def zST (K:PySem.W.Frag):R2:=λx y H Q=>(x= .non/\∃l ys,y= .ref l/\zQ K H l ys/\Q (.bl false) H)\/zOW K x y H Q
theorem zPK (hu:X.A.units+64<cLine):yN X (compareOp .Eq) (zST X.K):=by
 intro pins s σ H x y v u Q I rx ry h;rcases h with ⟨rfl,l,ys,rfl,hl,q⟩ | h
 ·cases rx
  cases ry;obtain ⟨its,r,pl,_⟩:=I.list hl;exact SeqAt.RcAt.none_list (items:=its.toArray) pl.isList (by omega) _ _ _ _ ⟨.bl false,H,I,rfl,q⟩
 ·exact zIV hu pins s σ H x y v u Q I rx ry h
end
end L2
namespace HT
open PySem PySem.W PyProof.Rows PySem.SeqAt PySem.MeetsSeq PySem.MeetsSeq2 PySem.MeetsSeq3
section
variable {prog:Program} {w:World} {A:Around} {E:Value->Shared->Prop} {s:Shared}
theorem zJh {a:Addr} {n:Nat} {us:List Value} {hd:Nat->Int} {ws:Nat->Str} {P:PySem.Fin->Shared->Prop} (ho:s.heap.get? a=some (seqObj "list" us.toArray n)) (h64:us.length<64)
  (hr:∀i<us.length,∃t,us.getD i .none= .str (ws i) t) (inj:∀i j,i<us.length->j<us.length->hd i=hd j->i=j)
  (hord:∀i j,i<us.length->j<us.length->i≠j->decide ((ws i).cps.toList<(ws j).cps.toList)=decide (hd i<hd j))
  (h:∀p:Array Nat,yn us.length p->UpA hd p us.length->P (.done (.ret .none)) {s with heap:=sortedHeap s.heap a us ((p.toList.map λi=>us.getD i .none).toArray)}):
  wpAny (model prog w) A (Builtin.«list.sort» ⟨[.ref a],[]⟩) P E s:=by
 have lenV:us.length=us.length:=rfl;have sz:us.toArray.size=us.length:=by rw [qV,lenV]
 have al:a<s.heap.objs.size:=Heap.lt_size ho;obtain ⟨c1,o1⟩:∃c,(s.heap.update a (Obj.mapSeq λ_=>#[])).get? a=some (seqObj "list" #[] c):=⟨_,get?_update_seq ho λ_=>#[]⟩;rw [list_sort_plain];refine wpAny_bind (listItems_at ho rfl (wpAny_bind (listUpdate_at ho rfl ?_ (by rw [sz,sizeLine_eq]; omega) (QG _))));refine wpAny_bind (seqEpoch_at o1 rfl (wpAny_bind (wpAny_newTuple ?_ (by show us.length≤_; rw [lenV,sizeLine_eq]; omega))));refine wpAny_bind (wpAny_newList (wpAny_holding ?_) (QG _))
 change wpAny (model prog w) A _ P E {s with heap:=((s.heap.update a (Obj.mapSeq λ_=>#[])).push (seqObj "tuple" us.toArray 0)).push (seqObj "list" #[] 0)}
 generalize hH:((s.heap.update a (Obj.mapSeq λ_=>#[])).push (seqObj "tuple" us.toArray 0)).push (seqObj "list" #[] 0)=H6;dsimp only;have old:∀(b:Addr) (o:Obj),b<s.heap.objs.size->(s.heap.update a (Obj.mapSeq λ_=>#[])).get? b=some o->H6.get? b=some o:=λb o hb e=>by
  rw [<-hH,Heap.get?_push_ne _ _ _ (by rw [size_push',Heap.size_update]; exact qT (xJ hb)),Heap.get?_push_ne _ _ _ (by rw [Heap.size_update]; exact qT hb)];exact e
 have o6:H6.get? a=some (seqObj "list" #[] c1):=old _ _ al o1;have fin:∀(out:Array Value),H6.update a (Obj.mapSeq λ_=>out)=sortedHeap s.heap a us out:=λout=>by rw [<-hH]; rfl
 by_cases h2:us.toArray.size<2
 ·rw [if_pos h2,if_pos h2]
  refine wpAny_bind (wpAny_pure ?_);rw [StateT.run_pure];refine wpAny_bind (wpAny_pure ?_);dsimp only;have hp:((arrOf (SortSt.mk' general' (us.toArray.zip us.toArray) #[] 7 none)).map (·.2))=(((List.toArray (List.range us.length)).toList.map λi=>us.getD i .none).toArray):=by
   apply Array.toList_inj.mp;rw [Array.toList_map];show ((us.toArray.zip us.toArray).toList.map λx:Keyed=>x.2)=((List.range us.length).map λi=>us.getD i .none);have e1:(us.toArray.zip us.toArray).toList=us.zip us:=by simp
   rw [e1,List.map_snd_zip (qE _)];exact (L2.rgD us .none).symm
  rw [hp];refine wpAny_bind (seqEpoch_at (s:={s with heap:=H6}) o6 rfl (wpAny_bind (listUpdate_at (s:={s with heap:=H6}) o6 rfl ?_ (QG _) ?_)))
  ·simp only [bne_self_eq_false,Bool.false_eq_true,if_false]
   have e:=h (List.toArray (List.range us.length)) (List.Perm.refl _) (λi j h1 h3=>absurd h2 (by rw [sz]; omega));rw [<-fin] at e;exact wpAny_pure e
  ·show ((List.range us.length).map λi=>us.getD i .none).toArray.size≤_
   rw [qV,qA,xX,sizeLine_eq];omega
 ·rw [if_neg h2,if_neg h2]
  rw [sz] at h2;refine wpAny_bind (kas_kind (T:= .type "str") (s:={s with heap:=H6}) (by omega) (λv hv=>?_) rfl rfl ?_)
  ·obtain ⟨i,hi,rfl⟩:=List.mem_iff_getElem.mp hv
   obtain ⟨t,e⟩:=hr i hi;rw [qC,qB hi] at e;have e:us[i]= .str (ws i) t:=e;rw [e];exact Looks.of_pure rfl
  have est:SortSt.mk' oneType' (us.toArray.zip us.toArray) #[] 7 none=kas_st oneType' (pairsOf us) (List.toArray (List.range us.length)):=by
   have e:=kas_range (pairsOf us);rw [pairsOf_size] at e;unfold kas_st;rw [e];rfl
  rw [est];have run:=kas_runs (prog:=prog) (w:=w) (A:=A) (E:=E) (κ:=oneType') (it:=pairsOf us) (n:=us.length) (s:={s with heap:=H6})
   (Q:=λ_ st' s'=>∃p:Array Nat,s'={s with heap:=H6}/\arrOf st'=p.map (kas_item (pairsOf us))/\failedOf st'=none/\yn us.length p/\UpA hd p us.length)
   (G:=λp s'=>s'={s with heap:=H6}/\yn us.length p/\UpA hd p us.length) (by rw [lenV]; omega) (by rw [lenV]; exact h64) (λp st' s' _ a2 a3 a4=>⟨p,a4.1,a2,a3,a4.2⟩) (by
    rw [lenV];refine zQc (key:=hd) (by omega) (λi j C hi hj ne hc=>?_) inj (by omega) λp' a1 a2=>⟨rfl,a1,a2⟩
    rw [<-kas_ask_eq];unfold kas_ask;obtain ⟨t1,e1⟩:=hr i hi;obtain ⟨t2,e2⟩:=hr j hj;rw [e1,e2];exact kas_lt_str (by rw [hord i j hi hj ne]; exact hc))
  refine wpAny_bind (wpAny_mono run ?_ λ_ _ e=>e);rintro ⟨⟨⟩,st'⟩ s' ⟨p,rfl,har,hf,a1,a2⟩;dsimp only;have ho':(arrOf st').map (·.2)=(p.toList.map λi=>us.getD i .none).toArray:=by
   apply Array.toList_inj.mp;rw [har,Array.map_map,Array.toList_map];refine xI λi hi=>?_
   show (kas_item (pairsOf us) i).2=_;rw [kas_item_eq]
  rw [ho'];refine wpAny_bind (seqEpoch_at (s:={s with heap:=H6}) o6 rfl (wpAny_bind (listUpdate_at (s:={s with heap:=H6}) o6 rfl ?_ (QG _) ?_)))
  ·rw [hf]
   simp only [bne_self_eq_false,Bool.false_eq_true,if_false];have e:=h p a1 a2;rw [<-fin] at e;exact wpAny_pure e
  ·rw [qV,qA,a1.length_eq,xX,sizeLine_eq]
   omega
end
end HT
namespace L2
open PySem PySem.Spec PyProof.Rows
section
variable {X:Cx}
theorem zDg:∀{ws:List Str} {kvs:List (ze×V)} {vs:List (ze×Value)} {us:List Value},KV kvs vs->kvs.map (·.1)=ws.map Sum.inr->us.length=vs.length->(∀(j:Nat) (u:Value),us[j]?=some u->∃k x,vs[j]?=some (k,x)/\Jl k u=true)->zi (ws.map V.str) us
 | [],kvs,_,us,r,e,hl,_=>by
  have:kvs=[]:=List.map_eq_nil_iff.mp e;subst this;cases r;have:us=[]:=List.eq_nil_of_length_eq_zero hl;subst this;exact .nil
 | w::ws,_,_,us,r,e,hl,hu=>by
  cases r with
  | nil=>cases e
  | @cons a b l1 l2 r0 rr=>
   rw [qQ,qQ] at e;injection e with e1 e2
   cases us with
   | nil=>cases hl
   | cons u ur=>
    obtain ⟨k,x,hx,hki⟩:=hu 0 u rfl;have hb:b=(k,x):=Option.some.inj hx;have ek:k=Sum.inr w:=by
     have:a.1=k:=by rw [r0.1,hb]
     rw [<-this]; exact e1
    rw [ek] at hki;exact .cons (zDl (k:=Sum.inr w) hki) (zDg rr e2 (Nat.succ.inj hl) λj w' hw=>hu (j+1) w' hw)
def UpS (ws:List Str):Prop:=ws.Pairwise λx y=>x.cps.toList<y.cps.toList
theorem zBX (hcalm:X.calm=true):yS X (.builtin "sorted") (λvs H Q=>∃(d:Addr) (kvs:List (ze×V)) (ws:List Str),vs=[.ref d]/\H d=some (.dK kvs)/\kvs.map (·.1)=ws.map Sum.inr/\ws.length<64/\UpS ws/\∀l:Addr,H l=none->Q (.ref l) (upd H l (.lst (ws.map V.str)))):=by
 intro pins s σ H xs us Q I r h;obtain ⟨d,kvs,ws,rfl,hq,hk,h64,up,q⟩:=h;obtain ⟨u,rfl,ru⟩:=r.one;cases ru;obtain ⟨z,y,vs,rr,ob,es,ep,e,c1,c2,c3⟩:=I.hok d _ hq;have hlen:kvs.length=ws.length:=by have:=congrArg List.length hk; simpa using this
 have hn:vs.length≤sizeLine:=by rw [<-rr.len]; exact z
 refine Calls.call_function_entry kind_sorted plain_sorted entry_sorted (args_sorted1 _) ?_;unfold Builtin.«sorted»;refine wpAny_bind (m:=checkCount "sorted" 1 1 _) (wpAny_pure (wpAny_bind ?_));refine PySem.W.kdu_collect (PySem.W.kdl_dict (prog:=X.prog) (w:=X.w) (knd:=ZV X.prog X.w) (d:=d) (kvs:=vs) (ep:=ep) y) (I.ok.hd hcalm) ⟨ob,es,e,c1,c2,c3⟩ hn λh' tk acc hkp hacc=>?_
 have I1:zN X pins σ H {s with heap:=h',toks:=tk}:=I.kept hkp;have hl:acc.toList.length=vs.length:=by rw [qJ]; exact hacc.1
 have hv:zi (ws.map V.str) acc.toList:=zDg rr hk hl λj u hu=>hacc.2 j u (by rw [<-Array.getElem?_toList]; exact hu)
 have la:acc.toList.length=ws.length:=by rw [hl,<-rr.len,hlen]
 refine wpAny_bind (wpAny_newList ?_ (by rw [hl]; exact hn));have hoL:(h'.push (seqObj "list" acc.toList.toArray 0)).get? h'.objs.size=some (seqObj "list" acc.toList.toArray 0):=Heap.get?_push_size _ rfl;have hr:∀i<acc.toList.length,∃t,acc.toList.getD i .none= .str (ws.getD i Str.empty) t:=λi hi=>by
  have hi':i<ws.length:=by rw [<-la]; exact hi
  obtain ⟨u,hu,ru⟩:=hv.get (i:=i) (x:= .str ws[i]) (by rw [qR,qB hi']; rfl);obtain ⟨t,rfl⟩:=ru;refine ⟨t,?_⟩;rw [qC,hu,qC,qB hi'];rfl
 have lt:∀i j,i<j->j<ws.length->(ws.getD i Str.empty).cps.toList<(ws.getD j Str.empty).cps.toList:=λi j hij hj=>by
  have:=List.pairwise_iff_getElem.mp up i j (by omega) hj hij;rw [qC,qC,qB (show i<ws.length by omega),qB hj];exact this
 refine wpAny_bind (wpAny_holding (wpAny_call_entry slot_list_sort ⟨_,hoL,rfl⟩ entry_list_sort (HT.zJh (hd:=λi=>(i:Int)) (ws:=λi=>ws.getD i Str.empty) hoL (by rw [la]; exact h64) hr (λi j _ _ z=>by omega) (λi j hi hj ne=>?_) λp a1 a2=>⟨_,rfl,?_⟩) (args_list_sort _)))
 ·rw [la] at hi hj
  rcases Nat.lt_or_gt_of_ne ne with c | c
  ·rw [decide_eq_true (lt i j c hj),decide_eq_true (by omega)]
  ·rw [decide_eq_false (λz=>absurd (lt j i c hi) (List.lt_asymm z)),decide_eq_false (by omega)]
 ·have e2:p.toList=List.range acc.toList.length:=by
   refine List.Perm.eq_of_pairwise (le:=λa b=>a≤b) (λa b _ _ h1 h2=>Nat.le_antisymm h1 h2) ?_ (xZ.imp λh=>xK h) a1;rw [List.pairwise_iff_getElem];intro i j hi hj hij;have sz:=a1.size;have hj':j<p.size:=by simpa using hj
   have k:=a2 i j hij (by rw [<-sz]; exact hj');unfold HT.Z8 at k;rw [xM,xM,Array.getElem?_eq_getElem (by omega),Array.getElem?_eq_getElem hj'] at k;rw [Array.getElem_toList,Array.getElem_toList];have k':((p[i]:Nat):Int)<(p[j]:Nat):=k;omega
  obtain ⟨ee,he⟩:=sortedHeap_at (out:=(p.toList.map λi=>acc.toList.getD i .none).toArray) hoL;have hsz:(h'.push (seqObj "list" acc.toList.toArray 0)).objs.size=h'.objs.size+1:=Heap.size_push ..;rw [e2,rgD] at he ⊢;refine wpAny_pure ⟨_,rfl, .ref h'.objs.size,_,I1.laid (t':=tk) (λb o eb=>?_) (qE _) (show ZU X.prog X.w _ _ _ (.lst (ws.map V.str)) from ⟨?_,acc.toList,ee,hv,by simpa using he⟩),rfl,q _ (I1.hok.fresh (qE _))⟩
  ·have hb:b<h'.objs.size:=Heap.lt_size eb
   exact (sortedHeap_old (qT hb) (by rw [hsz]; exact xJ hb)).trans (Heap.get?_push_of_some _ eb)
  ·rw [qA]
   exact qK (xK h64) (by decide)
end
end L2
namespace L2
open PySem PySem.Spec PyProof.Rows
section
variable {X:Cx} {d:Addr} {kvs:List (Str×Tok×Value)} {o e:Expr} {td ty:TE} {apos cpos:Pos}
def zPR (d:Addr) (kvs:List (Str×Tok×Value)) (td ty:TE):TE:=λσ H Q=>td σ H λx H1=>x= .ref d/\ty σ H1 λy H2=>∃z,y= .str z/\(valueAt (ZN kvs) (Sum.inr z)=none->Q .non H2)/\∀w',valueAt (ZN kvs) (Sum.inr z)=some w'->∃v,zn v w'/\Q v H2
theorem zKc (D:yv X.K X.w d kvs) (ho:PE X o td) (he:PE X e ty) (m:M1 X o "get" apos e cpos):PE X (.Call (.Attribute o "get" apos) [e] [] cpos) (zPR d kvs td ty):=by
 intro pins s σ H Q I h;refine wpAny_Call_method m.base m.few m.line PySem.F.plainAttrs_dict PySem.F.slot_dict_get PySem.F.type_dict_get (zj (ho pins s σ H _ I h) λu s1 ⟨x,H1,I1,rx,ex,q1⟩=>?_);subst ex;cases rx;have d1:=D.dict (P:=X.prog) I1.kIn;refine ⟨d1.typeIs,λb q=>?_,?_⟩
 ·cases q
  obtain ⟨ob,_,_,h1,h2,_⟩:=d1;exact ⟨ob,h1,h2.2.1⟩
 rw [m.trees];refine Calls.callWith_builtin rfl (Calls.evalArgs_plain (Calls.spliced_cons (zj (he pins s1 σ H1 _ I1 q1) λiv s2 ⟨y,H2,I2,ry,z,ey,q0,qs⟩=>Calls.spliced_nil ?_)));subst ey;have dd:=D.dict (P:=X.prog) I2.kIn;refine call_meetsIn PySem.F.slot_dict_get dd.typeIs PySem.F.entry_dict_get (PySem.F.args_dict_get_2 _ _) (meets_dict_get (ZV X.prog X.w) d (JB (k:=Sum.inr z) ry) D.lo) ⟨_,dd.mapOf,?_⟩;cases ev:valueAt (ZN kvs) (Sum.inr z) with
 | none=>exact ⟨.non,H2,I2.tok _,rfl,q0 ev⟩
 | some w'=>
  obtain ⟨v,rv,q⟩:=qs w' ev;exact ⟨v,H2,I2.tok _,rv,q⟩
end
section
variable {X:Cx} {k:Nat} {C f:Addr} {fd:FuncData} {ps:List Str} {sp:Sp} {dvs:List V} {ds:List Value} {m:Str} {apos pos cpos:Pos} {o e tg:Expr} {es:List Expr} {ta:TE} {t:TA} {g:TG}
def zOi (C:Addr) (m:Str) (g:TG) (sp:Sp) (dvs:List V) (ta:TE) (t:TA):XK->TS:=λE D σ H=>zHB C m sp dvs E ta t σ H λv H2=>g v σ H2 D.nx
theorem zMi {pl:Sem Bool} (hx:∀e s,¬X.xe e s) (he:PE X o ta) (c:JV X.K C) (hm:ZH X.K C m f) (Fn:zH X.prog X.w X.K X.mg X.base (Zv X.prog X.w) k f fd ps sp) (hr:Zz k X.A) (hb:zL X.K fd ps ds) (hd:zi dvs ds)
  (ha:PA X (e::es) t) (hg:PG X tg g) (hst:starEach (e::es) X.env=(false,eval e X.env)::starEach es X.env:=by rfl) (hpl:(backTo cpos (starEach es X.env)).any (·.1)=false:=by rfl)
  (ht:eval (.Call (.Attribute o m apos) (e::es) [] cpos) X.env=(do
   let ov <-eval o X.env
   standAt apos.atName
   let (f,first) <-holding [ov] (getMethod ov m pl)
   callWith cpos f first (backTo cpos (starEach (e::es) X.env)) (backToKw cpos (keywordEach [] X.env))):=by rfl)
  (hs:swapsWithSole [tg] (.Call (.Attribute o m apos) (e::es) [] cpos) pos.line X.env=pure false:=by rfl) (hw:swappedStores [tg] (.Call (.Attribute o m apos) (e::es) [] cpos) X.env=pure none:=by rfl) (h1:(assignEach [tg] X.env).map (·.2)=[assign tg X.env]:=by rfl):
  PB X [.Assign [tg] (.Call (.Attribute o m apos) (e::es) [] cpos) pos] (zOi C m g sp dvs ta t):=by
 intro pins s σ H D E F I hF h;have hq:wpAny (model X.prog X.w) X.A (eval (.Call (.Attribute o m apos) (e::es) [] cpos) X.env) (EP X pins σ λv H2=>g v σ H2 D.nx) F s:=by
  refine PySem.W.methodCall_KW (pl:=pl) (wpAny_mono (he pins s σ H _ I h) (λu s1 ⟨x,H1,I1,rx,a,dx,fs,ex,ea,l,q⟩=>?_) λ_ _ z=>(hx _ _ z).elim) ht;subst ex;obtain rfl:u=Value.ref a:=rx;refine zAe I1 ea c hm l ?_;refine PySem.W.callWith_K (first:=[.ref a]) (h₀:=X.base) I.ok.mod.kin hm.kp (wpAny_mono (ha cpos pins s1 σ H1 _ I1 q) (λus s2 ⟨vs,H2,I2,r,q2⟩=>⟨I2.kIn,?_⟩) λ_ _ z=>(hx _ _ z).elim) hst hpl;have r2:zi (.ref a::vs++dvs) (.ref a::us++ds):=zi.append (.cons rfl r) hd;have hl:(.ref a::us++ds).length=ps.length:=by rw [<-r2.length]; exact Fn.len _ _ _ _ q2
  refine wpAny_call (codeAny_mono (Fn.run X.A X.stack s2 H2 ⟨.ref a::us,[]⟩ (.ref a::us++ds) (.ref a::vs++dvs) _ E hr I2.env0 (hb s2 (.ref a::us) I2.kIn hl) r2 q2) λr s' hq=>?_);cases r with
  | error e=>exact hF H2 s2 e s' I2 hq
  | ok fl=>
   cases fl with
   | ret u=>exact I2.after hq
   | next=>exact False.elim hq
   | brk=>exact False.elim hq
   | cont=>exact False.elim hq
 refine wpAny_execs_cons ?_;refine wpAny_Assign_stores (zj hq λv s1 ⟨z,H1,I1,r1,q1⟩=>?_) hs hw;rw [h1];exact wpAny_mono (hg pins s1 σ H1 z v _ I1 r1 q1) (λ_ s2 ⟨σ',H',I2,q2⟩=>wpAny_execs_nil ⟨σ',H',I2,q2⟩) λ_ _ z=>(hx _ _ z).elim
end
end L2
namespace L2
open PySem PySem.Spec PyProof.Rows
section
variable {X:Cx}
def zPf (t:TS):TS:=λD σ H=>∃d kvs,H d=some (.dK kvs)/\∀o,t {nx:=λσ' H'=>H' d=some (.frz o (.dK kvs))/\D.nx σ' (upd H' d (.dK kvs)),rt:=λv H'=>H' d=some (.frz o (.dK kvs))/\D.rt v (upd H' d (.dK kvs)),bk:=λσ' H'=>H' d=some (.frz o (.dK kvs))/\D.bk σ' (upd H' d (.dK kvs)),ct:=λσ' H'=>H' d=some (.frz o (.dK kvs))/\D.ct σ' (upd H' d (.dK kvs))} σ (upd H d (.frz o (.dK kvs)))
theorem Yl.hold {st:List Stmt} {t:TS} (h:Yl X st t):Yl X st (zPf t):=by
 intro pins s σ H D I ⟨d,kvs,hd,q⟩;obtain ⟨o,eo,I1⟩:=I.hold hd;have nf:∀o' u,X.H₀ d≠some (.frz o' u):=λo' u q=>by
  have:=I.base.frzs d o' u q;rw [hd] at this; cases this
 have back:∀{σ1:St} {H1:Hp} {s1:Shared},zN X pins σ1 H1 s1->H1 d=some (.frz o (.dK kvs))->zN X pins σ1 (upd H1 d (.dK kvs)) s1:=λ{σ1 H1 s1} I2 eH=>by
  have ok:ZU X.prog X.w H1 s1.heap d (.frz o (.dK kvs)):=I2.hok d _ eH;obtain ⟨eo',z,y,vs,rr,ob,es,ep,e,c⟩:=ok;exact I2.ghost (d:=d) (H':=upd H1 d (.dK kvs)) ⟨_,eH,(λ_ z=>nomatch z),(λ_ z=>nomatch z),(λ_ z=>nomatch z)⟩ (λb hb=>zI hb) (λo' u q=>absurd q (nf o' u)) ⟨_,zD,(λ_ z=>nomatch z),z,y,vs,rr,ob,es,ep,e,c⟩
 refine zj (h pins s σ _ _ I1 (q o)) λfl s1 hq=>?_
 cases fl with
 | next=>obtain ⟨σ1,H1,I2,eH,q1⟩:=hq; exact ⟨σ1,_,back I2 eH,q1⟩
 | brk=>obtain ⟨σ1,H1,I2,eH,q1⟩:=hq; exact ⟨σ1,_,back I2 eH,q1⟩
 | cont=>obtain ⟨σ1,H1,I2,eH,q1⟩:=hq; exact ⟨σ1,_,back I2 eH,q1⟩
 | ret u=>obtain ⟨v,σ1,H1,I2,r,eH,q1⟩:=hq; exact ⟨v,σ1,_,back I2 eH,r,q1⟩
end
theorem zEd {d:Addr} {o:Obj} {kvs:List (ze×V)} {g:TG} {tb:TS} {D:Ym} {σ:St} {H:Hp} (Pv:Nat->St->Hp->Prop) (h0:Pv 0 σ H) (hl:∀i σ H,i≤kvs.length->Pv i σ H->H d=some (.frz o (.dK kvs)))
  (hs:∀i k σ H,(kvs.map (·.1))[i]?=some k->Pv i σ H->g (kV k) σ H λσ2 H2=>tb {D with nx:=Pv (i+1),ct:=Pv (i+1),bk:=D.nx} σ2 H2) (hd:∀σ H,Pv kvs.length σ H->D.nx σ H):
  ∃W:Nat->Nat->St->Hp->Prop,(∃m,W 0 m σ H)/\∀i m σ H,W i m σ H->
   ((Itd d o kvs).stop i H/\D.nx σ H)\/((Itd d o kvs).go i H/\∃N:St->Hp->Prop,(∀σ' H',N σ' H'->∃m',m'<m/\W (i+1) m' σ' H')/\∀x H',(Itd d o kvs).yld i H x H'->g x σ H' λσ2 H2=>tb {D with nx:=N,ct:=N,bk:=D.nx} σ2 H2):=by
 refine ⟨λi m σ H=>m=kvs.length - i/\i≤kvs.length/\Pv i σ H,⟨kvs.length,by simp,QG _,h0⟩,?_⟩;rintro i m σ H ⟨rfl,hi,p⟩;have q:=hl i σ H hi p;by_cases hlt:i<kvs.length
 ·refine .inr ⟨⟨q,hlt⟩,Pv (i+1),λσ' H' p'=>⟨kvs.length - (i+1),by omega,rfl,hlt,p'⟩,λx H' y=>?_⟩
  obtain ⟨e,k,hk,rfl⟩:=y;subst e;exact hs i k σ _ hk p
 ·have e:i=kvs.length:=by omega
  subst e;exact .inl ⟨⟨q,qE _⟩,hd σ H p⟩
end L2
namespace N48
open PySem PySem.Spec PyProof.Rows L2
theorem ZA {N P:List Str} {sc:Scope} (a:sc.kind= .function:=by rfl) (b:sc.isCoroutine=false:=by rfl) (c:sc.isGenerator=false:=by rfl) (d:N.Nodup:=by decide +kernel) (e:N.take P.length=P:=by rfl) (f:∀x∈P,sc.names.lookup x=some .local\/sc.names.lookup x=some .cell:=by decide +kernel) (g:∀y∈sc.names,y.2≠ .free:=by decide +kernel):zP N P sc:=⟨a,b,c,d,e,f,g⟩
abbrev ZC (K:W.Frag) (f:Addr):Prop:=W.keepIn K (.ref f)=true
theorem Z9:2≤sizeLine:=by decide
variable {P:Program} {w:World} {K:W.Frag} {mg:Str->Option Value} {base:Heap}
def top (i:Nat):Stmt:=PySem.Challenge.pw_nearsums_k48_rows_that_are_none.main.body.getD i (.Pass ⟨0,0,0,0⟩)
abbrev JJ:List Value:=[.type "ValueError", .type "Exception", .type "BaseException", .type "object"]
structure Bt (mg:Str->Option Value):Prop where
 len:mg "len"=none
 max:mg "max"=none
 min:mg "min"=none
 range:mg "range"=none
 list:mg "list"=none
 int:mg "int"=none
structure Bt2 (mg:Str->Option Value):Prop extends Bt mg where
 all:mg "all"=none
 isinstance:mg "isinstance"=none
 bool:mg "bool"=none
 str:mg "str"=none
 tuple:mg "tuple"=none
 sorted:mg "sorted"=none
theorem zt {H H':Hp} {p:Addr} (g:zC H H') (h:H' p=none):H p=none:=by
 cases e:H p with
 | none=>rfl
 | some o=>rw [g _ _ e] at h; cases h
structure zAd (xs:List Int):Prop where
 up:xs.Pairwise (·<·)
 bd:∀x∈xs,0≤x
structure zCb (ns ss:List Int):Prop where
 n:zAd ns
 s:zAd ss
 n1:1≤ns.length
 n2:ns.length≤10
 s2:ss.length≤10
theorem zAy {x:V} {σ:L2.St} {H:Hp} {A B:L2.St->Hp->Prop} (h:A (σ.set 0 (some x)) H):Zi 0 x σ H λσ2 H2=>zBO σ2 H2 λb H3=>if b=true then A σ2 H3 else B σ2 H3:=by
 have z:(if true=true then A (σ.set 0 (some x)) H else B (σ.set 0 (some x)) H):=yA h;exact z
structure Bt3 (mg:Str->Option Value):Prop extends Bt2 mg where
 enumerate:mg "enumerate"=none
abbrev zEe:Stmt:=top 18
abbrev zHU:Stmt:=top 19
abbrev zKT:Stmt:=top 20
structure Zm (H:Hp) (t a b:Addr) (ns ss:List Int):Prop where
 t:H t=some (.tup [.ref a, .ref b])
 a:H a=some (.lst (ns.map V.int))
 b:H b=some (.lst (ss.map V.int))
 ok:zCb ns ss
theorem Zm.same {H H':Hp} {t a b:Addr} {ns ss:List Int} (h:Zm H t a b ns ss) (g:zC H H'):Zm H' t a b ns ss:=⟨g _ _ h.t,g _ _ h.a,g _ _ h.b,h.ok⟩
def jg:Sp:=λvs H Q _=>∃v d,vs=[v]/\yD H v d/\Q (.bl (isW d)) H
def zDD:Sp:=λvs H Q _=>∃v d few,vs=[v, .int few]/\yD H v d/\Q (.bl (yp few d)) H
def zFI:Sp:=λvs H Q _=>∃v d,vs=[v]/\yD H v d/\Q (.bl (j9 d)) H
theorem zII {ds:List PyData} {i:Nat} {d:PyData} {b:Int} (e:ds[i]?=some d):Zh b (ds.drop i)=Zh b (d::ds.drop (i+1)):=by
 obtain ⟨hi,hv⟩:=qZ.mp e;rw [XR hi,hv]
theorem zDd:∀{xs:List Int} {b:Int},xs.Pairwise (·<·)->(∀x∈xs,b<x)->Zh b (xs.map PyData.int)=true
 | [],_,_,_=>rfl
 | x::r,b,h,hb=>by
  rw [QT] at h;show (decide (b<x)&&Zh x (r.map PyData.int))=true;rw [decide_eq_true (hb x qD),zDd h.2 h.1];rfl
theorem zDJ {xs:List Int} (h:zAd xs) {few:Int} (l1:few≤(xs.length:Int)) (l2:xs.length≤10):yp few (.list (xs.map PyData.int))=true:=by
 show (decide (few≤(((xs.map PyData.int).length:Nat):Int))&&(decide ((xs.map PyData.int).length≤10)&&Zh (-1) (xs.map PyData.int)))=true;rw [qA,decide_eq_true l1,decide_eq_true l2,zDd h.up λx hx=>by have:=h.bd x hx; omega];rfl
theorem Zm.dat {H:Hp} {t a b:Addr} {ns ss:List Int} (h:Zm H t a b ns ss):∃d,yD H (.ref t) d/\j9 d=true:=by
 refine ⟨_, .tup h.t (.cons (.lst h.a (ZK.ints ns)) (.cons (.lst h.b (ZK.ints ss)) .nil)),?_⟩;show (yp 1 (.list (ns.map PyData.int))&&yp 0 (.list (ss.map PyData.int)))=true;have n1:=h.ok.n1;rw [zDJ h.ok.n (by omega) h.ok.n2,zDJ h.ok.s (by omega) h.ok.s2];rfl
section
variable {f wh ri:Addr} {fd whd rid:FuncData} {t10:Tok}
theorem zNo:zP ["thing"] ["thing"] (zF zEe):=ZA
theorem zIN (F:zm K "is_whole" "is_whole" zEe f fd) (B:Bt2 mg):zH P w K mg base zT 1 f fd ["thing"] jg:=by
 refine F.ok zNo (λvs H Q E h=>?_) (λcdv A outer s H vs Q E hr h=>?_)
 ·obtain ⟨v,d,rfl,_⟩:=h
  rfl
 obtain ⟨v,d,rfl,hd,q⟩:=h;refine ⟨_,(@zG _ _ _ (zR (Yv (zY (Y5 "int") rfl B.isinstance boot_isinstance (zA (pv 0) (zA (jC (v:= .ty "int") rfl B.int PyProof.Rows.boot_int rfl) zB))) (Ya (zJs (zY (Y5 "bool") rfl B.isinstance boot_isinstance (zA (pv 0) (zA (jC (v:= .ty "bool") rfl B.bool PyProof.Rows.boot_bool rfl) zB)))))))),?_⟩;refine ⟨_,rfl,_,_,isI d,rfl,hd.ty,zQt _ d,_,rfl,zq (λc=>?_) (λc=>?_)⟩
 ·refine ⟨_,rfl,_,_,isB d,rfl,hd.ty,zRI _ d,_,rfl,?_⟩
  have e:(!isB d)=isW d:=by cases d <;> first | rfl | cases c
  rw [<-e] at q;exact q
 ·have e:isW d=false:=by cases d <;> first | rfl | exact absurd rfl c
  rw [e] at q;exact q
theorem zCd:zP ["thing","fewest","below","number"] ["thing","fewest"] (zF zHU):=ZA
theorem zLj (F:zm K "is_rising_list" "is_rising_list" zHU f fd) (B:Bt2 mg) (m10:mg "MOST"=some (.int 10 t10))
  (GW:zH P w K mg base zT 1 wh whd ["thing"] jg) (bW:zL K whd ["thing"] []) (kW:ZC K wh) (mW:mg "is_whole"=some (.ref wh)):zH P w K mg base zT 2 f fd ["thing","fewest"] zDD:=by
 refine F.ok zCd (λvs H Q E h=>?_) (λcdv A outer s H vs Q E hr h=>?_)
 ·obtain ⟨v,d,few,rfl,_⟩:=h
  rfl
 obtain ⟨v,d,few,rfl,hd,q⟩:=h;refine ⟨_,(@zE _ _ _ _ _ (zy (PW.pt (Yd (Zn (Zf (zY (Y5 "list") rfl B.isinstance boot_isinstance (zA (pv 0) (zA (jC (v:= .ty "list") rfl B.list xH rfl) zB))))) (YC (Zn (zBs JA JA (pv 1) (zY ZD rfl B.len QB (zA (pv 0) zB)) (zr (v:= .int 10) rfl m10 ⟨_,rfl⟩)))))) (@zG _ _ _ (zR yW)) zf) (@zE _ _ _ _ _ (za (i:=2) zCd.nd rfl (Or.inl rfl) (zCL zAq zK)) (@zE _ _ _ _ _ (jO PassesOwn.never rfl (ZM (pv 0)) (zp (i:=3) zCd.nd rfl (Or.inl rfl)) (@zE _ _ _ _ _ (zy (PW.pt (Yd (Zn (Zf (zU GW hr rfl mW kW bW .nil zO (zA (pv 3) zB)))) (YC (zh JA (pv 3) (pv 2) (zk _))))) (@zG _ _ _ (zR yW)) zf) (@zG _ _ _ (za (i:=2) zCd.nd rfl (Or.inl rfl) (pv 3))))) (@zG _ _ _ (zR yW))))),?_⟩;refine ⟨_,rfl,_,_,isL d,rfl,hd.ty,zQe _ d,_,rfl,zq (λc=>?_) (λc=>?_)⟩
 ·have e:yp few d=false:=by cases d <;> first | rfl | cases c
  rw [e] at q;exact q
 cases hd with
 | lst ha hx=>
  rename_i a xs ds
  have hl:=hx.len;have eq:yp few (.list ds)=(decide (few≤(ds.length:Int))&&(decide (ds.length≤10)&&Zh (-1) ds)):=rfl;rw [eq] at q;refine ⟨_,rfl,_,rfl,a,_,rfl, .inl (zQ.of ha),_,_,rfl,rfl,_,rfl,zq (λc1=>?_) (λc1=>?_)⟩
  ·refine ⟨_,_,rfl,rfl,_,rfl,zq (λc2=>?_) (λc2=>?_)⟩
   ·have e:decide (ds.length≤10)=false:=by
     have c3:(!decide (((xs.length:Nat):Int)≤10))=true:=c2;rw [QQ,decide_eq_false_iff_not] at c3;exact decide_eq_false (by omega)
    rw [e,QH,XU] at q;exact q
   ·have e1:decide (few≤(ds.length:Int))=true:=by rw [<-hl]; exact c1
    have e2:decide (ds.length≤10)=true:=by
     have c3:¬(!decide (((xs.length:Nat):Int)≤10))=true:=c2;rw [QQ,decide_eq_false_iff_not] at c3;exact decide_eq_true (by omega)
    rw [e1,e2,QL,QL] at q;refine ⟨_,rfl,_,rfl,a,rfl,⟨_,zQ.of ha⟩,?_⟩;refine zAQ (xs:=xs) (λi σ H'=>∃(bl:Int) (y:Option V),σ=[some (.ref a),some (.int few),some (.int bl),y]/\H'=H/\Zh bl (ds.drop i)=Zh (-1) ds)
     ⟨-1,none,rfl,rfl,rfl⟩ (λi σ H' _ ⟨_,_,_,e,_⟩=>by rw [e]; exact zQ.of ha) ?_ ?_
    ·rintro i x σ H' hxi ⟨bl,y,rfl,rfl,hb⟩
     obtain ⟨d',ed,hd'⟩:=hx.at hxi;rw [zII ed] at hb;refine ⟨_,rfl,x,d',rfl,hd',_,rfl,zq (λc3=>?_) (λc3=>?_)⟩
     ·have e:Zh bl (d'::ds.drop (i+1))=false:=by cases d' <;> first | rfl | cases c3
      rw [<-hb,e] at q;exact q
     ·cases d' with
      | int n=>
       cases hd';refine ⟨_,rfl,_,rfl,_,_,rfl,rfl,_,rfl,zq (λc4=>?_) (λc4=>?_)⟩
       ·have e:Zh bl (.int n::ds.drop (i+1))=false:=by
         have c5:n≤bl:=of_decide_eq_true c4;show (decide (bl<n)&&Zh n (ds.drop (i+1)))=false;rw [decide_eq_false (by omega),QH]
        rw [<-hb,e] at q;exact q
       ·refine ⟨_,rfl,n,_,rfl,rfl,?_⟩
        rw [<-hb];have c5:¬n≤bl:=λz=>c4 (decide_eq_true z)
        show Zh n (ds.drop (i+1))=(decide (bl<n)&&Zh n (ds.drop (i+1)));rw [decide_eq_true (by omega),QL]
      | _=>exact absurd rfl c3
    ·rintro σ H' ⟨bl,y,rfl,rfl,hb⟩
     rw [<-hb,hl,List.drop_length] at q;exact q
  ·have e:decide (few≤(ds.length:Int))=false:=by
    rw [<-hl];exact QR.mpr c1
   rw [e,QH] at q;exact ⟨_,rfl,q⟩
 | _=>exact absurd rfl c
theorem zRX:zP ["thing"] ["thing"] (zF zKT):=ZA
theorem zOO {H:Hp} {xs:List V} {ds:List PyData} (h:ZK H xs ds) (e:xs.length=2):∃x y dx dy,xs=[x,y]/\ds=[dx,dy]/\yD H x dx/\yD H y dy:=by
 cases h with
 | nil=>cases e
 | cons h1 h2=>
  cases h2 with
  | nil=>cases e
  | cons h3 h4=>
   cases h4 with
   | nil=>exact ⟨_,_,_,_,rfl,rfl,h1,h3⟩
   | cons _ _=>simp at e
theorem zNC {ds:List PyData} (e:ds.length≠2):j9 (.tuple ds)=false:=by
 match ds with
 | []=>rfl
 | [_]=>rfl
 | [_,_]=>exact absurd rfl e
 | _::_::_::_=>rfl
theorem zNJ (F:zm K "is_plan" "is_plan" zKT f fd) (B:Bt2 mg) (GI:zH P w K mg base zT 2 ri rid ["thing","fewest"] zDD) (bI:zL K rid ["thing","fewest"] []) (kI:ZC K ri) (mI:mg "is_rising_list"=some (.ref ri)):zH P w K mg base zT 3 f fd ["thing"] zFI:=by
 refine F.ok zRX (λvs H Q E h=>?_) (λcdv A outer s H vs Q E hr h=>?_)
 ·obtain ⟨v,d,rfl,_⟩:=h
  rfl
 obtain ⟨v,d,rfl,hd,q⟩:=h;refine ⟨_,(@zE _ _ _ _ _ (zy (PW.pt (Yd (Zn (Zf (zY (Y5 "tuple") rfl B.isinstance boot_isinstance (zA (pv 0) (zA (jC (v:= .ty "tuple") rfl B.tuple PyProof.Rows.boot_tuple rfl) zB))))) (YC (zh zAH (zY ZD rfl B.len QB (zA (pv 0) zB)) zK (zk _))))) (@zG _ _ _ (zR yW)) zf) (@zG _ _ _ (zR (Yv (zU GI hr rfl mI kI bI .nil zO (zA (zu Z3 (pv 0) zK (λ_ _=>rfl)) (zA zK zB))) (Ya (zU GI hr rfl mI kI bI .nil zO (zA (zu Z3 (pv 0) zK (λ_ _=>rfl)) (zA zK zB)))))))),?_⟩;refine ⟨_,rfl,_,_,isT d,rfl,hd.ty,zRf _ d,_,rfl,zq (λc=>?_) (λc=>?_)⟩
 ·have e:j9 d=false:=by cases d <;> first | rfl | cases c
  rw [e] at q;exact q
 cases hd with
 | tup ha hx=>
  rename_i a xs ds
  have hl:=hx.len;refine ⟨_,rfl,a,_,rfl, .inr (Zd.of ha),rfl,_,rfl,zq (λc1=>?_) (λc1=>?_)⟩
  ·have e:j9 (.tuple ds)=false:=zNC λz=>by
    have c2:(!decide (V.int ((xs.length:Nat):Int)=V.int 2))=true:=c1;rw [hl,z] at c2;exact absurd c2 (by decide)
   rw [e] at q;exact q
  ·have c2:¬(!decide (V.int ((xs.length:Nat):Int)=V.int 2))=true:=c1
   rw [QQ,decide_eq_false_iff_not,Decidable.not_not] at c2;have c3:=V.int.inj c2;obtain ⟨x,y,dx,dy,rfl,rfl,h1,h2⟩:=zOO hx (by omega);have e:j9 (.tuple [dx,dy])=(yp 1 dx&&yp 0 dy):=rfl;rw [e] at q;refine ⟨_,rfl,a,_,0,_,rfl,rfl,Zd.of ha,rfl,x,dx,1,rfl,h1,_,rfl,zq (λc4=>?_) (λc4=>?_)⟩
   ·rw [c4,QL] at q
    exact ⟨_,rfl,a,_,1,_,rfl,rfl,Zd.of ha,rfl,y,dy,0,rfl,h2,q⟩
   ·rw [QR.mpr c4,QH] at q
    exact q
 | _=>exact absurd rfl c
end
abbrev zKG:Stmt:=top 21
abbrev zKs:Stmt:=top 22
def y7 (ss:List Int) (x y:Int):Bool:=decide (x≠y)&&ss.contains (x+y)
def jF:Sp:=λvs H Q _=>∃(t a b:Addr) (ns ss:List Int),vs=[.ref t]/\Zm H t a b ns ss/\Q .non H
def zHX:Sp:=λvs H Q _=>∃(t a b:Addr) (ns ss:List Int) (x y:Int),vs=[.ref t, .int x, .int y]/\Zm H t a b ns ss/\Q (.bl (y7 ss x y)) H
section
variable {f ip:Addr} {fd ipd:FuncData}
theorem zRV:zP ["plan"] ["plan"] (zF zKG):=ZA
theorem zNI (F:zm K "check_plan" "check_plan" zKG f fd) (GP:zH P w K mg base zT 3 ip ipd ["thing"] zFI) (bP:zL K ipd ["thing"] []) (kP:ZC K ip) (mP:mg "is_plan"=some (.ref ip)):zH P w K mg base zT 4 f fd ["plan"] jF:=by
 refine F.ok zRV (λvs H Q E h=>?_) (λcdv A outer s H vs Q E hr h=>?_)
 ·obtain ⟨t,a,b,ns,ss,rfl,_⟩:=h
  rfl
 obtain ⟨t,a,b,ns,ss,rfl,pl,q⟩:=h;obtain ⟨d,hd,e⟩:=pl.dat;refine ⟨_,(@zG _ _ _ (zy (Zn (Zf (zU GP hr rfl mP kP bP .nil zO (zA (pv 0) zB)))) (@zG _ _ _ zKh) zf)),?_⟩;refine ⟨_,rfl,_,d,rfl,hd,_,rfl,?_⟩;rw [e];exact yF q
theorem zRD:zP ["plan","one","other"] ["plan","one","other"] (zF zKs):=ZA
theorem zPr (F:zm K "add_up" "add_up" zKs f fd):zH P w K mg base zT 1 f fd ["plan","one","other"] zHX:=by
 refine F.ok zRD (λvs H Q E h=>?_) (λcdv A outer s H vs Q E hr h=>?_)
 ·obtain ⟨t,a,b,ns,ss,x,y,rfl,_⟩:=h
  rfl
 obtain ⟨t,a,b,ns,ss,x,y,rfl,pl,q⟩:=h;refine ⟨_,(@zG _ _ _ (zR (Yv (Z4 zAH (pv 1) (pv 2) (zk _)) (Ya (Z4 (J3 K) (zZ YG (pv 1) (pv 2)) (zu Z3 (pv 0) zK (λ_ _=>rfl)) rfl))))),?_⟩;have e1:(!decide (V.int x=V.int y))=decide (x≠y):=by
  rw [<-decide_not];exact decide_eq_decide.mpr (not_congr ⟨λh=>V.int.inj h,λh=>by rw [h]⟩)
 unfold y7 at q;refine ⟨_,rfl,_,rfl,rfl,_,rfl,?_⟩;rw [e1];refine zq (λc=>?_) (λc=>?_)
 ·rw [c,QL] at q
  exact ⟨_,rfl,_,rfl,_,_,rfl,rfl,_,rfl,t,_,1,_,rfl,rfl,Zd.of pl.t,rfl,b,x+y,ss,rfl,rfl,zQ.of pl.b,q⟩
 ·rw [QR.mpr c,QH] at q
  exact q
end
structure Bt4 (mg:Str->Option Value):Prop extends Bt3 mg where
 zip:mg "zip"=none
 sum:mg "sum"=none
def yE (m:Nat):Nat:=((List.range 10).filter λk=>m.testBit k).length
theorem yQ:∀m<1024,∀k<10,m.testBit k=true->yE (m - 2^k)+1=yE m/\m - 2^k<m/\(m - 2^k).testBit k=false:=by decide +kernel
theorem zAN:∀m<1024,yE m=0->m=0:=by decide +kernel
theorem YQ:∀m<1024,yE m≤10:=by decide +kernel
theorem JT:∀n<11,2^n≤1024:=by decide +kernel
theorem zLZ:∀m<1024,∀k<10,((m&&& 2^k) !=0)=m.testBit k:=by decide +kernel
section
variable (near:Nat->List Nat) (ends:Nat->Bool)
def zKF:Nat->Nat->Nat->Bool
 | 0,_,e=>ends e
 | m+1,left,e=>(near e).any λk=>left.testBit k&&zKF m (left - 2^k) k
def jT (left e:Nat):Bool:=zKF near ends (yE left) left e
def yj (left e:Nat):Option Nat:=(near e).find? λk=>left.testBit k&&jT near ends (left - 2^k) k
def zAS:Nat->Nat->Nat->List Nat
 | 0,_,_=>[]
 | m+1,left,e=>match yj near ends left e with
  | none=>[]
  | some k=>k::zAS m (left - 2^k) k
def Js (left e:Nat):List Nat:=zAS near ends (yE left) left e
structure Zt (n:Nat):Prop where
 n10:n≤10
 lt:∀e≤n,∀k∈near e,k<n
 up:∀e≤n,(near e).Pairwise (·<·)
variable {near ends}
theorem zKq {e:Nat}:jT near ends 0 e=ends e:=rfl
theorem zHR {l:List Nat} {p q:Nat->Bool} (h:∀k∈l,p k=q k):l.any p=l.any q:=by
 induction l with
 | nil=>rfl
 | cons a r ih=>rw [XI,XI,h a qD,ih λk hk=>h k (qF _ hk)]
theorem zKm {n left e:Nat} (N:Zt near n) (hl:left<1024) (h0:left≠0) (he:e≤n):jT near ends left e=(near e).any λk=>left.testBit k&&jT near ends (left - 2^k) k:=by
 unfold jT;cases hc:yE left with
 | zero=>exact absurd (zAN left hl hc) h0
 | succ m=>
  show ((near e).any λk=>left.testBit k&&zKF near ends m (left - 2^k) k)=_;refine zHR λk hk=>?_
  cases hb:left.testBit k with
  | false=>rfl
  | true=>
   have hk10:k<10:=qP (N.lt e he k hk) N.n10;have:=(yQ left hl k hk10 hb).1;have em:yE (left - 2^k)=m:=by omega
   rw [em]
theorem zCH {n left e k:Nat} (N:Zt near n) (he:e≤n) (h:yj near ends left e=some k):k<n/\left.testBit k=true/\jT near ends (left - 2^k) k=true:=by
 have h1:=List.find?_some h;have h2:=List.mem_of_find?_eq_some h;rw [qM] at h1;exact ⟨N.lt e he k h2,h1.1,h1.2⟩
theorem zDS {n left e:Nat} (N:Zt near n) (hl:left<1024) (h0:left≠0) (he:e≤n):jT near ends left e=(yj near ends left e).isSome:=by
 rw [zKm N hl h0 he];unfold yj;rw [QY,List.find?_isSome,XO]
theorem zIs {e:Nat}:Js near ends 0 e=[]:=rfl
theorem zJX {n left e k:Nat} (N:Zt near n) (hl:left<1024) (he:e≤n) (h:yj near ends left e=some k):Js near ends left e=k::Js near ends (left - 2^k) k:=by
 obtain ⟨hk,hb,hc⟩:=zCH N he h;have h1:=(yQ left hl k (qP hk N.n10) hb).1;unfold Js;rw [<-h1];show (match yj near ends left e with | none=>[] | some j=>j::zAS near ends (yE (left - 2^k)) (left - 2^j) j)=_;rw [h]
theorem zGe {n:Nat} (N:Zt near n):∀(m left e:Nat),e≤n->∀k∈zAS near ends m left e,k<n
 | 0,_,_,_,k,h=>nomatch h
 | m+1,left,e,he,k,h=>by
  have h':k∈(match yj near ends left e with | none=>[] | some k=>k::zAS near ends m (left - 2^k) k):=h;cases hf:yj near ends left e with
  | none=>rw [hf] at h'; exact nomatch h'
  | some j=>
   rw [hf] at h';have hj:=(zCH N he hf).1;rcases qG.mp h' with z | z
   ·rw [z]; exact hj
   ·exact zGe N m _ j (xK hj) k z
theorem zBo:∀(m left e:Nat),(zAS near ends m left e).length≤m
 | 0,_,_=>qE _
 | m+1,left,e=>by
  show (match yj near ends left e with | none=>[] | some k=>k::zAS near ends m (left - 2^k) k).length≤m+1;cases yj near ends left e with
  | none=>exact QG _
  | some j=>exact Nat.succ_le_succ (zBo m _ j)
end
theorem J1:∀(N:Nat) (l:List Nat),l.Nodup->(∀x∈l,x<N)->l.length≤N
 | 0,l,_,h=>by
  cases l with
  | nil=>exact qE _
  | cons a r=>exact absurd (h a qD) (XG _)
 | N+1,l,nd,h=>by
  by_cases hm:N∈l
  ·have h1:=J1 N (l.erase N) (nd.erase N) λx hx=>by
    have hx':=(List.Nodup.mem_erase_iff nd).mp hx;have:=h x hx'.2;have hne:=hx'.1;omega
   rw [List.length_erase_of_mem hm] at h1;omega
  ·have h1:=J1 N l nd λx hx=>by
    have:=h x hx;have hne:x≠N:=λe=>hm (e▸hx)
    omega
   omega
abbrev zEP:Stmt:=top 33
abbrev zEV:Stmt:=top 34
abbrev zEO:Stmt:=ZJ (top 35) 0
abbrev Jz:Stmt:=ZJ (top 35) 1
def iv (l:List Nat):List Int:=l.map λk:Nat=>(k:Int)
theorem YE (l:List Nat):(iv l).length=l.length:=qA _
theorem Yo (l:List Nat):(iv l).map V.int=l.map λk:Nat=>V.int (k:Int):=qU
theorem zBY (l:List Nat) (e:Nat):(iv l).contains (e:Int)=l.contains e:=by
 rw [QY,qX,qX];unfold iv;rw [qY];constructor
 ·rintro ⟨k,hk,h⟩
  have h':k=e:=by omega
  exact h'▸hk
 ·exact λh=>⟨e,h,rfl⟩
def YU (ns ss:List Int) (x:Int):List Nat:=(List.range ns.length).filter λk=>y7 ss x (ns.getD k 0)
def ZQ (ns ss:List Int) (fs:List Nat) (e:Nat):List Nat:=if e<ns.length then YU ns ss (ns.getD e 0) else fs
def zCO:Sp:=λvs H Q _=>∃(t a b:Addr) (ns ss:List Int) (x:Int),vs=[.ref t, .int x]/\Zm H t a b ns ss/\∀(l:Addr) (H':Hp),zC H H'->H l=none->H' l=some (.lst ((iv (YU ns ss x)).map V.int))->Q (.ref l) H'
def zCg:Sp:=λvs H Q _=>∃(t a b p:Addr) (ns ss:List Int) (ks:List Nat),vs=[.ref t, .ref p]/\Zm H t a b ns ss/\H p=some (.lst ((iv ks).map V.int))/\ks.length≤1000/\(∀k∈ks,k<ns.length)/\
 ∀(l:Addr) (H':Hp),zC H H'->H l=none->H' l=some (.lst ((ks.map λk=>ns.getD k 0).map V.int))->Q (.ref l) H'
def Ys (H:Hp) (nr:Addr) (n:Nat) (near:Nat->List Nat):Prop:=∃rs:List Addr,rs.length=n+1/\H nr=some (.lst (rs.map V.ref))/\∀e≤n,∃r,rs[e]?=some r/\H r=some (.lst ((iv (near e)).map V.int))
structure SrT (K:W.Frag) (C:Addr):Prop where
 cl:JV K C
 nA:ZL K C "ahead"
 nN:ZL K C "near"
 nW:ZL K C "whole"
def fs0 (n:Nat) (nr:Addr):List (Str×V):=[("ahead", .int n),("near", .ref nr),("whole", .int ((2^n - 1:Nat):Int))]
def zCi (C:Addr):Sp:=λvs H Q _=>∃(s t a b fp dx:Addr) (ns ss:List Int) (fs:List Nat),vs=[.ref s, .ref t, .ref fp]/\H s=some (.ins C dx [])/\Zm H t a b ns ss/\H fp=some (.lst ((iv fs).map V.int))/\
 ∀(nr:Addr) (H':Hp),Ex (·=s) H H'->H' s=some (.ins C dx (fs0 ns.length nr))->Ys H' nr ns.length (ZQ ns ss fs)->Q .non H'
def YR (C:Addr):Sp:=λvs H Q _=>∃(s dx nr:Addr) (fs:List (Str×V)) (n:Nat) (near:Nat->List Nat) (left e:Nat),vs=[.ref s, .int left, .int e]/\H s=some (.ins C dx fs)/\fs.lookup ("near":Str)=some (.ref nr)/\Ys H nr n near/\Zt near n/\e≤n/\left<1024/\
 ∀(l:Addr) (H':Hp),zC H H'->H l=none->H' l=some (.lst ((iv ((near e).filter λk=>left.testBit k)).map V.int))->Q (.ref l) H'
theorem zAB {ns ss:List Int} {fs:List Nat} (ok:zCb ns ss) (h1:∀k∈fs,k<ns.length) (h2:fs.Pairwise (·<·)):Zt (ZQ ns ss fs) ns.length where
 n10:=ok.n2
 lt:=λe _ k hk=>by
  unfold ZQ at hk
  split at hk
  ·exact QP.mp (QD.mp hk).1
  ·exact h1 k hk
 up:=λe _=>by
  unfold ZQ
  split
  ·exact List.Pairwise.filter _ xZ
  ·exact h2
theorem jk {near:Nat->List Nat} {n e:Nat} (N:Zt near n) (he:e≤n):(near e).length≤n:=
 J1 n _ ((N.up e he).imp λh=>qT h) (N.lt e he)
theorem zQY (left k:Nat) (h:left<1024) (hk:k<10):(Builtin.bitAnd (left:Int) (1*2^((k:Int)).toNat) !=0)=left.testBit k:=by
 have e:(1*2^((k:Int)).toNat:Int)=((2^k:Nat):Int):=by rw [Int.one_mul,xE]; simp
 rw [e,<-zLZ left h k hk];unfold Builtin.bitAnd;simp only [Int.natCast_nonneg,decide_true,xE];rw [QY];simp only [bne_iff_ne,ne_eq];exact not_congr (by omega)
theorem j7 (left k:Nat) (h:2^k≤left):((left:Int) - 1*2^((k:Int)).toNat)=((left - 2^k:Nat):Int):=by
 have e:(1*2^((k:Int)).toNat:Int)=((2^k:Nat):Int):=by rw [Int.one_mul,xE]; simp
 rw [e]; omega
theorem jL {left k:Nat} (h:left.testBit k=true):2^k≤left:=Nat.ge_two_pow_of_testBit h
theorem yy {l:List Nat} {i k:Nat} (h:l[i]?=some k):((iv l).map V.int)[i]?=some (.int (k:Int)):=by rw [Yo,qR,h]; rfl
theorem zOK {l:List Nat} {i:Nat} {x:V} (h:((iv l).map V.int)[i]?=some x):∃k,l[i]?=some k/\x= .int (k:Int):=by
 rw [Yo,qR] at h;cases e:l[i]? with
 | none=>rw [e] at h; cases h
 | some k=>rw [e] at h; exact ⟨k,rfl,(Option.some.inj h).symm⟩
theorem zNQ (ns:List Int) (ks:List Nat):(((List.range ks.length).filter λ_=>true).map λi=>V.int (ns.getD (ks.getD i 0) 0))=(ks.map λk=>ns.getD k 0).map V.int:=by
 rw [Y3,qU];have h:=congrArg (List.map (V.int ∘ λk=>ns.getD k 0)) (rgD ks 0);rw [qU] at h;exact h
section
variable {f ad nf C:Addr} {fd add nfd:FuncData}
theorem zOk:zP ["plan","number"] ["plan","number"] (zF zEP):=ZA
theorem zMv (F:zm K "near_places" "near_places" zEP f fd) (B:Bt3 mg)
  (GA:zH P w K mg base zT 1 ad add ["plan","one","other"] zHX) (bA:zL K add ["plan","one","other"] []) (kA:ZC K ad) (mA:mg "add_up"=some (.ref ad)):zH P w K mg base zT 2 f fd ["plan","number"] zCO:=by
 refine F.ok zOk (λvs H Q E h=>?_) (λcdv A outer s H vs Q E hr h=>?_)
 ·obtain ⟨t,a,b,ns,ss,x,rfl,_⟩:=h
  rfl
 obtain ⟨t,a,b,ns,ss,x,rfl,pl,q⟩:=h;refine ⟨_,(@zG _ _ _ (zR (Za ["place","other"] rfl (ZY (zF zEP) ["plan","number"] rfl rfl (by decide +kernel)) (zGP rfl B.enumerate (zA (zu Z3 (pv 0) zK (λ_ _=>rfl)) zB)) (λpins C fp s3 H3=>⟨(zGN (n:=2) K rfl (YZ (zp (i:=0) (show (Zo ["place","other"] ["plan","number"]).Nodup by decide +kernel) rfl (Or.inl rfl)) (YZ (zp (i:=1) (show (Zo ["place","other"] ["plan","number"]).Nodup by decide +kernel) rfl (Or.inl rfl)) zBK))),(Ye (Zf (zU GA hr rfl mA kA bA .nil zO (zA (pv 2) (zA (pv 3) (zA (pv 1) zB)))))),(pv 0)⟩)))),?_⟩;have n2:=pl.ok.n2;have hml:(ns.map V.int).length=ns.length:=qA _;refine ⟨_,rfl,t,_,0,_,rfl,rfl,Zd.of pl.t,rfl,a,_,rfl,pl.a,λD hD=>?_⟩;refine zHY (σ:=[some (.ref t),some (.int x)]) (xs:=ns.map V.int) (λi=>y7 ss x (ns.getD i 0)) (λi=> .int (i:Int)) pl.a hD (by omega) (λi H' hi g P hP=>?_) (λi H' hi _ g P hP=>?_) λH2 g2 e2=>?_
 ·rw [JI _ (by rw [hml] at hi; exact hi)]
  exact ⟨_,rfl,_,rfl,_,rfl,t,a,b,ns,ss,x,_,rfl,pl.same g,_,rfl,hP _ zC.rfl'⟩
 ·exact ⟨_,rfl,hP _ zC.rfl'⟩
 ·refine q D H2 g2 hD ?_
  rw [e2,hml,Yo];rfl
theorem zPm:zP ["plan","places"] ["plan","places"] (zF zEV):=ZA
theorem zMp (F:zm K "numbers_at" "numbers_at" zEV f fd):zH P w K mg base zT 1 f fd ["plan","places"] zCg:=by
 refine F.ok zPm (λvs H Q E h=>?_) (λcdv A outer s H vs Q E hr h=>?_)
 ·obtain ⟨t,a,b,p,ns,ss,ks,rfl,_⟩:=h
  rfl
 obtain ⟨t,a,b,p,ns,ss,ks,rfl,pl,hp,h1000,hlt,q⟩:=h;refine ⟨_,(@zG _ _ _ (zR (Za ["place"] rfl (ZY (zF zEV) ["plan","places"] rfl rfl (by decide +kernel)) (ZM (pv 1)) (λpins C fp s3 H3=>⟨(zp (i:=0) (show (Zo ["place"] ["plan","places"]).Nodup by decide +kernel) rfl (Or.inl rfl)),Zp,(zu (zBr K) (zu (zGO K) (pv 1) zK (λ_ _=>rfl)) (pv 0) (λ_ _=>rfl))⟩)))),?_⟩;have hml:((iv ks).map V.int).length=ks.length:=by rw [qA,YE]
 refine ⟨_,rfl,p,rfl,⟨_,zQ.of hp⟩,λD hD=>?_⟩;refine yM (σ:=[some (.ref t),some (.ref p)]) (xs:=(iv ks).map V.int) (λ_=>true) (λi=> .int (ns.getD (ks.getD i 0) 0)) (zQ.of hp) hD (by omega) (λi H' hi g P hP=>?_) (λi H' hi _ g P hP=>?_) λH2 g2 e2=>?_
 ·exact hP _ zC.rfl'
 ·have hi':i<ks.length:=by rw [hml] at hi; exact hi
  have ek:ks[i]?=some ks[i]:=qB hi';have e1:((iv ks).map V.int).getD i .non= .int ((ks[i]:Nat):Int):=by rw [qC,yy ek]; rfl
  have e2:ks.getD i 0=ks[i]:=by rw [qC,ek]; rfl
  have hk:ks[i]<ns.length:=hlt _ (QF hi');rw [e1];rw [e2] at hP;refine ⟨_,rfl,t,_,0,_,rfl,rfl,Zd.of (pl.same g).t,rfl,_,rfl,a,_,_,_,rfl,rfl,zQ.of (pl.same g).a,Z2 ?_,hP _ zC.rfl'⟩;rw [qR,qB hk,qC,qB hk];rfl
 ·refine q D H2 g2 hD ?_
  rw [e2,hml];exact congrArg (λx=>some (HO.lst x)) (zNQ ns ks)
theorem zQI:zP ["self","plan","first_places"] ["self","plan","first_places"] (zF zEO):=ZA
theorem zDT (F:zm K "__init__" "Steps.__init__" zEO f fd) (B:Bt3 mg) (T:SrT K C)
  (GN:zH P w K mg base zT 2 nf nfd ["plan","number"] zCO) (bN:zL K nfd ["plan","number"] []) (kN:ZC K nf) (mN:mg "near_places"=some (.ref nf)):zH P w K mg base zT 3 f fd ["self","plan","first_places"] (zCi C):=by
 refine F.ok zQI (λvs H Q E h=>?_) (λcdv A outer s H vs Q E hr h=>?_)
 ·obtain ⟨s,t,a,b,fp,dx,ns,ss,fs,rfl,_⟩:=h
  rfl
 obtain ⟨s,t,a,b,fp,dx,ns,ss,fs,rfl,hs,pl,hfp,q⟩:=h;refine ⟨_,(@zE _ _ _ _ _ (YW (pv 0) (zY ZD rfl B.len QB (zA (zu Z3 (pv 1) zK (λ_ _=>rfl)) zB)) rfl) (@zE _ _ _ _ _ (YW (pv 0) (zZ zo (Za ["number"] rfl (ZY (zF zEO) ["self","plan","first_places"] rfl rfl (by decide +kernel)) (ZM (zu Z3 (pv 1) zK (λ_ _=>rfl))) (λpins C fp s3 H3=>⟨(zp (i:=0) (show (Zo ["number"] ["self","plan","first_places"]).Nodup by decide +kernel) rfl (Or.inl rfl)),Zp,(zU GN hr rfl mN kN bN .nil zO (zA (pv 2) (zA (pv 0) zB)))⟩)) (ZG (zA (Zu ym rfl B.list xH (zA (pv 2) zB)) zB))) rfl) (@zG _ _ _ (YW (pv 0) (zZ Yz (zZ ju zK (ZB (pv 0) rfl)) zK) rfl)))),?_⟩;have n2:=pl.ok.n2;have hml:(ns.map V.int).length=ns.length:=qA _;refine ⟨_,rfl,t,_,0,_,rfl,rfl,Zd.of pl.t,rfl,a,_,rfl, .inl (zQ.of pl.a),_,rfl,s,C,dx,_,rfl,hs,T.cl,T.nA,(by show 0<1000; decide),?_⟩;rw [hml];have ts:t≠s:=Zc pl.t hs (by intro z; cases z);have as:a≠s:=Zc pl.a hs (by intro z; cases z);have bs:b≠s:=Zc pl.b hs (by intro z; cases z);have fps:fp≠s:=Zc hfp hs (by intro z; cases z);have pl1:Zm (upd H s (.ins C dx (yt "ahead" (.int (ns.length:Int)) []))) t a b ns ss:=⟨by rw [zI ts]; exact pl.t,by rw [zI as]; exact pl.a,by rw [zI bs]; exact pl.b,pl.ok⟩;have fp1:(upd H s (.ins C dx (yt "ahead" (.int (ns.length:Int)) []))) fp=some (.lst ((iv fs).map V.int)):=by rw [zI fps]; exact hfp
 have s1:(upd H s (.ins C dx (yt "ahead" (.int (ns.length:Int)) []))) s=some (.ins C dx (yt "ahead" (.int (ns.length:Int)) [])):=zD;have ex1:Ex (·=s) H (upd H s (.ins C dx (yt "ahead" (.int (ns.length:Int)) []))):=Ex.put _ rfl;generalize upd H s (.ins C dx (yt "ahead" (.int (ns.length:Int)) []))=H1 at pl1 fp1 s1 ex1 ⊢;refine ⟨_,rfl,t,_,0,_,rfl,rfl,Zd.of pl1.t,rfl,a,rfl,⟨_,zQ.of pl1.a⟩,λD hD=>?_⟩;refine yi (n:=ns.length) (λi σ' H'=>∃(x:Option V) (rs:List Addr),σ'=[x,some (.ref s),some (.ref t),some (.ref fp)]/\zC H1 H'/\rs.length=i/\H' D=some (.lst (rs.map V.ref))/\
  ∀e<i,∃r,rs[e]?=some r/\r≠D/\H' r=some (.lst ((iv (YU ns ss (ns.getD e 0))).map V.int))) ⟨none,[],rfl,zC.new hD _,rfl,zD,λe he=>absurd he (XG _)⟩ ?_ ?_
 ·rintro i σ' H' hi ⟨x,rs,rfl,g,hrs,hl,hr'⟩
  have ex:(ns.map V.int)[i]?=some (.int ns[i]):=by rw [qR,qB hi]; rfl
  refine ⟨⟨_,_,zQ.of (g _ _ pl1.a),ex⟩,λy H2 hy=>?_⟩;obtain ⟨rfl,hy⟩:=hy;have ey:=hy _ (zQ.of (g _ _ pl1.a));rw [ex] at ey;cases ey;refine zAy ?_;refine ⟨_,rfl,_,rfl,t,a,b,ns,ss,ns[i],rfl,pl1.same g,λl H4 g4 hl4 e4=>?_⟩;have hlD:l≠D:=λz=>by rw [z,hl] at hl4; cases hl4
  refine ⟨_,g4 _ _ hl,ZW (by rw [qA]; omega),some (.int ns[i]),rs++[l],rfl,λb o hb=>?_,by rw [qI,hrs]; rfl,?_,λe he=>?_⟩
  ·have hne:b≠D:=λe=>by rw [e,hD] at hb; cases hb
   rw [zI hne];exact g4 _ _ (g _ _ hb)
  ·rw [zD,qS]; rfl
  ·rcases xY e i with z | z
   ·obtain ⟨r,r1,r2,r3⟩:=hr' e z
    exact ⟨r,by rw [xT (by omega)]; exact r1,r2,by rw [zI r2]; exact g4 _ _ r3⟩
   ·have ei:e=i:=by omega
    subst ei;refine ⟨l,by rw [xN (by omega),hrs,Nat.sub_self]; rfl,hlD,?_⟩;rw [zI hlD,e4,qC,qB hi];rfl
 ·rintro σ' H' ⟨x,rs,rfl,g,hrs,hl,hr'⟩
  refine ⟨⟨_,zQ.of (g _ _ pl1.a),by rw [hml]; exact qE _⟩,?_⟩;refine ⟨_,rfl,fp,_,rfl, .inl (zQ.of (g _ _ fp1)),λlf hlf=>⟨by show 1≤sizeLine; decide,λl2 hl2=>?_⟩⟩;have lfD:D≠lf:=zJ hl hlf;have l2D:D≠l2:=zJ (by rw [zI lfD]; exact hl) hl2;have l2f:lf≠l2:=zJ zD hl2;refine ⟨D,l2,_,_,rfl,rfl,by rw [zI l2D,zI lfD]; exact hl,zD,by rw [qA,hrs]; exact xK (zDZ (by show ns.length+1≤2000; omega)),λnr hnr=>?_⟩;have sH:zC H1 (upd (upd (upd H' lf (.lst ((iv fs).map V.int))) l2 (.lst [.ref lf])) nr (.lst (rs.map V.ref++[.ref lf]))):=λc o hc=>by
   have c1:=g _ _ hc;have c2:(upd H' lf (.lst ((iv fs).map V.int))) c=some o:=by rw [zI (zJ c1 hlf)]; exact c1
   have c3:(upd (upd H' lf (.lst ((iv fs).map V.int))) l2 (.lst [.ref lf])) c=some o:=by rw [zI (zJ c2 hl2)]; exact c2
   rw [zI (zJ c3 hnr)]; exact c3
  have nrF:lf≠nr:=zJ (by rw [zI l2f]; exact zD) hnr;have NA:Ys (upd (upd (upd H' lf (.lst ((iv fs).map V.int))) l2 (.lst [.ref lf])) nr (.lst (rs.map V.ref++[.ref lf]))) nr ns.length (ZQ ns ss fs):=by
   refine ⟨rs++[lf],by rw [qI,hrs]; rfl,by rw [zD,qS]; rfl,λe he=>?_⟩;rcases xY e ns.length with z | z
   ·obtain ⟨r,r1,r2,r3⟩:=hr' e z
    have c1:=zJ r3 hlf;have r4:(upd H' lf (.lst ((iv fs).map V.int))) r=_:=(zI c1).trans r3;have c2:=zJ r4 hl2;have r5:(upd (upd H' lf (.lst ((iv fs).map V.int))) l2 (.lst [.ref lf])) r=_:=(zI c2).trans r4;refine ⟨r,by rw [xT (by omega)]; exact r1,?_⟩;rw [zI (zJ r5 hnr),r5];unfold ZQ;rw [if_pos z]
   ·have ei:e=ns.length:=by omega
    subst ei;refine ⟨lf,by rw [xN (by omega),hrs,Nat.sub_self]; rfl,?_⟩;rw [zI nrF,zI l2f,zD];unfold ZQ;rw [if_neg (XA _)]
  generalize (upd (upd (upd H' lf (.lst ((iv fs).map V.int))) l2 (.lst [.ref lf])) nr (.lst (rs.map V.ref++[.ref lf])))=H5 at sH NA ⊢;have s5:=sH _ _ s1;refine ⟨_,rfl,s,C,dx,_,rfl,s5,T.cl,T.nN,(by show 1<1000; decide),?_⟩;obtain ⟨rs5,q1,q2,q3⟩:=NA;have nrs:nr≠s:=Zc q2 s5 (by intro z; cases z);have NA6:∀o,Ys (upd H5 s o) nr ns.length (ZQ ns ss fs):=λo=>⟨rs5,q1,by rw [zI nrs]; exact q2,λe he=>by
   obtain ⟨r,r1,r2⟩:=q3 e he;exact ⟨r,r1,by rw [zI (Zc r2 s5 (by intro z; cases z))]; exact r2⟩⟩
  refine ⟨_,rfl,s,C,dx,_,_,rfl,zD,T.cl,T.nA,rfl,_,_,rfl,rfl,⟨by omega,by omega,by decide⟩,_,_,rfl,rfl,_,rfl,s,C,dx,_,rfl,zD,T.cl,T.nW,(by show 2<1000; decide),?_⟩;have ew:(1*2^((ns.length:Int)).toNat - 1:Int)=((2^ns.length - 1:Nat):Int):=by
   rw [Int.one_mul,xE];have:=Nat.one_le_two_pow (n:=ns.length);rw [Int.natCast_sub this];simp
  refine q nr _ (λc o hc ho=>?_) ?_ (by rw [zMu]; exact NA6 _)
  ·rw [zI hc,zI hc]
   exact sH _ _ (ex1 c o hc ho)
  ·rw [zD]
   show some (HO.ins C dx [("ahead", .int ns.length),("near", .ref nr),("whole", .int (1*2^((ns.length:Int)).toNat - 1))])=_;rw [ew];rfl
theorem zNB:zP ["self","left","end"] ["self","left","end"] (zF Jz):=ZA
theorem zBv (F:zm K "steps" "Steps.steps" Jz f fd) (T:SrT K C):zH P w K mg base zT 1 f fd ["self","left","end"] (YR C):=by
 refine F.ok zNB (λvs H Q E h=>?_) (λcdv A outer s H vs Q E hr h=>?_)
 ·obtain ⟨s,dx,nr,fs,n,near,left,e,rfl,_⟩:=h
  rfl
 obtain ⟨s,dx,nr,fs,n,near,left,e,rfl,hs,hn,NA,N,he,hl,q⟩:=h;refine ⟨_,(@zG _ _ _ (zR (Za ["place"] rfl (ZY (zF Jz) ["self","left","end"] rfl rfl (by decide +kernel)) (ZM (zu ZE (ZB (pv 0) rfl) (pv 2) (λ_ _=>rfl))) (λpins C fp s3 H3=>⟨(zp (i:=0) (show (Zo ["place"] ["self","left","end"]).Nodup by decide +kernel) rfl (Or.inl rfl)),(Ye (zDM (zZ zOI (pv 2) (zZ ju zK (pv 0))))),(pv 0)⟩)))),?_⟩;obtain ⟨rs,q1,q2,q3⟩:=NA;obtain ⟨r,r1,r2⟩:=q3 e he;have n10:=N.n10;have hlen:=jk N he;have hml:((iv (near e)).map V.int).length=(near e).length:=by rw [qA,YE]
 refine ⟨_,rfl,s,C,dx,fs,_,rfl,hs,T.cl,T.nN,hn,_,rfl,nr,_,_,_,rfl,rfl,zQ.of q2,Z2 (by rw [qR,r1]; rfl),r,rfl,⟨_,zQ.of r2⟩,λD hD=>?_⟩;refine yM (σ:=[some (.ref s),some (.int left),some (.int e)]) (xs:=(iv (near e)).map V.int) (λi=>left.testBit ((near e).getD i 0)) (λi=> .int (((near e).getD i 0:Nat):Int)) (zQ.of r2) hD (by omega) (λi H' hi g P hP=>?_) (λi H' hi _ g P hP=>?_) λH2 g2 e2=>?_
 ·have hi':i<(near e).length:=by rw [hml] at hi; exact hi
  have ek:(near e)[i]?=some (near e)[i]:=qB hi';have e1:((iv (near e)).map V.int).getD i .non= .int (((near e)[i]:Nat):Int):=by rw [qC,yy ek]; rfl
  have e2:(near e).getD i 0=(near e)[i]:=by rw [qC,ek]; rfl
  have hk:=N.lt e he _ (QF hi');rw [e1];refine ⟨_,rfl,_,rfl,_,_,rfl,rfl,⟨by omega,by omega,by decide⟩,_,_,rfl,rfl,_,rfl,?_⟩;rw [zQY left _ hl (by omega),<-e2];exact hP _ zC.rfl'
 ·have hi':i<(near e).length:=by rw [hml] at hi; exact hi
  have ek:(near e)[i]?=some (near e)[i]:=qB hi';have e1:((iv (near e)).map V.int).getD i .non= .int (((near e).getD i 0:Nat):Int):=by rw [qC,yy ek,qC,ek]; rfl
  rw [e1];exact ⟨_,rfl,hP _ zC.rfl'⟩
 ·refine q D H2 g2 hD ?_
  rw [e2,hml,Yo,<-YA (λv=>left.testBit v) 0 (near e),qU];rfl
end
abbrev zLf:Stmt:=ZJ (top 38) 0
abbrev zGo:Stmt:=ZJ (top 38) 1
abbrev zHa:Stmt:=ZJ (top 38) 2
abbrev zKx:Stmt:=ZJ (top 38) 3
abbrev zHG:Stmt:=top 39
structure zBz (K:W.Frag) (C:Addr):Prop extends SrT K C where
 nL:ZL K C "last_places"
 nO:ZL K C "onward"
def JL:Option Nat->V
 | none=> .non
 | some k=> .int (k:Int)
def ky (l e:Nat):List ze:=[Sum.inl (l:Int),Sum.inl (e:Int)]
theorem zCU {l e l' e':Nat} (h:ky l e=ky l' e'):l=l'/\e=e':=by
 unfold ky at h;injection h with h1 h2
 injection h2 with h2 _
 have a:=Sum.inl.inj h1;have b:=Sum.inl.inj h2;omega
def zBM:List ze->Nat
 | [Sum.inl a,Sum.inl b]=>a.toNat*11+b.toNat
 | _=>0
section
variable (n:Nat) (near:Nat->List Nat) (ends:Nat->Bool)
structure zAJ (kvs:List (List ze×V)):Prop where
 nd:(kvs.map (·.1)).Nodup
 ok:∀kv∈kvs,∃l e,kv.1=ky l e/\l≠0/\l<2^n/\e≤n/\kv.2=JL (yj near ends l e)
 cl:∀l e k,(ZP kvs (ky l e)).isSome=true->yj near ends l e=some k->l - 2^k≠0->(ZP kvs (ky (l - 2^k) k)).isSome=true
variable {n near ends}
theorem zKE:zAJ n near ends []:=⟨XE,(λ_ h=>nomatch h),(λ_ _ _ h=>nomatch h)⟩
theorem zCv {kvs:List (List ze×V)} {k:List ze} {v:V} (h:ZP kvs k=some v):(k,v)∈kvs:=by
 unfold ZP at h;obtain ⟨p,hp,rfl⟩:=Option.map_eq_some_iff.mp h;have h1:p.1=k:=of_decide_eq_true (List.find?_some (p:=λkv:List ze×V=>decide (kv.1=k)) hp);have h2:=List.mem_of_find?_eq_some hp;rw [<-h1];exact h2
theorem zAJ.val {kvs:List (List ze×V)} (M:zAJ n near ends kvs) {l e:Nat} {v:V} (h:ZP kvs (ky l e)=some v):v=JL (yj near ends l e):=by
 obtain ⟨l',e',h1,_,_,_,h2⟩:=M.ok _ (zCv h);obtain ⟨rfl,rfl⟩:=zCU h1;exact h2
theorem zAJ.len {kvs:List (List ze×V)} (M:zAJ n near ends kvs) (hn:n≤10):kvs.length<sizeLine:=by
 have hp:2^n≤1024:=JT n (by omega);have hc:∀kv∈kvs,zBM kv.1<11264:=λkv h=>by
  obtain ⟨l,e,h1,_,h3,h4,_⟩:=M.ok kv h;rw [h1];show ((l:Int)).toNat*11+((e:Int)).toNat<11264;omega
 have hnd:(kvs.map λkv=>zBM kv.1).Nodup:=by
  have h:=M.nd;unfold List.Nodup at h ⊢;rw [List.pairwise_map] at h ⊢;refine h.imp_of_mem λ{x y} hx hy hne he=>hne ?_
  obtain ⟨l,e,h1,_,_,h4,_⟩:=M.ok x hx;obtain ⟨l',e',h1',_,_,h4',_⟩:=M.ok y hy;rw [h1,h1'] at he ⊢;have he':((l:Int)).toNat*11+((e:Int)).toNat=((l':Int)).toNat*11+((e':Int)).toNat:=he;have:l=l'/\e=e':=by omega
  rw [this.1,this.2]
 have h:=J1 11264 _ hnd λx hx=>by
  obtain ⟨kv,h1,rfl⟩:=qY.mp hx;exact hc kv h1
 rw [qA] at h;rw [sizeLine_eq];omega
theorem zAJ.put {kvs:List (List ze×V)} (M:zAJ n near ends kvs) {l e:Nat} (h0:l≠0) (hl:l<2^n) (he:e≤n) (hc:∀k,yj near ends l e=some k->l - 2^k≠0->(ZP kvs (ky (l - 2^k) k)).isSome=true):
  zAJ n near ends (Zj kvs (ky l e) (JL (yj near ends l e))):=by
 have hcl:∀l1 e1 k,(ZP (Zj kvs (ky l e) (JL (yj near ends l e))) (ky l1 e1)).isSome=true->yj near ends l1 e1=some k->l1 - 2^k≠0->(ZP (Zj kvs (ky l e) (JL (yj near ends l e))) (ky (l1 - 2^k) k)).isSome=true:=by
  intro l1 e1 k h1 h2 h3;have hs:(ZP kvs (ky (l1 - 2^k) k)).isSome=true:=by
   rw [Y7] at h1;by_cases z:ky l1 e1=ky l e
   ·obtain ⟨rfl,rfl⟩:=zCU z
    exact hc k h2 h3
   ·rw [if_neg z] at h1
    exact M.cl l1 e1 k h1 h2 h3
  rw [Y7]
  split
  ·rfl
  ·exact hs
 refine ⟨?_,?_,hcl⟩
 ·cases hv:ZP kvs (ky l e) with
  | none=>
   rw [zCA _ hv,qS];refine List.nodup_append.mpr ⟨M.nd,by simp,λa ha b hb hab=>?_⟩;have eb:b=ky l e:=by simpa using hb
   subst eb;subst hab;obtain ⟨kv,h1,h2⟩:=qY.mp ha;have h3:=yl (ky l e) kvs;rw [hv] at h3;have h4:(kvs.any λkv=>decide (kv.1=ky l e))=true:=XO.mpr ⟨kv,h1,decide_eq_true h2⟩;rw [h4] at h3;cases h3
  | some v=>
   unfold Zj;rw [yl,hv];rw [if_pos (show (some v).isSome=true from rfl),qU];have:(kvs.map ((λx:List ze×V=>x.1) ∘ λkv=>if kv.1=ky l e then (kv.1,JL (yj near ends l e)) else kv))=kvs.map (·.1):=by
    refine xI λkv _=>?_
    show (if kv.1=ky l e then (kv.1,JL (yj near ends l e)) else kv).1=kv.1
    split <;> rfl
   rw [this];exact M.nd
 ·intro kv h
  unfold Zj at h
  split at h
  ·obtain ⟨kv',h1,h2⟩:=qY.mp h
   by_cases z:kv'.1=ky l e
   ·rw [if_pos z] at h2
    rw [<-h2];exact ⟨l,e,z,h0,hl,he,rfl⟩
   ·rw [if_neg z] at h2
    rw [<-h2];exact M.ok kv' h1
  ·rcases qO.mp h with z | z
   ·exact M.ok kv z
   ·have z:kv=(ky l e,JL (yj near ends l e)):=by simpa using z
    rw [z];exact ⟨l,e,rfl,h0,hl,he,rfl⟩
end
def Y8 (kvs kvs':List (List ze×V)):Prop:=∀k,(ZP kvs k).isSome=true->(ZP kvs' k).isSome=true
theorem Y8.refl {kvs:List (List ze×V)}:Y8 kvs kvs:=λ_ h=>h
theorem Y8.trans {a b c:List (List ze×V)} (h:Y8 a b) (g:Y8 b c):Y8 a c:=λk z=>g k (h k z)
theorem Y8.put {kvs:List (List ze×V)} {k:List ze} {v:V}:Y8 kvs (Zj kvs k v):=λj h=>by
 rw [Y7]
 split
 ·rfl
 ·exact h
structure SP where
 n:Nat
 near:Nat->List Nat
 ends:Nat->Bool
 lasts:List Nat
 s:Addr
 dx:Addr
 nr:Addr
 lp:Addr
 ow:Addr
def SP.fs (p:SP):List (Str×V):=[("ahead", .int p.n),("near", .ref p.nr),("whole", .int ((2^p.n - 1:Nat):Int)),("last_places", .ref p.lp),("onward", .ref p.ow)]
structure JX (C:Addr) (p:SP) (H:Hp):Prop where
 at_:H p.s=some (.ins C p.dx p.fs)
 nr:Ys H p.nr p.n p.near
 lp:H p.lp=some (.lst ((iv p.lasts).map V.int))
 ok:Zt p.near p.n
 le:∀e<p.n,p.lasts.contains e=p.ends e
def Jn (p:SP) (H:Hp) (kvs:List (List ze×V)):Prop:=H p.ow=some (.dT kvs)/\zAJ p.n p.near p.ends kvs
theorem JX.ex {C:Addr} {p:SP} {H H':Hp} {kvs:List (List ze×V)} (S:JX C p H) (hk:H p.ow=some (.dT kvs)) (g:Ex (·=p.ow) H H'):JX C p H':=by
 have ne:∀{b o},H b=some o->(∀kvs,o≠ .dT kvs)->H' b=some o:=λ{b o} h d=>g b o (λz=>d kvs (by rw [z,hk] at h; exact (Option.some.inj h).symm)) h
 obtain ⟨rs,q1,q2,q3⟩:=S.nr;exact ⟨ne S.at_ (λ_ z=>by cases z),⟨rs,q1,ne q2 (λ_ z=>by cases z),λe he=>let ⟨r,a,b⟩:=q3 e he; ⟨r,a,ne b (λ_ z=>by cases z)⟩⟩,ne S.lp (λ_ z=>by cases z),S.ok,S.le⟩
theorem JX.lt {C:Addr} {p:SP} {H:Hp} (S:JX C p H) {left:Nat} (h:left<2^p.n):left<1024:=qP h (JT _ (Nat.lt_succ_of_le S.ok.n10))
def zES (C:Addr) (m:Nat):Sp:=λvs H Q _=>∃(p:SP) (kvs:List (List ze×V)) (left e:Nat),vs=[.ref p.s, .int left, .int e]/\JX C p H/\Jn p H kvs/\left<2^p.n/\yE left≤m/\e≤p.n/\(left=0->e<p.n)/\
 ∀(H':Hp) (kvs':List (List ze×V)),Ex (·=p.ow) H H'->Jn p H' kvs'->Y8 kvs kvs'->(left≠0->(ZP kvs' (ky left e)).isSome=true)->Q (.bl (jT p.near p.ends left e)) H'
def zLx (C:Addr) (m:Nat):Sp:=λvs H Q _=>∃(p:SP) (kvs:List (List ze×V)) (left e:Nat),vs=[.ref p.s, .int left, .int e]/\JX C p H/\Jn p H kvs/\left<2^p.n/\left≠0/\yE left≤m/\e≤p.n/\
 ∀(H':Hp) (kvs':List (List ze×V)),Ex (·=p.ow) H H'->Jn p H' kvs'->Y8 kvs kvs'->(∀k,yj p.near p.ends left e=some k->left - 2^k≠0->(ZP kvs' (ky (left - 2^k) k)).isSome=true)->Q (JL (yj p.near p.ends left e)) H'
theorem zCJ {p q:Nat->Bool}:∀l:List Nat,l.find? (λk=>p k&&q k)=(l.filter p).find? q
 | []=>rfl
 | a::r=>by
  have ih:=zCJ (p:=p) (q:=q) r;cases hp:p a with
  | false=>rw [QN,QU,hp,QH,ih,if_neg qN]
  | true=>
   rw [QN,QU,hp,QL,if_pos rfl,QN];cases q a with
   | false=>exact ih
   | true=>rfl
theorem zGW {q:Nat->Bool}:∀{l:List Nat} {i k:Nat},l[i]?=some k->q k=true->(∀j<i,∀x,l[j]?=some x->q x=false)->l.find? q=some k
 | [],_,_,h,_,_=>nomatch h
 | a::r,0,k,h,hq,_=>by
  have e:a=k:=Option.some.inj h;rw [QN,e,hq]
 | a::r,i+1,k,h,hq,hj=>by
  rw [QN,hj 0 (Nat.succ_pos _) a rfl];exact zGW (l:=r) (i:=i) h hq λj hj' x hx=>hj (j+1) (Nat.succ_lt_succ hj') x hx
section
variable {f g1 g2 g3 C C0:Addr} {mc:Value} {fd gd1 gd2 gd3:FuncData}
theorem zMB:zP ["self","left","end","key"] ["self","left","end"] (zF zGo):=ZA
theorem zIM {j m:Nat} (F:zm K "can_end" "Search.can_end" zGo f fd) (T:zBz K C) (mF:ZH K C "first_step" g1)
  (GF:zH P w K mg base zT j g1 gd1 ["self","left","end"] (zLx C m)) (bF:zL K gd1 ["self","left","end"] []):zH P w K mg base zT (j+1) f fd ["self","left","end"] (zES C m):=by
 refine F.ok zMB (λvs H Q E h=>?_) (λcdv A outer s H vs Q E hr h=>?_)
 ·obtain ⟨p,kvs,left,e,rfl,_⟩:=h
  rfl
 obtain ⟨p,kvs,left,e,rfl,S,hd,hl,hc,he,h0,q⟩:=h;have hu:=zAZ hr;refine ⟨_,(@zE _ _ _ _ _ (zy (zh ye (pv 1) zK (zk _)) (@zG _ _ _ (zR (Z4 (J3 K) (pv 2) (ZB (pv 0) rfl) rfl))) zf) (@zE _ _ _ _ _ (za (i:=3) zMB.nd rfl (Or.inl rfl) (yc (zA (pv 1) (zA (pv 2) zB)))) (@zE _ _ _ _ _ (zy (jt (Jh hu (pv 3) (ZB (pv 0) rfl))) (@zG _ _ _ (zBQ hu (ZB (pv 0) rfl) (pv 3) (z0 (pv 0) T.cl mF GF hr bF .nil zO (zA (pv 1) (zA (pv 2) zB))) rfl)) zf) (@zG _ _ _ (zR (Z4 zND (jd hu (ZB (pv 0) rfl) (pv 3) (λ_ _=>rfl)) jH (zk _))))))),?_⟩;refine ⟨_,rfl,rfl,_,rfl,zq (λc=>?_) (λc=>?_)⟩
 ·have el:left=0:=by
   have z:=V.int.inj (of_decide_eq_true c);omega
  subst el;refine ⟨_,rfl,_,rfl,p.s,C,p.dx,p.fs,_,rfl,S.at_,T.cl,T.nL,rfl,p.lp,_,_,rfl,rfl,zQ.of S.lp,?_⟩;have z:=q H kvs Ex.refl hd Y8.refl (λz=>absurd rfl z);rw [zKq,<-S.le e (h0 rfl),<-zBY] at z;exact z
 ·have el:left≠0:=λz=>c (decide_eq_true (by rw [z]; rfl))
  refine ⟨_,rfl,_,rfl,Z9,λkt hkt=>?_⟩;have g1:zC H (upd H kt (.tup [.int (left:Int), .int (e:Int)])):=zC.new hkt _;have S1:JX C p (upd H kt (.tup [.int (left:Int), .int (e:Int)])):=S.ex hd.1 (Ex.same g1);have hd1:Jn p (upd H kt (.tup [.int (left:Int), .int (e:Int)])) kvs:=⟨g1 _ _ hd.1,hd.2⟩;have hk1:(upd H kt (.tup [.int (left:Int), .int (e:Int)])) kt=some (.tup ((ky left e).map kV)):=zD;have ex1:Ex (·=p.ow) H (upd H kt (.tup [.int (left:Int), .int (e:Int)])):=Ex.same g1;generalize upd H kt (.tup [.int (left:Int), .int (e:Int)])=H1 at S1 hd1 hk1 ex1 ⊢;refine ⟨_,rfl,_,rfl,p.s,C,p.dx,p.fs,_,rfl,S1.at_,T.cl,T.nO,rfl,p.ow,_,rfl,YY.t hd1.1 hk1,_,rfl,zq (λc2=>?_) (λc2=>?_)⟩
  ·refine ⟨_,rfl,p.s,p.dx,p.fs,rfl,S1.at_,rfl,_,rfl,_,rfl,p,kvs,left,e,rfl,S1,hd1,hl,el,hc,he,λH2 kvs2 ex2 hd2 gr2 cl2=>?_⟩
   have S2:=S1.ex hd1.1 ex2;have hk2:H2 kt=some (.tup ((ky left e).map kV)):=ex2 _ _ (Zc hk1 hd1.1 (by intro z; cases z)) hk1;refine ⟨_,rfl,p.s,C,p.dx,p.fs,_,rfl,S2.at_,T.cl,T.nO,rfl,_,rfl,p.ow,_,rfl,zBk.t hd2.1 hk2 (hd2.2.len S.ok.n10),?_⟩;have M3:=hd2.2.put el hl he cl2;have ex3:Ex (·=p.ow) H2 (upd H2 p.ow (.dT (Zj kvs2 (ky left e) (JL (yj p.near p.ends left e))))):=Ex.put _ rfl;have S3:=S2.ex hd2.1 ex3;have hk3:=ex3 _ _ (Zc hk2 hd2.1 (by intro z; cases z)) hk2;refine ⟨_,rfl,p.s,C,p.dx,p.fs,_,rfl,S3.at_,T.cl,T.nO,rfl,_,rfl,p.ow,_,rfl,by have z:=YY.t (zD (H:=H2) (a:=p.ow) (o:= .dT (Zj kvs2 (ky left e) (JL (yj p.near p.ends left e))))) hk3; rw [Y7,if_pos rfl] at z; exact z,rfl,?_⟩;have z:=q _ _ ((ex1.trans ex2).trans ex3) ⟨zD,M3⟩ (gr2.trans Y8.put) (λ_=>by rw [Y7,if_pos rfl]; rfl);rw [zDS S.ok (S.lt hl) el he] at z;cases ef:yj p.near p.ends left e with
   | none=>rw [ef] at z; exact z
   | some k=>rw [ef] at z; exact z
  ·cases ev:ZP kvs (ky left e) with
   | none=>rw [ev] at c2; exact absurd rfl c2
   | some v=>
    have hv:=hd.2.val ev;refine ⟨_,rfl,p.s,C,p.dx,p.fs,_,rfl,S1.at_,T.cl,T.nO,rfl,_,rfl,p.ow,_,rfl,by have z:=YY.t hd1.1 hk1; rw [ev] at z; exact z,rfl,?_⟩;have z:=q _ _ ex1 hd1 Y8.refl (λ_=>by rw [ev]; rfl);rw [zDS S.ok (S.lt hl) el he] at z;rw [hv];cases ef:yj p.near p.ends left e with
    | none=>rw [ef] at z; exact z
    | some k=>rw [ef] at z; exact z
theorem zMQ:zP ["self","left","end","place"] ["self","left","end"] (zF zHa):=ZA
theorem zOL {j m:Nat} (F:zm K "first_step" "Search.first_step" zHa f fd) (T:zBz K C) (mS:ZH K C "steps" g1) (mC:ZH K C "can_end" g2)
  (GS:zH P w K mg base zT j g1 gd1 ["self","left","end"] (YR C)) (bS:zL K gd1 ["self","left","end"] [])
  (GC:zH P w K mg base zT j g2 gd2 ["self","left","end"] (zES C m)) (bC:zL K gd2 ["self","left","end"] []):zH P w K mg base zT (j+1) f fd ["self","left","end"] (zLx C (m+1)):=by
 refine F.ok zMQ (λvs H Q E h=>?_) (λcdv A outer s H vs Q E hr h=>?_)
 ·obtain ⟨p,kvs,left,e,rfl,_⟩:=h
  rfl
 obtain ⟨p,kvs,left,e,rfl,S,hd,hl,h0,hc,he,q⟩:=h;refine ⟨_,(@zE _ _ _ _ _ (jO PassesOwn.never rfl (ZM (z0 (pv 0) T.cl mS GS hr bS .nil zO (zA (pv 1) (zA (pv 2) zB)))) (zp (i:=3) zMQ.nd rfl (Or.inl rfl)) (@zG _ _ _ (zy (Zf (z0 (pv 0) T.cl mC GC hr bC .nil zO (zA (zZ Yz (pv 1) (zZ ju zK (pv 3))) (zA (pv 3) zB)))) (@zG _ _ _ (zR (pv 3))) zf))) (@zG _ _ _ (zR jH))),?_⟩;have hl':=S.lt hl;have n10:=S.ok.n10;refine ⟨_,rfl,p.s,p.dx,p.fs,rfl,S.at_,rfl,_,rfl,_,rfl,p.s,p.dx,p.nr,p.fs,p.n,p.near,left,e,rfl,S.at_,rfl,S.nr,S.ok,he,hl',λl H1 g1 hln e1=>⟨l,rfl,⟨_,zQ.of e1⟩,?_⟩⟩;have hd1:Jn p H1 kvs:=⟨g1 _ _ hd.1,hd.2⟩;have lo:l≠p.ow:=λz=>by rw [z,hd.1] at hln; cases hln
 have elen:((iv ((p.near e).filter λk=>left.testBit k)).map V.int).length=((p.near e).filter λk=>left.testBit k).length:=by rw [qA,YE]
 refine zAQ (xs:=(iv ((p.near e).filter λk=>left.testBit k)).map V.int) (λi σ H'=>∃(y:Option V) (kvs':List (List ze×V)),σ=[some (.ref p.s),some (.int left),some (.int e),y]/\Ex (·=p.ow) H H'/\H' l=some (.lst ((iv ((p.near e).filter λk=>left.testBit k)).map V.int))/\Jn p H' kvs'/\Y8 kvs kvs'/\
  ∀i'<i,∀k,((p.near e).filter λk=>left.testBit k)[i']?=some k->jT p.near p.ends (left - 2^k) k=false)
  ⟨none,kvs,rfl,Ex.same g1,e1,hd1,Y8.refl,λi' hi'=>absurd hi' (XG _)⟩ (λi σ H' _ ⟨_,_,_,_,e2,_⟩=>zQ.of e2) ?_ ?_
 ·rintro i x σ H' hx ⟨y,kvs',rfl,ex,e2,hk',gr,hno⟩
  obtain ⟨k,hk,rfl⟩:=zOK hx;have hm:k∈(p.near e).filter λk=>left.testBit k:=xA hk
  obtain ⟨hm1,hb⟩:=QD.mp hm;have hkn:=S.ok.lt e he k hm1;have S':=S.ex hd.1 ex;have hdec:=yQ left hl' k (by omega) hb;refine ⟨_,rfl,p.s,p.dx,p.fs,rfl,S'.at_,rfl,_,rfl,_,rfl,_,_,rfl,rfl,⟨by omega,by omega,by decide⟩,_,_,rfl,rfl,_,rfl,?_⟩;refine ⟨p,kvs',left - 2^k,k,congrArg (λx=>[V.ref p.s,V.int x,V.int (k:Int)]) (j7 left k (jL hb)),S',hk',by omega,by omega,by omega,λ_=>hkn,λH2 kvs2 ex2 hd2 gr2 pr2=>⟨_,rfl,zq (λc=>?_) (λc=>?_)⟩⟩
  ·refine ⟨_,rfl,?_⟩
   have ef:yj p.near p.ends left e=some k:=by
    unfold yj;rw [zCJ];exact zGW hk c λi' hi' k' hk'=>hno i' hi' k' hk'
   have z:=q H2 kvs2 (ex.trans ex2) hd2 (gr.trans gr2) (λk' hk' hne=>by rw [ef] at hk'; cases hk'; exact pr2 hne);rw [ef] at z;exact z
  ·refine ⟨_,kvs2,rfl,ex.trans ex2,ex2 _ _ lo e2,hd2,gr.trans gr2,λi' hi' k' hk'=>?_⟩
   rcases xY i' i with z | z
   ·exact hno i' z k' hk'
   ·have ei:i'=i:=by omega
    subst ei;rw [hk] at hk';cases hk';exact QR.mpr c
 ·rintro σ H' ⟨y,kvs',rfl,ex,e2,hk',gr,hno⟩
  have ef:yj p.near p.ends left e=none:=by
   unfold yj;rw [zCJ];refine xW.mpr λk hk hc'=>?_
   obtain ⟨i',hi',e'⟩:=List.mem_iff_getElem.mp hk;have z:=hno i' (by rw [elen]; exact hi') k (by rw [qB hi',e']);rw [z] at hc';cases hc'
  have z:=q H' kvs' ex hk' gr (λk' hk'=>by rw [ef] at hk'; cases hk');rw [ef] at z;exact z
theorem zGb {ca fs sf:Addr} {cd fsd sfd:FuncData} (FC:zm K "can_end" "Search.can_end" zGo ca cd) (FF:zm K "first_step" "Search.first_step" zHa fs fsd) (T:zBz K C) (mC:ZH K C "can_end" ca) (mF:ZH K C "first_step" fs) (mS:ZH K C "steps" sf)
  (GS:zH P w K mg base zT 1 sf sfd ["self","left","end"] (YR C)) (bS:zL K sfd ["self","left","end"] []) (bC:zL K cd ["self","left","end"] []) (bF:zL K fsd ["self","left","end"] []):
  ∀m:Nat,zH P w K mg base zT (2*m+2) ca cd ["self","left","end"] (zES C m)
 | 0=>zIM (j:=1) FC T mF ⟨λvs H Q E h=>by obtain ⟨p,kvs,left,e,rfl,_⟩:=h; rfl,λA outer s H args us vs Q E _ _ _ _ h=>by
   obtain ⟨p,kvs,left,e,_,S,_,hl,h0,hc,_⟩:=h;exact absurd (zAN left (S.lt hl) (Nat.le_zero.mp hc)) h0⟩ bF
 | m+1=>by
  have GC:=zGb FC FF T mC mF mS GS bS bC bF m;have GF:=zOL (j:=2*m+2) FF T mS mC (GS.mono (by omega)) bS GC bC;exact zIM (j:=2*m+3) FC T mF GF bF
def zMf (C:Addr):Sp:=λvs H Q _=>∃(p:SP) (kvs:List (List ze×V)),vs=[.ref p.s]/\JX C p H/\Jn p H kvs/\1≤p.n/\jT p.near p.ends (2^p.n - 1) p.n=true/\(ZP kvs (ky (2^p.n - 1) p.n)).isSome=true/\
 ∀(l:Addr) (H':Hp),zC H H'->H l=none->H' l=some (.lst ((iv (Js p.near p.ends (2^p.n - 1) p.n)).map V.int))->Q (.ref l) H'
theorem zBS:zP ["self","places","left","end"] ["self"] (zF zKx):=ZA
theorem zPW (F:zm K "found_places" "Search.found_places" zKx f fd) (T:zBz K C):zH P w K mg base zT 1 f fd ["self"] (zMf C):=by
 refine F.ok zBS (λvs H Q E h=>?_) (λcdv A outer s H vs Q E hr h=>?_)
 ·obtain ⟨p,kvs,rfl,_⟩:=h
  rfl
 obtain ⟨p,kvs,rfl,S,hd,n1,hcan,hkey,q⟩:=h;have hu:=zAZ hr;refine ⟨_,(@zE _ _ _ _ _ (za (i:=1) zBS.nd rfl (Or.inl rfl) (ZG zB)) (@zE _ _ _ _ _ (za (i:=2) zBS.nd rfl (Or.inl rfl) (ZB (pv 0) rfl)) (@zE _ _ _ _ _ (za (i:=3) zBS.nd rfl (Or.inl rfl) (ZB (pv 0) rfl)) (@zE _ _ _ _ _ (JQ PassesOwn.never (zDM (pv 2)) (@zE _ _ _ _ _ (za (i:=3) zBS.nd rfl (Or.inl rfl) (jd hu (ZB (pv 0) rfl) (yc (zA (pv 2) (zA (pv 3) zB))) (λ_ _=>rfl))) (@zE _ _ _ _ _ (ZI (yB QK QW QX yk (pv 1) (zA (pv 3) zB))) (@zG _ _ _ (za (i:=2) zBS.nd rfl (Or.inl rfl) (zZ Yz (pv 2) (zZ ju zK (pv 3)))))))) (@zG _ _ _ (zR (pv 1))))))),?_⟩;refine ⟨by decide,λl hln=>?_⟩;have g1:zC H (upd H l (.lst [])):=zC.new hln _;have lo:l≠p.ow:=λz=>by rw [z,hd.1] at hln; cases hln
 refine ⟨_,rfl,p.s,C,p.dx,p.fs,_,rfl,g1 _ _ S.at_,T.cl,T.nW,rfl,_,rfl,p.s,C,p.dx,p.fs,_,rfl,g1 _ _ S.at_,T.cl,T.nA,rfl,?_⟩;have hp2:2^p.n - 1<2^p.n:=Nat.sub_lt (Nat.two_pow_pos _) (by decide);dsimp only [Zi,jK];refine jx (λσ H'=>∃(pre:List Nat) (left e:Nat),σ=[some (.ref p.s),some (.ref l),some (.int left),some (.int e)]/\zC H H'/\H' l=some (.lst ((iv pre).map V.int))/\left<2^p.n/\e≤p.n/\pre.length+yE left≤10/\
   (left≠0->jT p.near p.ends left e=true/\(ZP kvs (ky left e)).isSome=true)/\pre++Js p.near p.ends left e=Js p.near p.ends (2^p.n - 1) p.n)
  (λσ _=>zBC 2 σ) ⟨[],2^p.n - 1,p.n,rfl,g1,zD,hp2,qE _,by have:=YQ _ (S.lt hp2); simpa using this,λ_=>⟨hcan,hkey⟩,rfl⟩ ?_
 rintro σ H' ⟨pre,left,e,rfl,g,hl,hlt,he,hlen,hgo,hpath⟩;have hl':=S.lt hlt;refine ⟨_,rfl,_,rfl,zq (λc=>?_) (λc=>?_)⟩
 ·have h0:left≠0:=λz=>by subst z; exact absurd c (by decide)
  obtain ⟨hc,hk⟩:=hgo h0;have S':JX C p H':=S.ex hd.1 (Ex.same g);cases ef:yj p.near p.ends left e with
  | none=>
   rw [zDS S.ok hl' h0 he,ef] at hc;cases hc
  | some k=>
   obtain ⟨hkn,hb,hc2⟩:=zCH S.ok he ef;have n10:=S.ok.n10;have hdec:=yQ left hl' k (by omega) hb;obtain ⟨v,hv⟩:=Option.isSome_iff_exists.mp hk;have hv2:=hd.2.val hv;rw [ef] at hv2;subst hv2;refine J7 (H:=H') (μ:=λσ _=>zBC 2 σ) ?_;refine ⟨_,rfl,p.s,C,p.dx,p.fs,_,rfl,S'.at_,T.cl,T.nO,rfl,_,rfl,_,rfl,Z9,λkt hkt=>?_⟩;have g2:zC H' (upd H' kt (.tup [.int (left:Int), .int (e:Int)])):=zC.new hkt _;have hk1:(upd H' kt (.tup [.int (left:Int), .int (e:Int)])) kt=some (.tup ((ky left e).map kV)):=zD;generalize upd H' kt (.tup [.int (left:Int), .int (e:Int)])=H2 at g2 hk1 ⊢;have hl2:=g2 _ _ hl;refine ⟨p.ow,_,rfl,by have z:=YY.t (g2 _ _ (g _ _ hd.1)) hk1; rw [hv] at z; exact z,?_⟩;refine ⟨_,rfl, .inl ⟨rfl,_,zQ.of hl2⟩,_,rfl,l,_,_,rfl,rfl,hl2,ZW (by rw [qA,YE]; omega),?_⟩;refine ⟨_,rfl,_,rfl,_,_,rfl,rfl,⟨by show (0:Int)≤(k:Int); omega,by show (k:Int)≤1000000; omega,by decide⟩,_,_,rfl,rfl,?_⟩;refine ⟨⟨pre++[k],left - 2^k,k,?_,λb o hb'=>?_,?_,by omega,by omega,?_,λhne=>⟨hc2,hd.2.cl left e k hk ef hne⟩,?_⟩,?_⟩
   ·rw [<-j7 left k (jL hb)]
    rfl
   ·rw [zI (zJ hb' hln)]
    exact g2 _ _ (g _ _ hb')
   ·rw [zD,Yo,Yo,qS]
    rfl
   ·rw [qI]
    show pre.length+1+yE (left - 2^k)≤10;omega
   ·rw [<-hpath,zJX S.ok hl' he ef,xS]
    rfl
   ·show ((left:Int) - 1*2^((k:Int)).toNat).toNat<((left:Int)).toNat
    rw [j7 left k (jL hb)];omega
 ·have h0:left=0:=by
   rcases Nat.eq_zero_or_pos left with z | z
   ·exact z
   ·exact absurd (show (((left:Nat):Int) !=0)=true from bne_iff_ne.mpr (by omega)) c
  subst h0;rw [zIs,xB] at hpath;subst hpath;exact ⟨_,rfl,q l H' g hln hl⟩
end
def zMI (C:Addr):Sp:=λvs H Q _=>∃(s t a b fp lp dx:Addr) (ns ss:List Int) (fs ls:List Nat),vs=[.ref s, .ref t, .ref fp, .ref lp]/\H s=some (.ins C dx [])/\Zm H t a b ns ss/\H fp=some (.lst ((iv fs).map V.int))/\H lp=some (.lst ((iv ls).map V.int))/\
 ∀(nr lq ow:Addr) (H':Hp),Ex (·=s) H H'->H ow=none->H' s=some (.ins C dx [("ahead", .int ns.length),("near", .ref nr),("whole", .int ((2^ns.length - 1:Nat):Int)),("last_places", .ref lq),("onward", .ref ow)])->
  Ys H' nr ns.length (ZQ ns ss fs)->H' lq=some (.lst ((iv ls).map V.int))->H' ow=some (.dT [])->Q .non H'
def zFn:Sp:=λvs H Q _=>∃(t a b fp lp:Addr) (ns ss:List Int) (fs ls:List Nat) (ends:Nat->Bool),vs=[.ref t, .ref fp, .ref lp]/\Zm H t a b ns ss/\H fp=some (.lst ((iv fs).map V.int))/\H lp=some (.lst ((iv ls).map V.int))/\
 (∀k∈fs,k<ns.length)/\fs.Pairwise (·<·)/\(∀e<ns.length,ls.contains e=ends e)/\
 (jT (ZQ ns ss fs) ends (2^ns.length - 1) ns.length=false->∀H',zC H H'->Q .non H')/\
 (jT (ZQ ns ss fs) ends (2^ns.length - 1) ns.length=true->∀(l:Addr) (H':Hp),zC H H'->H l=none->H' l=some (.lst (((Js (ZQ ns ss fs) ends (2^ns.length - 1) ns.length).map λk=>ns.getD k 0).map V.int))->Q (.ref l) H')
section
variable {f g1 g2 g3 g4 C C0:Addr} {mc:Value} {fd gd1 gd2 gd3 gd4:FuncData}
theorem zQn:zP ["self","plan","first_places","last_places"] ["self","plan","first_places","last_places"] (zF zLf):=ZA
theorem zOm (F:zm K "__init__" "Search.__init__" zLf f fd) (B:Bt3 mg) (T:zBz K C) (BI:zHe K C0 mc "__init__" g1) (mI:mg "Steps"=some (.ref C0))
  (GI:zH P w K mg base zT 3 g1 gd1 ["self","plan","first_places"] (zCi C)) (bI:zL K gd1 ["self","plan","first_places"] []):zH P w K mg base zT 4 f fd ["self","plan","first_places","last_places"] (zMI C):=by
 refine F.ok zQn (λvs H Q E h=>?_) (λcdv A outer s H vs Q E hr h=>?_)
 ·obtain ⟨s,t,a,b,fp,lp,dx,ns,ss,fs,ls,rfl,_⟩:=h
  rfl
 obtain ⟨s,t,a,b,fp,lp,dx,ns,ss,fs,ls,rfl,hs,pl,hfp,hlp,q⟩:=h;refine ⟨_,(@zE _ _ _ _ _ (ZI (zCw BI GI hr rfl mI bI .nil zO (zA (pv 0) (zA (pv 1) (zA (pv 2) zB))))) (@zE _ _ _ _ _ (YW (pv 0) (Zu ym rfl B.list xH (zA (pv 3) zB)) rfl) (@zG _ _ _ (YW (pv 0) zCI rfl)))),?_⟩;refine ⟨_,rfl,_,rfl,_,rfl,s,t,a,b,fp,dx,ns,ss,fs,rfl,hs,pl,hfp,λnr H1 ex1 s1 na1=>?_⟩;have lps:lp≠s:=Zc hlp hs (by intro z; cases z);have lp1:=ex1 _ _ lps hlp;refine ⟨_,rfl,lp,_,rfl, .inl (zQ.of lp1),λlq hlq=>?_⟩;have g2:zC H1 (upd H1 lq (.lst ((iv ls).map V.int))):=zC.new hlq _;refine ⟨_,rfl,s,C,dx,_,rfl,g2 _ _ s1,T.cl,T.nL,(by show 3<1000; decide),?_⟩;refine λow how=>?_
 have sq:s≠lq:=zJ s1 hlq;have ow_s:ow≠s:=λz=>by rw [z,zD] at how; cases how
 have ow_q:ow≠lq:=λz=>by rw [z,zI sq.symm,zD] at how; cases how
 have how1:H1 ow=none:=by rwa [zI ow_s,zI ow_q] at how
 refine ⟨_,rfl,s,C,dx,_,rfl,by rw [zI (Ne.symm ow_s)]; exact zD,T.cl,T.nO,(by show 4<1000; decide),?_⟩;obtain ⟨rs,q1,q2,q3⟩:=na1;have st:∀{c:Addr} {o:HO},c≠s->H1 c=some o->∀{o1 o2},(upd (upd (upd (upd H1 lq (.lst ((iv ls).map V.int))) s o1) ow (.dT [])) s o2) c=some o:=λ{c o} hc h {o1 o2}=>by
  rw [zI hc,zI (zJ h how1),zI hc,zI (zJ h hlq)];exact h
 refine q nr lq ow _ (λc o hc ho=>st hc (ex1 c o hc ho)) ?_ ?_ ⟨rs,q1,st (Zc q2 s1 (by intro z; cases z)) q2,λe he=>let ⟨r,r1,r2⟩:=q3 e he; ⟨r,r1,st (Zc r2 s1 (by intro z; cases z)) r2⟩⟩ ?_ ?_
 ·cases e:H ow with
  | none=>rfl
  | some o=>rw [ex1 _ _ ow_s e] at how1; cases how1
 ·rw [zD]
  rfl
 ·rw [zI (Ne.symm sq),zI (Ne.symm ow_q),zI (Ne.symm sq),zD]
 ·rw [zI ow_s,zD]
theorem zJB:zP ["plan","first_places","last_places","search"] ["plan","first_places","last_places"] (zF zHG):=ZA
theorem zMo (F:zm K "first_from" "first_from" zHG f fd) (T:zBz K C) (MS:Mk K C g1) (mS:mg "Search"=some (.ref C)) (mC:ZH K C "can_end" g2) (mF:ZH K C "found_places" g3)
  (GI:zH P w K mg base zT 21 g1 gd1 ["self","plan","first_places","last_places"] (zMI C)) (bI:zL K gd1 ["self","plan","first_places","last_places"] [])
  (GC:zH P w K mg base zT 22 g2 gd2 ["self","left","end"] (zES C 10)) (bC:zL K gd2 ["self","left","end"] [])
  (GF:zH P w K mg base zT 22 g3 gd3 ["self"] (zMf C)) (bF:zL K gd3 ["self"] [])
  (GN:zH P w K mg base zT 22 g4 gd4 ["plan","places"] zCg) (bN:zL K gd4 ["plan","places"] []) (kN:ZC K g4) (mN:mg "numbers_at"=some (.ref g4)):zH P w K mg base zT 23 f fd ["plan","first_places","last_places"] zFn:=by
 refine F.ok zJB (λvs H Q E h=>?_) (λcdv A outer s H vs Q E hr h=>?_)
 ·obtain ⟨t,a,b,fp,lp,ns,ss,fs,ls,ends,rfl,_⟩:=h
  rfl
 obtain ⟨t,a,b,fp,lp,ns,ss,fs,ls,ends,rfl,pl,hfp,hlp,h1,h2,h3,qn,qs⟩:=h;refine ⟨_,(@zE _ _ _ _ _ (za (i:=3) zJB.nd rfl (Or.inl rfl) (Jy MS GI hr rfl mS bI .nil zO (zA (pv 0) (zA (pv 1) (zA (pv 2) zB))))) (@zE _ _ _ _ _ (zy (Zn (Zf (z0 (pv 3) T.cl mC GC hr bC .nil zO (zA (ZB (pv 3) rfl) (zA (ZB (pv 3) rfl) zB))))) (@zG _ _ _ (zR jH)) zf) (@zG _ _ _ (zR (zU GN hr rfl mN kN bN .nil zO (zA (pv 0) (zA (YJ (pv 3) T.cl mF GF hr bF .nil zO) zB))))))),?_⟩;refine ⟨_,rfl,_,rfl,_,rfl,λx dx nx ndx nex=>?_⟩;have g2:zC H (upd (upd H dx (.own x)) x (.ins C dx [])):=λc o hc=>by
  rw [zI (zJ hc nx),zI (zJ hc ndx)]; exact hc
 refine ⟨x,t,a,b,fp,lp,dx,ns,ss,fs,ls,rfl,zD,pl.same g2,g2 _ _ hfp,g2 _ _ hlp,λnr lq ow H3 ex3 how s3 na3 lq3 ow3=>⟨rfl,?_⟩⟩;have how':H ow=none:=zt g2 how;have g3:zC H H3:=λc o hc=>ex3 c o (zJ hc nx) (g2 _ _ hc)
 have n1:=pl.ok.n1;have n2:=pl.ok.n2;have p2:2≤2^ns.length:=XH (n:=2) (by decide) n1;have hw:2^ns.length - 1<2^ns.length:=by omega
 have S3:JX C ⟨ns.length,ZQ ns ss fs,ends,ls,x,dx,nr,lq,ow⟩ H3:=⟨s3,na3,lq3,zAB pl.ok h1 h2,h3⟩;refine ⟨_,rfl,x,dx,_,rfl,s3,rfl,_,rfl,x,C,dx,_,_,rfl,s3,T.cl,T.nW,rfl,_,rfl,x,C,dx,_,_,rfl,s3,T.cl,T.nA,rfl,?_⟩;refine ⟨⟨ns.length,ZQ ns ss fs,ends,ls,x,dx,nr,lq,ow⟩,[],2^ns.length - 1,ns.length,rfl,S3,⟨ow3,zKE⟩,hw,YQ _ (S3.lt hw),qE _,λz=>by omega,λH4 kvs4 ex4 hd4 gr4 pr4=>⟨_,rfl,zq (λc=>?_) (λc=>?_)⟩⟩
 ·have g4:zC H H4:=λc o hc=>ex4 c o (zJ hc how') (g3 _ _ hc)
  refine qn ?_ H4 g4;exact QQ _▸c
 ·have g4:zC H H4:=λc o hc=>ex4 c o (zJ hc how') (g3 _ _ hc)
  have hc:jT (ZQ ns ss fs) ends (2^ns.length - 1) ns.length=true:=by
   cases e:jT (ZQ ns ss fs) ends (2^ns.length - 1) ns.length with
   | true=>rfl
   | false=>exact absurd (show (!jT (ZQ ns ss fs) ends (2^ns.length - 1) ns.length)=true by rw [e]; rfl) c
  have S4:=S3.ex ow3 ex4;refine ⟨_,rfl,_,rfl,x,dx,_,rfl,S4.at_,rfl,⟨ns.length,ZQ ns ss fs,ends,ls,x,dx,nr,lq,ow⟩,kvs4,rfl,S4,hd4,n1,hc,pr4 (by omega),λl H5 g5 hl5 e5=>?_⟩;refine ⟨t,a,b,l,ns,ss,Js (ZQ ns ss fs) ends (2^ns.length - 1) ns.length,rfl,pl.same (g4.trans g5),e5,?_,?_,λl6 H6 g6 hl6 e6=>qs hc l6 H6 ((g4.trans g5).trans g6) (zt (g4.trans g5) hl6) e6⟩
  ·have:=zBo (near:=ZQ ns ss fs) (ends:=ends) (yE (2^ns.length - 1)) (2^ns.length - 1) ns.length
   have:=YQ _ (S3.lt hw);exact qK (zBo _ _ _) (by omega)
  ·exact zGe S3.ok _ _ _ (qE _)
end
def zAk (n:Nat) (ring:Bool):List Nat:=if ring then [0] else List.range n
def YV (ns ss:List Int) (ring:Bool) (e:Nat):Bool:= !ring||(YU ns ss (ns.getD e 0)).contains 0
def zHJ (ns ss:List Int) (ring:Bool):Bool:=jT (ZQ ns ss (zAk ns.length ring)) (YV ns ss ring) (2^ns.length - 1) ns.length
def zFN (ns ss:List Int) (ring:Bool):List Int:=(Js (ZQ ns ss (zAk ns.length ring)) (YV ns ss ring) (2^ns.length - 1) ns.length).map λk=>ns.getD k 0
def zAU (ns ss:List Int) (ring:Bool):Bool:=zHJ ns ss ring&& !(ring&&decide (ns.length<3))
def zCh (ring:Bool):Sp:=λvs H Q _=>∃(t a b:Addr) (ns ss:List Int),vs=[.ref t]/\Zm H t a b ns ss/\(zAU ns ss ring=false->∀H',zC H H'->Q .non H')/\
 (zAU ns ss ring=true->∀(l:Addr) (H':Hp),zC H H'->H l=none->H' l=some (.lst ((zFN ns ss ring).map V.int))->Q (.ref l) H')
abbrev zHL:Stmt:=top 32
def zCc:Sp:=λvs H Q _=>∃(t a b:Addr) (ns ss:List Int),vs=[.ref t]/\Zm H t a b ns ss/\∀l:Addr,H l=none->Q (.ref l) (upd H l (.lst ((iv (List.range ns.length)).map V.int)))
abbrev zIF:Stmt:=top 40
section
variable {f cp fr al:Addr} {fd cpd frd ald:FuncData}
theorem zOY:zP ["plan"] ["plan"] (zF zHL):=ZA
theorem zNT (F:zm K "all_places" "all_places" zHL f fd) (B:Bt3 mg):zH P w K mg base zT 1 f fd ["plan"] zCc:=by
 refine F.ok zOY (λvs H Q E h=>?_) (λcdv A outer s H vs Q E hr h=>?_)
 ·obtain ⟨t,a,b,ns,ss,rfl,_⟩:=h
  rfl
 obtain ⟨t,a,b,ns,ss,rfl,pl,q⟩:=h;refine ⟨_,(@zG _ _ _ (zR (zCs rfl rfl B.range rfl B.list (zA (zY ZD rfl B.len QB (zA (zu Z3 (pv 0) zK (λ_ _=>rfl)) zB)) zB)))),?_⟩;have n2:=pl.ok.n2;have hml:(ns.map V.int).length=ns.length:=qA _;refine ⟨_,rfl,t,_,0,_,rfl,rfl,Zd.of pl.t,rfl,a,_,rfl, .inl (zQ.of pl.a),0,_,rfl,by rw [hml]; omega,λl hl=>?_⟩;have e:((List.range (((((ns.map V.int).length:Nat):Int)) - 0).toNat).map λk:Nat=>V.int (0+(k:Int)))=(iv (List.range ns.length)).map V.int:=by
  rw [Yo,hml,show (((ns.length:Nat):Int) - 0).toNat=ns.length by omega];refine xI λk _=>?_
  rw [Int.zero_add]
 rw [e];exact q l hl
theorem zOp:zP ["plan"] ["plan"] (zF zIF):=ZA
theorem zNn (F:zm K "first_row" "first_row" zIF f fd)
  (GC:zH P w K mg base zT 23 cp cpd ["plan"] jF) (bC:zL K cpd ["plan"] []) (kC:ZC K cp) (mC:mg "check_plan"=some (.ref cp))
  (GF:zH P w K mg base zT 23 fr frd ["plan","first_places","last_places"] zFn) (bF:zL K frd ["plan","first_places","last_places"] []) (kF:ZC K fr) (mF:mg "first_from"=some (.ref fr))
  (GA:zH P w K mg base zT 23 al ald ["plan"] zCc) (bA:zL K ald ["plan"] []) (kA:ZC K al) (mA:mg "all_places"=some (.ref al)):zH P w K mg base zT 24 f fd ["plan"] (zCh false):=by
 refine F.ok zOp (λvs H Q E h=>?_) (λcdv A outer s H vs Q E hr h=>?_)
 ·obtain ⟨t,a,b,ns,ss,rfl,_⟩:=h
  rfl
 obtain ⟨t,a,b,ns,ss,rfl,pl,qn,qs⟩:=h;refine ⟨_,(@zE _ _ _ _ _ (ZI (zU GC hr rfl mC kC bC .nil zO (zA (pv 0) zB))) (@zG _ _ _ (zR (zU GF hr rfl mF kF bF .nil zO (zA (pv 0) (zA (zU GA hr rfl mA kA bA .nil zO (zA (pv 0) zB)) (zA (zU GA hr rfl mA kA bA .nil zO (zA (pv 0) zB)) zB))))))),?_⟩;refine ⟨_,rfl,t,a,b,ns,ss,rfl,pl,?_⟩;refine ⟨_,rfl,_,rfl,t,a,b,ns,ss,rfl,pl,λl1 hl1=>?_⟩;have g1:zC H (upd H l1 (.lst ((iv (List.range ns.length)).map V.int))):=zC.new hl1 _;refine ⟨_,rfl,t,a,b,ns,ss,rfl,pl.same g1,λl2 hl2=>?_⟩;have g2:zC (upd H l1 (.lst ((iv (List.range ns.length)).map V.int))) (upd (upd H l1 (.lst ((iv (List.range ns.length)).map V.int))) l2 (.lst ((iv (List.range ns.length)).map V.int))):=zC.new hl2 _;have e:zAU ns ss false=jT (ZQ ns ss (List.range ns.length)) (YV ns ss false) (2^ns.length - 1) ns.length:=by
  unfold zAU zHJ zAk;simp
 refine ⟨t,a,b,l1,l2,ns,ss,List.range ns.length,List.range ns.length,YV ns ss false,rfl,(pl.same g1).same g2,g2 _ _ zD,zD,λk hk=>QP.mp hk,xZ,λe he=>?_,λhc H' g=>?_,λhc l H' g hl e'=>?_⟩
 ·have:(List.range ns.length).contains e=true:=qX.mpr (QP.mpr he)
  rw [this];rfl
 ·exact qn (e.trans hc) H' ((g1.trans g2).trans g)
 ·exact qs (e.trans hc) l H' ((g1.trans g2).trans g) (zt (g1.trans g2) hl) e'
end
abbrev zFo:Stmt:=top 41
section
variable {f cp fr al:Addr} {fd cpd frd ald:FuncData} {t3:Tok}
theorem j6 (ss:List Int) (x y:Int):y7 ss x y=y7 ss y x:=by
 unfold y7;rw [Int.add_comm,show decide (x≠y)=decide (y≠x) from decide_eq_decide.mpr ⟨λh z=>h z.symm,λh z=>h z.symm⟩]
theorem zNf:zP ["plan"] ["plan"] (zF zFo):=ZA
theorem zKl (F:zm K "first_ring" "first_ring" zFo f fd) (B:Bt3 mg) (m3:mg "FEWEST_IN_RING"=some (.int 3 t3))
  (GC:zH P w K mg base zT 23 cp cpd ["plan"] jF) (bC:zL K cpd ["plan"] []) (kC:ZC K cp) (mC:mg "check_plan"=some (.ref cp))
  (GF:zH P w K mg base zT 23 fr frd ["plan","first_places","last_places"] zFn) (bF:zL K frd ["plan","first_places","last_places"] []) (kF:ZC K fr) (mF:mg "first_from"=some (.ref fr))
  (GN:zH P w K mg base zT 23 al ald ["plan","number"] zCO) (bN:zL K ald ["plan","number"] []) (kN:ZC K al) (mN:mg "near_places"=some (.ref al)):zH P w K mg base zT 24 f fd ["plan"] (zCh true):=by
 refine F.ok zNf (λvs H Q E h=>?_) (λcdv A outer s H vs Q E hr h=>?_)
 ·obtain ⟨t,a,b,ns,ss,rfl,_⟩:=h
  rfl
 obtain ⟨t,a,b,ns,ss,rfl,pl,qn,qs⟩:=h;refine ⟨_,(@zE _ _ _ _ _ (ZI (zU GC hr rfl mC kC bC .nil zO (zA (pv 0) zB))) (@zE _ _ _ _ _ (zy (zh zBD (zY ZD rfl B.len QB (zA (zu Z3 (pv 0) zK (λ_ _=>rfl)) zB)) (zr (v:= .int 3) rfl m3 ⟨_,rfl⟩) (zk _)) (@zG _ _ _ (zR jH)) zf) (@zG _ _ _ (zR (zU GF hr rfl mF kF bF .nil zO (zA (pv 0) (zA (ZG (zA zK zB)) (zA (zU GN hr rfl mN kN bN .nil zO (zA (pv 0) (zA (zu ZE (zu Z3 (pv 0) zK (λ_ _=>rfl)) zK (λ_ _=>rfl)) zB))) zB)))))))),?_⟩;have hml:(ns.map V.int).length=ns.length:=qA _;have n1:=pl.ok.n1;refine ⟨_,rfl,t,a,b,ns,ss,rfl,pl,?_⟩;refine ⟨_,rfl,t,_,0,_,rfl,rfl,Zd.of pl.t,rfl,a,_,rfl, .inl (zQ.of pl.a),_,_,rfl,rfl,_,rfl,zq (λc=>?_) (λc=>?_)⟩
 ·have c':=of_decide_eq_true c
  rw [hml] at c';refine qn ?_ H zC.rfl';unfold zAU;rw [decide_eq_true (show ns.length<3 by omega)];cases zHJ ns ss true <;> rfl
 have c3:¬ns.length<3:=λz=>c (decide_eq_true (by rw [hml]; omega))
 have e:zAU ns ss true=jT (ZQ ns ss [0]) (YV ns ss true) (2^ns.length - 1) ns.length:=by
  unfold zAU zHJ zAk;rw [decide_eq_false c3];simp
 refine ⟨_,rfl,by decide,λl1 hl1=>?_⟩;have g1:zC H (upd H l1 (.lst [.int 0])):=zC.new hl1 _;have p1:=pl.same g1;have e0:ns[0]?=some ns[0]:=qB (by omega);have d0:ns.getD 0 0=ns[0]:=by rw [qC,e0]; rfl
 refine ⟨_,rfl,_,rfl,t,_,0,_,rfl,rfl,Zd.of p1.t,rfl,a,_,0,_,rfl,rfl,zQ.of p1.a,Z2 (j:=0) (by rw [qR,e0]; rfl),t,a,b,ns,ss,ns[0],rfl,p1,λl2 H2 g2 hl2 e2=>?_⟩;refine ⟨t,a,b,l1,l2,ns,ss,[0],YU ns ss ns[0],YV ns ss true,rfl,p1.same g2,g2 _ _ zD,e2,λk hk=>?_,XY _ _,λj hj=>?_,λhc H' g=>?_,λhc l H' g hl e'=>?_⟩
 ·rw [qH.mp hk]; omega
 ·rw [QY]
  show (YU ns ss ns[0]).contains j=true↔(YU ns ss (ns.getD j 0)).contains 0=true;unfold YU;rw [qX,qX,QD,QD,QP,QP,d0,j6];exact ⟨λh=>⟨by omega,h.2⟩,λh=>⟨hj,h.2⟩⟩
 ·exact qn (e.trans hc) H' ((g1.trans g2).trans g)
 ·exact qs (e.trans hc) l H' ((g1.trans g2).trans g) (zt (g1.trans g2) hl) e'
end
abbrev zLG:Stmt:=ZJ (top 43) 0
abbrev sWy:Stmt:=ZJ (top 43) 1
abbrev sWb:Stmt:=ZJ (top 43) 2
abbrev sAw:Stmt:=ZJ (top 43) 3
structure TyT (K:W.Frag) (C:Addr):Prop extends SrT K C where
 nL:ZL K C "last_places"
 nK:ZL K C "known"
section
variable (near:Nat->List Nat) (ends:Nat->Bool)
def zHj:Nat->Nat->Nat->Nat
 | 0,_,e=>if ends e then 1 else 0
 | m+1,left,e=>(((near e).filter λk=>left.testBit k).map λk=>zHj m (left - 2^k) k).sum
def yI (left e:Nat):Nat:=zHj near ends (yE left) left e
variable {near ends}
theorem zDv {n left e:Nat} (N:Zt near n) (hl:left<1024) (h0:left≠0) (he:e≤n):yI near ends left e=(((near e).filter λk=>left.testBit k).map λk=>yI near ends (left - 2^k) k).sum:=by
 unfold yI;cases hc:yE left with
 | zero=>exact absurd (zAN left hl hc) h0
 | succ m=>
  show (((near e).filter λk=>left.testBit k).map λk=>zHj near ends m (left - 2^k) k).sum=_
  congr 1
  refine xI λk hk=>?_
  obtain ⟨hk1,hb⟩:=QD.mp hk;have:=(yQ left hl k (qP (N.lt e he k hk1) N.n10) hb).1;have em:yE (left - 2^k)=m:=by omega
  rw [em]
end
section
variable (n:Nat) (near:Nat->List Nat) (ends:Nat->Bool)
structure JD (kvs:List (List ze×V)):Prop where
 nd:(kvs.map (·.1)).Nodup
 ok:∀kv∈kvs,∃l e,kv.1=ky l e/\l≠0/\l<2^n/\e≤n/\kv.2= .int (yI near ends l e:Nat)
variable {n near ends}
theorem zDi:JD n near ends []:=⟨XE,(λ_ h=>nomatch h)⟩
theorem JD.val {kvs:List (List ze×V)} (M:JD n near ends kvs) {l e:Nat} {v:V} (h:ZP kvs (ky l e)=some v):v= .int (yI near ends l e:Nat):=by
 obtain ⟨l',e',h1,_,_,_,h2⟩:=M.ok _ (zCv h);obtain ⟨rfl,rfl⟩:=zCU h1;exact h2
theorem JD.len {kvs:List (List ze×V)} (M:JD n near ends kvs) (hn:n≤10):kvs.length<sizeLine:=by
 have hp:2^n≤1024:=JT n (by omega);have hc:∀kv∈kvs,zBM kv.1<11264:=λkv h=>by
  obtain ⟨l,e,h1,_,h3,h4,_⟩:=M.ok kv h;rw [h1];show ((l:Int)).toNat*11+((e:Int)).toNat<11264;omega
 have hnd:(kvs.map λkv=>zBM kv.1).Nodup:=by
  have h:=M.nd;unfold List.Nodup at h ⊢;rw [List.pairwise_map] at h ⊢;refine h.imp_of_mem λ{x y} hx hy hne he=>hne ?_
  obtain ⟨l,e,h1,_,_,h4,_⟩:=M.ok x hx;obtain ⟨l',e',h1',_,_,h4',_⟩:=M.ok y hy;rw [h1,h1'] at he ⊢;have he':((l:Int)).toNat*11+((e:Int)).toNat=((l':Int)).toNat*11+((e':Int)).toNat:=he;have:l=l'/\e=e':=by omega
  rw [this.1,this.2]
 have h:=J1 11264 _ hnd λx hx=>by
  obtain ⟨kv,h1,rfl⟩:=qY.mp hx;exact hc kv h1
 rw [qA] at h;rw [sizeLine_eq];omega
theorem JD.put {kvs:List (List ze×V)} (M:JD n near ends kvs) {l e:Nat} (h0:l≠0) (hl:l<2^n) (he:e≤n):JD n near ends (Zj kvs (ky l e) (.int (yI near ends l e:Nat))):=by
 refine ⟨?_,?_⟩
 ·cases hv:ZP kvs (ky l e) with
  | none=>
   rw [zCA _ hv,qS];refine List.nodup_append.mpr ⟨M.nd,by simp,λa ha b hb hab=>?_⟩;have eb:b=ky l e:=by simpa using hb
   subst eb;subst hab;obtain ⟨kv,h1,h2⟩:=qY.mp ha;have h3:=yl (ky l e) kvs;rw [hv] at h3;have h4:(kvs.any λkv=>decide (kv.1=ky l e))=true:=XO.mpr ⟨kv,h1,decide_eq_true h2⟩;rw [h4] at h3;cases h3
  | some v=>
   unfold Zj;rw [yl,hv];rw [if_pos (show (some v).isSome=true from rfl),qU];have:(kvs.map ((λx:List ze×V=>x.1) ∘ λkv=>if kv.1=ky l e then (kv.1,V.int (yI near ends l e:Nat)) else kv))=kvs.map (·.1):=by
    refine xI λkv _=>?_
    show (if kv.1=ky l e then (kv.1,V.int (yI near ends l e:Nat)) else kv).1=kv.1
    split <;> rfl
   rw [this];exact M.nd
 ·intro kv h
  unfold Zj at h
  split at h
  ·obtain ⟨kv',h1,h2⟩:=qY.mp h
   by_cases z:kv'.1=ky l e
   ·rw [if_pos z] at h2
    rw [<-h2];exact ⟨l,e,z,h0,hl,he,rfl⟩
   ·rw [if_neg z] at h2
    rw [<-h2];exact M.ok kv' h1
  ·rcases qO.mp h with z | z
   ·exact M.ok kv z
   ·have z:kv=(ky l e,V.int (yI near ends l e:Nat)):=by simpa using z
    rw [z];exact ⟨l,e,rfl,h0,hl,he,rfl⟩
end
def fsT (p:SP):List (Str×V):=[("ahead", .int p.n),("near", .ref p.nr),("whole", .int ((2^p.n - 1:Nat):Int)),("last_places", .ref p.lp),("known", .ref p.ow)]
structure jV (C:Addr) (p:SP) (H:Hp):Prop where
 at_:H p.s=some (.ins C p.dx (fsT p))
 nr:Ys H p.nr p.n p.near
 lp:H p.lp=some (.lst ((iv p.lasts).map V.int))
 ok:Zt p.near p.n
 le:∀e<p.n,p.lasts.contains e=p.ends e
def Zy (p:SP) (H:Hp) (kvs:List (List ze×V)):Prop:=H p.ow=some (.dT kvs)/\JD p.n p.near p.ends kvs
theorem jV.ex {C:Addr} {p:SP} {H H':Hp} {kvs:List (List ze×V)} (S:jV C p H) (hk:H p.ow=some (.dT kvs)) (g:Ex (·=p.ow) H H'):jV C p H':=by
 have ne:∀{b o},H b=some o->(∀kvs,o≠ .dT kvs)->H' b=some o:=λ{b o} h d=>g b o (λz=>d kvs (by rw [z,hk] at h; exact (Option.some.inj h).symm)) h
 obtain ⟨rs,q1,q2,q3⟩:=S.nr;exact ⟨ne S.at_ (λ_ z=>by cases z),⟨rs,q1,ne q2 (λ_ z=>by cases z),λe he=>let ⟨r,a,b⟩:=q3 e he; ⟨r,a,ne b (λ_ z=>by cases z)⟩⟩,ne S.lp (λ_ z=>by cases z),S.ok,S.le⟩
theorem jV.lt {C:Addr} {p:SP} {H:Hp} (S:jV C p H) {left:Nat} (h:left<2^p.n):left<1024:=qP h (JT _ (Nat.lt_succ_of_le S.ok.n10))
def zCj (C:Addr) (m:Nat):Sp:=λvs H Q _=>∃(p:SP) (kvs:List (List ze×V)) (left e:Nat),vs=[.ref p.s, .int left, .int e]/\jV C p H/\Zy p H kvs/\left<2^p.n/\yE left≤m/\e≤p.n/\(left=0->e<p.n)/\
 ∀(H':Hp) (kvs':List (List ze×V)),Ex (·=p.ow) H H'->Zy p H' kvs'->Q (.int (yI p.near p.ends left e:Nat)) H'
def zLQ (C:Addr) (m:Nat):Sp:=λvs H Q _=>∃(p:SP) (kvs:List (List ze×V)) (left k:Nat),vs=[.ref p.s, .int left, .int k]/\jV C p H/\Zy p H kvs/\left<2^p.n/\left.testBit k=true/\k<p.n/\yE left≤m/\
 ∀(H':Hp) (kvs':List (List ze×V)),Ex (·=p.ow) H H'->Zy p H' kvs'->Q (.int (yI p.near p.ends (left - 2^k) k:Nat)) H'
def zHc (C:Addr):Sp:=λvs H Q _=>∃(p:SP) (kvs:List (List ze×V)),vs=[.ref p.s]/\jV C p H/\Zy p H kvs/\1≤p.n/\∀(H':Hp) (kvs':List (List ze×V)),Ex (·=p.ow) H H'->Zy p H' kvs'->Q (.int (yI p.near p.ends (2^p.n - 1) p.n:Nat)) H'
def zHi (C:Addr):Sp:=λvs H Q _=>∃(s t a b fp lp dx:Addr) (ns ss:List Int) (fs ls:List Nat),vs=[.ref s, .ref t, .ref fp, .ref lp]/\H s=some (.ins C dx [])/\Zm H t a b ns ss/\H fp=some (.lst ((iv fs).map V.int))/\H lp=some (.lst ((iv ls).map V.int))/\
 ∀(nr lq ow:Addr) (H':Hp),Ex (·=s) H H'->H ow=none->H' s=some (.ins C dx [("ahead", .int ns.length),("near", .ref nr),("whole", .int ((2^ns.length - 1:Nat):Int)),("last_places", .ref lq),("known", .ref ow)])->
  Ys H' nr ns.length (ZQ ns ss fs)->H' lq=some (.lst ((iv ls).map V.int))->H' ow=some (.dT [])->Q .non H'
theorem zEy (l:List Nat) (f:Nat->Nat):(l.map λk=>((f k:Nat):Int)).sum=(((l.map f).sum:Nat):Int):=by
 induction l with
 | nil=>rfl
 | cons a r ih=>rw [qQ,qQ,List.sum_cons,List.sum_cons,ih]; omega
section
variable {f g1 g2 C C0:Addr} {mc:Value} {fd gd1 gd2:FuncData}
theorem zKk:zP ["self","left","place"] ["self","left","place"] (zF sWb):=ZA
theorem zMW {j m:Nat} (F:zm K "ways_by" "Tally.ways_by" sWb f fd) (T:TyT K C) (mW:ZH K C "ways" g1)
  (GW:zH P w K mg base zT j g1 gd1 ["self","left","end"] (zCj C m)) (bW:zL K gd1 ["self","left","end"] []):zH P w K mg base zT (j+1) f fd ["self","left","place"] (zLQ C (m+1)):=by
 refine F.ok zKk (λvs H Q E h=>?_) (λcdv A outer s H vs Q E hr h=>?_)
 ·obtain ⟨p,kvs,left,k,rfl,_⟩:=h
  rfl
 obtain ⟨p,kvs,left,k,rfl,S,hd,hl,hb,hk,hc,q⟩:=h;refine ⟨_,(@zG _ _ _ (zR (z0 (pv 0) T.cl mW GW hr bW .nil zO (zA (zZ Yz (pv 1) (zZ ju zK (pv 2))) (zA (pv 2) zB))))),?_⟩;have n10:=S.ok.n10;have hdec:=yQ left (S.lt hl) k (by omega) hb;refine ⟨_,rfl,p.s,p.dx,_,rfl,S.at_,rfl,_,rfl,_,rfl,_,_,rfl,rfl,⟨by show (0:Int)≤(k:Int); omega,by show (k:Int)≤1000000; omega,by decide⟩,_,_,rfl,rfl,_,rfl,?_⟩;exact ⟨p,kvs,left - 2^k,k,congrArg (λx=>[V.ref p.s,V.int x,V.int (k:Int)]) (j7 left k (jL hb)),S,hd,by omega,by omega,by omega,λ_=>hk,q⟩
theorem zQJ:zP ["self","left","end","key"] ["self","left","end"] (zF sWy):=ZA
theorem zMR {j m:Nat} (F:zm K "ways" "Tally.ways" sWy f fd) (B:Bt4 mg) (T:TyT K C) (mB:ZH K C "ways_by" g1) (mS:ZH K C "steps" g2)
  (GB:zH P w K mg base zT j g1 gd1 ["self","left","place"] (zLQ C m)) (bB:zL K gd1 ["self","left","place"] [])
  (GS:zH P w K mg base zT j g2 gd2 ["self","left","end"] (YR C)) (bS:zL K gd2 ["self","left","end"] []):zH P w K mg base zT (j+1) f fd ["self","left","end"] (zCj C m):=by
 refine F.ok zQJ (λvs H Q E h=>?_) (λcdv A outer s H vs Q E hr h=>?_)
 ·obtain ⟨p,kvs,left,e,rfl,_⟩:=h
  rfl
 obtain ⟨p,kvs,left,e,rfl,S,hd,hl,hc,he,h0,q⟩:=h;have hu:=zAZ hr;refine ⟨_,(@zE _ _ _ _ _ (zy (zh ye (pv 1) zK (zk _)) (@zG _ _ _ (zR (zAO (zh (J3 K) (pv 2) (ZB (pv 0) rfl) rfl) zK zK))) zf) (@zE _ _ _ _ _ (za (i:=3) zQJ.nd rfl (Or.inl rfl) (yc (zA (pv 1) (zA (pv 2) zB)))) (@zE _ _ _ _ _ (zy (jt (Jh hu (pv 3) (ZB (pv 0) rfl))) (@zG _ _ _ (zBQ hu (ZB (pv 0) rfl) (pv 3) (zY (zDb rfl) rfl B.sum boot_sum (zA (Za ["place"] rfl (ZY (zF sWy) ["self","left","end","key"] rfl rfl (by decide +kernel)) (ZM (z0 (pv 0) T.cl mS GS hr bS .nil zO (zA (pv 1) (zA (pv 2) zB)))) (λpins C fp s3 H3=>⟨(zp (i:=0) (show (Zo ["place"] ["self","left","end","key"]).Nodup by decide +kernel) rfl (Or.inl rfl)),Zp,(z0 (pv 1) T.cl mB GB hr bB .nil zO (zA (pv 2) (zA (pv 0) zB)))⟩)) zB)) rfl)) zf) (@zG _ _ _ (zR (jd hu (ZB (pv 0) rfl) (pv 3) (λ_ _=>rfl))))))),?_⟩;refine ⟨_,rfl,rfl,_,rfl,zq (λc=>?_) (λc=>?_)⟩
 ·have el:left=0:=by
   have z:=V.int.inj (of_decide_eq_true c);omega
  subst el;have z:=q H kvs Ex.refl hd;have e0:yI p.near p.ends 0 e=if p.ends e then 1 else 0:=rfl
  rw [e0,<-S.le e (h0 rfl),<-zBY] at z;refine ⟨_,rfl,_,rfl,p.s,C,p.dx,_,_,rfl,S.at_,T.cl,T.nL,rfl,p.lp,_,_,rfl,rfl,zQ.of S.lp,_,rfl,zq (λc=>?_) (λc=>?_)⟩
  ·have c':(iv p.lasts).contains (e:Int)=true:=c
   rw [c'] at z;exact z
  ·have c':(iv p.lasts).contains (e:Int)=false:=QR.mpr c
   rw [c'] at z;exact z
 ·have el:left≠0:=λz=>c (decide_eq_true (by rw [z]; rfl))
  refine ⟨_,rfl,_,rfl,Z9,λkt hkt=>?_⟩;have gk:zC H (upd H kt (.tup [.int (left:Int), .int (e:Int)])):=zC.new hkt _;have S1:jV C p (upd H kt (.tup [.int (left:Int), .int (e:Int)])):=S.ex hd.1 (Ex.same gk);have hd1:Zy p (upd H kt (.tup [.int (left:Int), .int (e:Int)])) kvs:=⟨gk _ _ hd.1,hd.2⟩;have hk1:(upd H kt (.tup [.int (left:Int), .int (e:Int)])) kt=some (.tup ((ky left e).map kV)):=zD;have ex1:Ex (·=p.ow) H (upd H kt (.tup [.int (left:Int), .int (e:Int)])):=Ex.same gk;generalize upd H kt (.tup [.int (left:Int), .int (e:Int)])=H1 at S1 hd1 hk1 ex1 ⊢;refine ⟨_,rfl,_,rfl,p.s,C,p.dx,_,_,rfl,S1.at_,T.cl,T.nK,rfl,p.ow,_,rfl,YY.t hd1.1 hk1,_,rfl,zq (λc2=>?_) (λc2=>?_)⟩
  ·have hl':=S.lt hl
   have n10:=S.ok.n10;refine ⟨_,rfl,p.s,p.dx,_,rfl,S1.at_,rfl,_,rfl,_,rfl,p.s,p.dx,p.nr,_,p.n,p.near,left,e,rfl,S1.at_,rfl,S1.nr,S1.ok,he,hl',λl H2 g2 hln e2=>⟨l,rfl,⟨_,zQ.of e2⟩,λD hD=>?_⟩⟩;have hd2:Zy p H2 kvs:=⟨g2 _ _ hd1.1,hd1.2⟩;have lo:l≠p.ow:=Zc e2 hd2.1 (by intro z; cases z);have Do:p.ow≠D:=zJ hd2.1 hD;have lD:l≠D:=zJ e2 hD;have klen:((p.near e).filter λk=>left.testBit k).length≤10:=qK (QI _ _) (qK (jk S.ok he) n10);obtain ⟨ks,eks⟩:∃ks,ks=(p.near e).filter λk=>left.testBit k:=⟨_,rfl⟩
   have ew:=zDv (ends:=p.ends) S.ok hl' el he;have hmem:∀k∈ks,k<p.n/\left.testBit k=true:=λk hk=>by
    rw [eks] at hk;obtain ⟨h1,h2⟩:=QD.mp hk;exact ⟨S.ok.lt e he k h1,h2⟩
   rw [<-eks] at e2 klen ew;have kml:((iv ks).map V.int).length=ks.length:=by rw [qA,YE]
   refine yi (n:=ks.length) (λi σ' H'=>∃(x:Option V) (kvs':List (List ze×V)),σ'=[x,some (.ref p.s),some (.int left),some (.int e),some (.ref kt)]/\Ex (·=p.ow) H2 H'/\Zy p H' kvs'/\H' D=some (.lst (((ks.take i).map λk=>((yI p.near p.ends (left - 2^k) k:Nat):Int)).map V.int)))
    ⟨none,kvs,rfl,Ex.new _ hD,⟨by rw [zI Do]; exact hd2.1,hd2.2⟩,zD⟩ ?_ ?_
   ·rintro i σ' H' hi ⟨x,kvs',rfl,ex,hk',hD'⟩
    have ek:ks[i]?=some ks[i]:=qB hi;obtain ⟨hkn,hb⟩:=hmem _ (QF hi);have el2:=ex _ _ lo e2;refine ⟨⟨_,_,zQ.of el2,yy ek⟩,λy H3 hy=>?_⟩;obtain ⟨rfl,hy⟩:=hy;have ey:=hy _ (zQ.of el2);rw [yy ek] at ey;cases ey;refine zAy ?_;have S':jV C p H3:=(S1.ex hd1.1 (Ex.same g2)).ex hd2.1 ex;refine ⟨_,rfl,p.s,p.dx,_,rfl,S'.at_,rfl,_,rfl,_,rfl,p,kvs',left,ks[i],rfl,S',hk',hl,hb,hkn,hc,λH4 kvs4 ex4 hk4=>?_⟩;have hD4:=ex4 _ _ (Ne.symm Do) hD';refine ⟨_,hD4,ZW (by rw [qA,qA,xG]; omega),_,kvs4,rfl,λc o hc ho=>?_,⟨by rw [zI Do]; exact hk4.1,hk4.2⟩,?_⟩
    ·rw [zI (zJ ho hD)]
     exact ex4 _ _ hc (ex _ _ hc ho)
    ·rw [zD,List.take_add_one,ek,qS,qS]
     rfl
   ·rintro σ' H' ⟨x,kvs',rfl,ex,hk',hD'⟩
    have el2:=ex _ _ lo e2;refine ⟨⟨_,zQ.of el2,by rw [kml]; exact qE _⟩,?_⟩;rw [QO (qE _)] at hD';refine ⟨D,_,rfl,hD',?_⟩;have S':jV C p H':=(S1.ex hd1.1 (Ex.same g2)).ex hd2.1 ex;have hk2:H' kt=some (.tup ((ky left e).map kV)):=ex _ _ (Zc (g2 _ _ hk1) hd2.1 (by intro z; cases z)) (g2 _ _ hk1);have esum:(ks.map λk=>((yI p.near p.ends (left - 2^k) k:Nat):Int)).sum=((yI p.near p.ends left e:Nat):Int):=by rw [zEy,ew]
    refine ⟨_,rfl,p.s,C,p.dx,_,_,rfl,S'.at_,T.cl,T.nK,rfl,_,rfl,p.ow,_,rfl,zBk.t hk'.1 hk2 (hk'.2.len S.ok.n10),?_⟩;rw [esum];have M3:=hk'.2.put el hl he;have ex3:Ex (·=p.ow) H' (upd H' p.ow (.dT (Zj kvs' (ky left e) (.int (yI p.near p.ends left e:Nat))))):=Ex.put _ rfl;have S3:=S'.ex hk'.1 ex3;have hk3:=ex3 _ _ (Zc hk2 hk'.1 (by intro z; cases z)) hk2;refine ⟨_,rfl,p.s,C,p.dx,_,_,rfl,S3.at_,T.cl,T.nK,rfl,_,rfl,p.ow,_,rfl,by have z:=YY.t (zD (H:=H') (a:=p.ow) (o:= .dT (Zj kvs' (ky left e) (.int (yI p.near p.ends left e:Nat))))) hk3; rw [Y7,if_pos rfl] at z; exact z,?_⟩;exact q _ _ (((ex1.trans (Ex.same g2)).trans ex).trans ex3) ⟨zD,M3⟩
  ·cases ev:ZP kvs (ky left e) with
   | none=>rw [ev] at c2; exact absurd rfl c2
   | some v=>
    have hv:=hd.2.val ev;refine ⟨_,rfl,p.s,C,p.dx,_,_,rfl,S1.at_,T.cl,T.nK,rfl,_,rfl,p.ow,_,rfl,by have z:=YY.t hd1.1 hk1; rw [ev] at z; exact z,?_⟩;rw [hv];exact q _ _ ex1 hd1
theorem zDC {wa wb sf:Addr} {wd wbd sfd:FuncData} (FW:zm K "ways" "Tally.ways" sWy wa wd) (FB:zm K "ways_by" "Tally.ways_by" sWb wb wbd) (B:Bt4 mg) (T:TyT K C) (mW:ZH K C "ways" wa) (mB:ZH K C "ways_by" wb) (mS:ZH K C "steps" sf)
  (GS:zH P w K mg base zT 1 sf sfd ["self","left","end"] (YR C)) (bS:zL K sfd ["self","left","end"] []) (bW:zL K wd ["self","left","end"] []) (bB:zL K wbd ["self","left","place"] []):
  ∀m:Nat,zH P w K mg base zT (2*m+2) wa wd ["self","left","end"] (zCj C m)
 | 0=>zMR (j:=1) FW B T mB mS ⟨λvs H Q E h=>by obtain ⟨p,kvs,left,k,rfl,_⟩:=h; rfl,λA outer s H args us vs Q E _ _ _ _ h=>by
   obtain ⟨p,kvs,left,k,_,S,_,hl,hb,hk,hc,_⟩:=h;have n10:=S.ok.n10;have:=(yQ left (S.lt hl) k (by omega) hb).1;omega⟩ bB GS bS
 | m+1=>by
  have GW:=zDC FW FB B T mW mB mS GS bS bW bB m;have GB:=zMW (j:=2*m+2) FB T mW GW bW;exact zMR (j:=2*m+3) FW B T mB mS GB bB (GS.mono (by omega)) bS
theorem zSF:zP ["self"] ["self"] (zF sAw):=ZA
theorem zRl (F:zm K "all_ways" "Tally.all_ways" sAw f fd) (T:TyT K C) (mW:ZH K C "ways" g1) (GW:zH P w K mg base zT 22 g1 gd1 ["self","left","end"] (zCj C 10)) (bW:zL K gd1 ["self","left","end"] []):zH P w K mg base zT 23 f fd ["self"] (zHc C):=by
 refine F.ok zSF (λvs H Q E h=>?_) (λcdv A outer s H vs Q E hr h=>?_)
 ·obtain ⟨p,kvs,rfl,_⟩:=h
  rfl
 obtain ⟨p,kvs,rfl,S,hd,n1,q⟩:=h;refine ⟨_,(@zG _ _ _ (zR (z0 (pv 0) T.cl mW GW hr bW .nil zO (zA (ZB (pv 0) rfl) (zA (ZB (pv 0) rfl) zB))))),?_⟩;have p2:2≤2^p.n:=XH (n:=2) (by decide) n1;have hw:2^p.n - 1<2^p.n:=by omega
 refine ⟨_,rfl,p.s,p.dx,_,rfl,S.at_,rfl,_,rfl,p.s,C,p.dx,_,_,rfl,S.at_,T.cl,T.nW,rfl,_,rfl,p.s,C,p.dx,_,_,rfl,S.at_,T.cl,T.nA,rfl,?_⟩;exact ⟨p,kvs,2^p.n - 1,p.n,rfl,S,hd,hw,YQ _ (S.lt hw),qE _,λz=>by omega,q⟩
theorem zRY:zP ["self","plan","first_places","last_places"] ["self","plan","first_places","last_places"] (zF zLG):=ZA
theorem zOM (F:zm K "__init__" "Tally.__init__" zLG f fd) (B:Bt3 mg) (T:TyT K C) (BI:zHe K C0 mc "__init__" g1) (mI:mg "Steps"=some (.ref C0))
  (GI:zH P w K mg base zT 3 g1 gd1 ["self","plan","first_places"] (zCi C)) (bI:zL K gd1 ["self","plan","first_places"] []):zH P w K mg base zT 4 f fd ["self","plan","first_places","last_places"] (zHi C):=by
 refine F.ok zRY (λvs H Q E h=>?_) (λcdv A outer s H vs Q E hr h=>?_)
 ·obtain ⟨s,t,a,b,fp,lp,dx,ns,ss,fs,ls,rfl,_⟩:=h
  rfl
 obtain ⟨s,t,a,b,fp,lp,dx,ns,ss,fs,ls,rfl,hs,pl,hfp,hlp,q⟩:=h;refine ⟨_,(@zE _ _ _ _ _ (ZI (zCw BI GI hr rfl mI bI .nil zO (zA (pv 0) (zA (pv 1) (zA (pv 2) zB))))) (@zE _ _ _ _ _ (YW (pv 0) (Zu ym rfl B.list xH (zA (pv 3) zB)) rfl) (@zG _ _ _ (YW (pv 0) zCI rfl)))),?_⟩;refine ⟨_,rfl,_,rfl,_,rfl,s,t,a,b,fp,dx,ns,ss,fs,rfl,hs,pl,hfp,λnr H1 ex1 s1 na1=>?_⟩;have lps:lp≠s:=Zc hlp hs (by intro z; cases z);have lp1:=ex1 _ _ lps hlp;refine ⟨_,rfl,lp,_,rfl, .inl (zQ.of lp1),λlq hlq=>?_⟩;have g2:zC H1 (upd H1 lq (.lst ((iv ls).map V.int))):=zC.new hlq _;refine ⟨_,rfl,s,C,dx,_,rfl,g2 _ _ s1,T.cl,T.nL,(by show 3<1000; decide),?_⟩;refine λow how=>?_
 have sq:s≠lq:=zJ s1 hlq;have ow_s:ow≠s:=λz=>by rw [z,zD] at how; cases how
 have ow_q:ow≠lq:=λz=>by rw [z,zI sq.symm,zD] at how; cases how
 have how1:H1 ow=none:=by rwa [zI ow_s,zI ow_q] at how
 refine ⟨_,rfl,s,C,dx,_,rfl,by rw [zI (Ne.symm ow_s)]; exact zD,T.cl,T.nK,(by show 4<1000; decide),?_⟩;obtain ⟨rs,q1,q2,q3⟩:=na1;have st:∀{c:Addr} {o:HO},c≠s->H1 c=some o->∀{o1 o2},(upd (upd (upd (upd H1 lq (.lst ((iv ls).map V.int))) s o1) ow (.dT [])) s o2) c=some o:=λ{c o} hc h {o1 o2}=>by
  rw [zI hc,zI (zJ h how1),zI hc,zI (zJ h hlq)];exact h
 refine q nr lq ow _ (λc o hc ho=>st hc (ex1 c o hc ho)) ?_ ?_ ⟨rs,q1,st (Zc q2 s1 (by intro z; cases z)) q2,λe he=>let ⟨r,r1,r2⟩:=q3 e he; ⟨r,r1,st (Zc r2 s1 (by intro z; cases z)) r2⟩⟩ ?_ ?_
 ·cases e:H ow with
  | none=>rfl
  | some o=>rw [ex1 _ _ ow_s e] at how1; cases how1
 ·rw [zD]
  rfl
 ·rw [zI (Ne.symm sq),zI (Ne.symm ow_q),zI (Ne.symm sq),zD]
 ·rw [zI ow_s,zD]
end
abbrev sTr:Stmt:=top 44
abbrev sCr:Stmt:=top 45
abbrev sCg:Stmt:=top 46
def YM (ns ss:List Int) (ring:Bool):Nat:=yI (ZQ ns ss (zAk ns.length ring)) (YV ns ss ring) (2^ns.length - 1) ns.length
def jN (ns ss:List Int):Nat:=if ns.length<3 then 0 else ns.length*YM ns ss true
def zKA (C:Addr):Sp:=λvs H Q _=>∃(t a b:Addr) (ns ss:List Int),vs=[.ref t]/\Zm H t a b ns ss/\∀(p:SP) (H':Hp),p.n=ns.length->p.near=ZQ ns ss (List.range ns.length)->p.ends=YV ns ss false->zC H H'->H p.ow=none->jV C p H'->Zy p H' []->Q (.ref p.s) H'
def zBV (f:List Int->List Int->Nat):Sp:=λvs H Q _=>∃(t a b:Addr) (ns ss:List Int),vs=[.ref t]/\Zm H t a b ns ss/\∀H',zC H H'->Q (.int (f ns ss:Nat)) H'
section
variable {f g1 g2 g3 g4 C:Addr} {fd gd1 gd2 gd3 gd4:FuncData} {t3:Tok}
theorem zSV:zP ["plan"] ["plan"] (zF sTr):=ZA
theorem zQx (F:zm K "tally_of_rows" "tally_of_rows" sTr f fd) (MT:Mk K C g1) (mT:mg "Tally"=some (.ref C))
  (GI:zH P w K mg base zT 4 g1 gd1 ["self","plan","first_places","last_places"] (zHi C)) (bI:zL K gd1 ["self","plan","first_places","last_places"] [])
  (GA:zH P w K mg base zT 5 g2 gd2 ["plan"] zCc) (bA:zL K gd2 ["plan"] []) (kA:ZC K g2) (mA:mg "all_places"=some (.ref g2)):zH P w K mg base zT 6 f fd ["plan"] (zKA C):=by
 refine F.ok zSV (λvs H Q E h=>?_) (λcdv A outer s H vs Q E hr h=>?_)
 ·obtain ⟨t,a,b,ns,ss,rfl,_⟩:=h
  rfl
 obtain ⟨t,a,b,ns,ss,rfl,pl,q⟩:=h;refine ⟨_,(@zG _ _ _ (zR (Jy MT GI hr rfl mT bI .nil zO (zA (pv 0) (zA (zU GA hr rfl mA kA bA .nil zO (zA (pv 0) zB)) (zA (zU GA hr rfl mA kA bA .nil zO (zA (pv 0) zB)) zB)))))),?_⟩;refine ⟨_,rfl,_,rfl,t,a,b,ns,ss,rfl,pl,λl1 hl1=>?_⟩;have g1:zC H (upd H l1 (.lst ((iv (List.range ns.length)).map V.int))):=zC.new hl1 _;refine ⟨_,rfl,t,a,b,ns,ss,rfl,pl.same g1,λl2 hl2=>λx dx nx ndx nex=>?_⟩;have g2:zC (upd H l1 (.lst ((iv (List.range ns.length)).map V.int))) (upd (upd H l1 (.lst ((iv (List.range ns.length)).map V.int))) l2 (.lst ((iv (List.range ns.length)).map V.int))):=zC.new hl2 _;have e1:(upd (upd H l1 (.lst ((iv (List.range ns.length)).map V.int))) l2 (.lst ((iv (List.range ns.length)).map V.int))) l1=some (.lst ((iv (List.range ns.length)).map V.int)):=g2 _ _ zD;have e2:(upd (upd H l1 (.lst ((iv (List.range ns.length)).map V.int))) l2 (.lst ((iv (List.range ns.length)).map V.int))) l2=some (.lst ((iv (List.range ns.length)).map V.int)):=zD;have g12:=g1.trans g2;generalize upd (upd H l1 (.lst ((iv (List.range ns.length)).map V.int))) l2 (.lst ((iv (List.range ns.length)).map V.int))=H2 at g2 e1 e2 g12 nx ndx ⊢;have g3:zC H2 (upd (upd H2 dx (.own x)) x (.ins C dx [])):=λc o hc=>by
  rw [zI (zJ hc nx),zI (zJ hc ndx)]; exact hc
 refine ⟨x,t,a,b,l1,l2,dx,ns,ss,List.range ns.length,List.range ns.length,rfl,zD,(pl.same g12).same g3,g3 _ _ e1,g3 _ _ e2,λnr lq ow H3 ex3 how s3 na3 lq3 ow3=>⟨rfl,?_⟩⟩;have g4:zC H H3:=λc o hc=>ex3 c o (zJ (g12 _ _ hc) nx) (g3 _ _ (g12 _ _ hc))
 refine q ⟨ns.length,ZQ ns ss (List.range ns.length),YV ns ss false,List.range ns.length,x,dx,nr,lq,ow⟩ H3 rfl rfl rfl g4 (zt (g12.trans g3) how) ⟨s3,na3,lq3,zAB pl.ok (λk hk=>QP.mp hk) xZ,λe he=>?_⟩ ⟨ow3,zDi⟩;have:(List.range ns.length).contains e=true:=qX.mpr (QP.mpr he);rw [this];rfl
theorem zSJ:zP ["plan"] ["plan"] (zF sCr):=ZA
theorem zQf (F:zm K "count_rows" "count_rows" sCr f fd) (T:TyT K C) (mW:ZH K C "all_ways" g1)
  (GW:zH P w K mg base zT 23 g1 gd1 ["self"] (zHc C)) (bW:zL K gd1 ["self"] [])
  (GC:zH P w K mg base zT 23 g2 gd2 ["plan"] jF) (bC:zL K gd2 ["plan"] []) (kC:ZC K g2) (mC:mg "check_plan"=some (.ref g2))
  (GT:zH P w K mg base zT 23 g3 gd3 ["plan"] (zKA C)) (bT:zL K gd3 ["plan"] []) (kT:ZC K g3) (mT:mg "tally_of_rows"=some (.ref g3)):zH P w K mg base zT 24 f fd ["plan"] (zBV λns ss=>YM ns ss false):=by
 refine F.ok zSJ (λvs H Q E h=>?_) (λcdv A outer s H vs Q E hr h=>?_)
 ·obtain ⟨t,a,b,ns,ss,rfl,_⟩:=h
  rfl
 obtain ⟨t,a,b,ns,ss,rfl,pl,q⟩:=h;refine ⟨_,(@zE _ _ _ _ _ (ZI (zU GC hr rfl mC kC bC .nil zO (zA (pv 0) zB))) (@zG _ _ _ (zR (YJ (zU GT hr rfl mT kT bT .nil zO (zA (pv 0) zB)) T.cl mW GW hr bW .nil zO)))),?_⟩;refine ⟨_,rfl,t,a,b,ns,ss,rfl,pl,?_⟩;refine ⟨_,rfl,t,a,b,ns,ss,rfl,pl,λp H1 e1 e2 e3 g1 how S hk=>?_⟩;refine ⟨p.s,p.dx,_,rfl,S.at_,rfl,p,[],rfl,S,hk,by rw [e1]; exact pl.ok.n1,λH2 kvs2 ex2 hk2=>?_⟩;have z:=q H2 (λc o hc=>ex2 c o (zJ hc how) (g1 _ _ hc));rw [e1,e2,e3];exact z
theorem zSD:zP ["plan"] ["plan"] (zF sCg):=ZA
theorem zQR (F:zm K "count_rings" "count_rings" sCg f fd) (B:Bt3 mg) (T:TyT K C) (m3:mg "FEWEST_IN_RING"=some (.int 3 t3)) (mW:ZH K C "all_ways" g1) (MT:Mk K C g4) (mT:mg "Tally"=some (.ref C))
  (GI:zH P w K mg base zT 22 g4 gd4 ["self","plan","first_places","last_places"] (zHi C)) (bI:zL K gd4 ["self","plan","first_places","last_places"] [])
  (GW:zH P w K mg base zT 23 g1 gd1 ["self"] (zHc C)) (bW:zL K gd1 ["self"] [])
  (GC:zH P w K mg base zT 23 g2 gd2 ["plan"] jF) (bC:zL K gd2 ["plan"] []) (kC:ZC K g2) (mC:mg "check_plan"=some (.ref g2))
  (GN:zH P w K mg base zT 23 g3 gd3 ["plan","number"] zCO) (bN:zL K gd3 ["plan","number"] []) (kN:ZC K g3) (mN:mg "near_places"=some (.ref g3)):zH P w K mg base zT 24 f fd ["plan"] (zBV jN):=by
 refine F.ok zSD (λvs H Q E h=>?_) (λcdv A outer s H vs Q E hr h=>?_)
 ·obtain ⟨t,a,b,ns,ss,rfl,_⟩:=h
  rfl
 obtain ⟨t,a,b,ns,ss,rfl,pl,q⟩:=h;refine ⟨_,(@zE _ _ _ _ _ (ZI (zU GC hr rfl mC kC bC .nil zO (zA (pv 0) zB))) (@zE _ _ _ _ _ (zy (zh zBD (zY ZD rfl B.len QB (zA (zu Z3 (pv 0) zK (λ_ _=>rfl)) zB)) (zr (v:= .int 3) rfl m3 ⟨_,rfl⟩) (zk _)) (@zG _ _ _ (zR zK)) zf) (@zG _ _ _ (zR (zZ zAA (zY ZD rfl B.len QB (zA (zu Z3 (pv 0) zK (λ_ _=>rfl)) zB)) (YJ (Jy MT GI hr rfl mT bI .nil zO (zA (pv 0) (zA (ZG (zA zK zB)) (zA (zU GN hr rfl mN kN bN .nil zO (zA (pv 0) (zA (zu ZE (zu Z3 (pv 0) zK (λ_ _=>rfl)) zK (λ_ _=>rfl)) zB))) zB)))) T.cl mW GW hr bW .nil zO)))))),?_⟩;have hml:(ns.map V.int).length=ns.length:=qA _;have n1:=pl.ok.n1;have n2:=pl.ok.n2;refine ⟨_,rfl,t,a,b,ns,ss,rfl,pl,?_⟩;refine ⟨_,rfl,t,_,0,_,rfl,rfl,Zd.of pl.t,rfl,a,_,rfl, .inl (zQ.of pl.a),_,_,rfl,rfl,_,rfl,zq (λc=>?_) (λc=>?_)⟩
 ·have c':=of_decide_eq_true c
  rw [hml] at c';have e:jN ns ss=0:=by unfold jN; rw [if_pos (by omega)]
  rw [e] at q;exact q H zC.rfl'
 have c3:¬ns.length<3:=λz=>c (decide_eq_true (by rw [hml]; omega))
 have e:jN ns ss=ns.length*YM ns ss true:=by unfold jN; rw [if_neg c3]
 rw [e] at q;refine ⟨_,rfl,t,_,0,_,rfl,rfl,Zd.of pl.t,rfl,a,_,rfl, .inl (zQ.of pl.a),?_⟩;rw [hml];refine ⟨_,rfl,(by show 1≤sizeLine; decide),λl1 hl1=>?_⟩;have g1:zC H (upd H l1 (.lst [.int 0])):=zC.new hl1 _;have p1:=pl.same g1;have e0:ns[0]?=some ns[0]:=qB (by omega);have d0:ns.getD 0 0=ns[0]:=by rw [qC,e0]; rfl
 have el1:(upd H l1 (.lst [.int 0])) l1=some (.lst ((iv [0]).map V.int)):=zD;generalize upd H l1 (.lst [.int 0])=H1 at g1 p1 el1 ⊢;refine ⟨_,rfl,_,rfl,t,_,0,_,rfl,rfl,Zd.of p1.t,rfl,a,_,0,_,rfl,rfl,zQ.of p1.a,Z2 (j:=0) (by rw [qR,e0]; rfl),t,a,b,ns,ss,ns[0],rfl,p1,λl2 H2 g2 hl2 e2=>λx dx nx ndx nex=>?_⟩;have g3:zC H2 (upd (upd H2 dx (.own x)) x (.ins C dx [])):=λc o hc=>by
  rw [zI (zJ hc nx),zI (zJ hc ndx)]; exact hc
 refine ⟨x,t,a,b,l1,l2,dx,ns,ss,[0],YU ns ss ns[0],rfl,zD,(p1.same g2).same g3,g3 _ _ (g2 _ _ el1),g3 _ _ e2,λnr lq ow H3 ex3 how s3 na3 lq3 ow3=>⟨rfl,?_⟩⟩;have g12:=g1.trans g2;have how':H ow=none:=zt (g12.trans g3) how;have g4:zC H H3:=λc o hc=>ex3 c o (zJ (g12 _ _ hc) nx) (g3 _ _ (g12 _ _ hc))
 have S3:jV C ⟨ns.length,ZQ ns ss [0],YV ns ss true,YU ns ss ns[0],x,dx,nr,lq,ow⟩ H3:=by
  refine ⟨s3,na3,lq3,zAB pl.ok (λk hk=>by rw [qH.mp hk]; omega) (XY _ _),λj hj=>?_⟩;rw [QY];show (YU ns ss ns[0]).contains j=true↔(YU ns ss (ns.getD j 0)).contains 0=true;unfold YU;have hj':j<ns.length:=hj;rw [qX,qX,QD,QD,QP,QP,d0,j6];exact ⟨λh=>⟨by omega,h.2⟩,λh=>⟨hj',h.2⟩⟩
 refine ⟨x,dx,_,rfl,S3.at_,rfl,⟨ns.length,ZQ ns ss [0],YV ns ss true,YU ns ss ns[0],x,dx,nr,lq,ow⟩,[],rfl,S3,⟨ow3,zDi⟩,n1,λH4 kvs4 ex4 hk4=>?_⟩;refine ⟨_,_,rfl,rfl, .inl ⟨by omega,by omega⟩,?_⟩;have z:=q H4 (λc o hc=>ex4 c o (zJ hc how') (g4 _ _ hc));rw [Int.natCast_mul] at z;exact z
end
abbrev zHp:Stmt:=ZJ (top 43) 4
abbrev sSb:Stmt:=ZJ (top 43) 5
abbrev sPb:Stmt:=ZJ (top 43) 6
abbrev sRb:Stmt:=top 47
def Yt (w:Nat->Nat) (l:List Nat) (k:Nat):Nat:=((l.filter λj=>decide (j<k)).map w).sum
theorem zBy (w:Nat->Nat) (a:Nat) (r:List Nat) (k:Nat):Yt w (a::r) k=(if a<k then w a else 0)+Yt w r k:=by
 unfold Yt;rw [QU];by_cases h:a<k
 ·rw [if_pos (decide_eq_true h),if_pos h,qQ,List.sum_cons]
 ·rw [if_neg (by rw [decide_eq_false h]; exact qN),if_neg h,Nat.zero_add]
theorem zEv {w:Nat->Nat} {l:List Nat} {k:Nat} (h:∀j∈l,k≤j):Yt w l k=0:=by
 unfold Yt;rw [List.filter_eq_nil_iff.mpr λj hj=>by rw [decide_eq_true_iff]; have:=h j hj; omega];rfl
theorem zGV {w:Nat->Nat} {l:List Nat} {k:Nat} (h:∀j∈l,j<k):Yt w l k=(l.map w).sum:=by
 unfold Yt;rw [List.filter_eq_self.mpr λj hj=>decide_eq_true (h j hj)]
theorem zGM (w:Nat->Nat) (p q:List Nat) (k:Nat):Yt w (p++q) k=Yt w p k+Yt w q k:=by
 unfold Yt;rw [xV,qS,List.sum_append]
theorem zOX {w:Nat->Nat} {p q:List Nat} {k:Nat} (h:(p++k::q).Pairwise (·<·)):Yt w (p++k::q) k=(p.map w).sum:=by
 obtain ⟨h1,h2,h3⟩:=List.pairwise_append.mp h;have z:Yt w (k::q) k=0:=zEv λj hj=>by
  rcases qG.mp hj with y | y
  ·omega
  ·exact xK (List.rel_of_pairwise_cons h2 y)
 rw [zGM,z,zGV (w:=w) (l:=p) (k:=k) λj hj=>h3 j hj k qD];rfl
theorem zLJ {w:Nat->Nat} {l:List Nat} {k k':Nat} (hp:l.Pairwise (·<·)) (hk:k∈l) (h:k<k'):Yt w l k+w k≤Yt w l k':=by
 obtain ⟨p,q,e⟩:=List.append_of_mem hk;subst e;rw [zOX hp];obtain ⟨_,_,h3⟩:=List.pairwise_append.mp hp;rw [zGM,zGV λj hj=>Nat.lt_trans (h3 j hj k qD) h,zBy,if_pos h];omega
theorem zIx (w:Nat->Nat):∀{l:List Nat},l.Pairwise (·<·)->∀num<(l.map w).sum,∃k∈l,Yt w l k≤num/\num<Yt w l k+w k
 | [],_,num,h=>absurd h (XG _)
 | a::r,hp,num,h=>by
  have hr:∀j∈r,a<j:=λj hj=>List.rel_of_pairwise_cons hp hj
  by_cases ha:num<w a
  ·refine ⟨a,qD,?_⟩
   rw [zBy,if_neg (XA _),zEv λj hj=>xK (hr j hj)];omega
  ·rw [qQ,List.sum_cons] at h
   obtain ⟨k,hk,h1,h2⟩:=zIx w hp.of_cons (num - w a) (by omega);refine ⟨k,qF _ hk,?_⟩;rw [zBy,if_pos (hr k hk)];omega
section
variable (near:Nat->List Nat) (ends:Nat->Bool)
def nbs (left e:Nat):List Nat:=(near e).filter λk=>left.testBit k
def wBy (left k:Nat):Nat:=yI near ends (left - 2^k) k
def YT (left e k:Nat):Nat:=Yt (wBy near ends left) (nbs near left e) k
def jp (left e num:Nat):Option Nat:=((nbs near left e).filter λk=>decide (YT near ends left e k≤num)).getLast?
def byF:Nat->Nat->Nat->Nat->List Nat
 | 0,_,_,_=>[]
 | m+1,left,e,num=>match jp near ends left e num with
  | none=>[]
  | some k=>k::byF m (left - 2^k) k (num - YT near ends left e k)
def byN (left e num:Nat):List Nat:=byF near ends (yE left) left e num
variable {near ends}
theorem zNU {n left e num k:Nat} (N:Zt near n) (he:e≤n) (hk:k∈nbs near left e) (h1:YT near ends left e k≤num) (h2:num<YT near ends left e k+wBy near ends left k):jp near ends left e num=some k:=by
 have hp:(nbs near left e).Pairwise (·<·):=(N.up e he).sublist List.filter_sublist;obtain ⟨p,q,eq⟩:=List.append_of_mem hk;unfold jp;have hq:q.filter (λk=>decide (YT near ends left e k≤num))=[]:=List.filter_eq_nil_iff.mpr λj hj=>by
  rw [decide_eq_true_iff];have hlt:k<j:=by
   rw [eq] at hp;exact List.rel_of_pairwise_cons (List.pairwise_append.mp hp).2.1 hj
  have:=zLJ (w:=wBy near ends left) hp hk hlt;show ¬Yt (wBy near ends left) (nbs near left e) j≤num;have h2':num<Yt (wBy near ends left) (nbs near left e) k+wBy near ends left k:=h2;omega
 rw [eq,xV,QU,if_pos (decide_eq_true h1),hq,List.getLast?_append];rfl
theorem zNg {n left e num:Nat} (N:Zt near n) (hl:left<1024) (h0:left≠0) (he:e≤n) (h:num<yI near ends left e):
  ∃k,k∈nbs near left e/\k<n/\left.testBit k=true/\jp near ends left e num=some k/\YT near ends left e k≤num/\num - YT near ends left e k<yI near ends (left - 2^k) k/\byN near ends left e num=k::byN near ends (left - 2^k) k (num - YT near ends left e k):=by
 have hp:(nbs near left e).Pairwise (·<·):=(N.up e he).sublist List.filter_sublist;rw [zDv N hl h0 he] at h;obtain ⟨k,hk,h1,h2⟩:=zIx (wBy near ends left) hp num h;have pk:=zNU N he hk h1 h2;obtain ⟨k1,k2⟩:=QD.mp hk;have hkn:=N.lt e he k k1;have n10:=N.n10;have cd:=(yQ left hl k (by omega) k2).1;refine ⟨k,hk,hkn,k2,pk,h1,?_,?_⟩
 ·have h2':num<YT near ends left e k+yI near ends (left - 2^k) k:=h2
  have h1':YT near ends left e k≤num:=h1;omega
 ·unfold byN
  rw [<-cd];have gen:∀m,byF near ends (m+1) left e num=k::byF near ends m (left - 2^k) k (num - YT near ends left e k):=λm=>by
   show (match jp near ends left e num with | none=>[] | some k=>k::byF near ends m (left - 2^k) k (num - YT near ends left e k))=_;rw [pk]
  exact gen _
theorem zJZ {n:Nat} (N:Zt near n):∀(m left e num:Nat),e≤n->(∀k∈byF near ends m left e num,k<n)/\(byF near ends m left e num).length≤m
 | 0,_,_,_,_=>⟨(λ_ h=>nomatch h),qE _⟩
 | m+1,left,e,num,he=>by
  show (∀k∈(match jp near ends left e num with | none=>[] | some k=>k::byF near ends m (left - 2^k) k (num - YT near ends left e k)),k<n)/\(match jp near ends left e num with | none=>[] | some k=>k::byF near ends m (left - 2^k) k (num - YT near ends left e k)).length≤m+1;cases h:jp near ends left e num with
  | none=>exact ⟨(λ_ h=>nomatch h),QG _⟩
  | some k=>
   have hm:k∈nbs near left e:=(QD.mp (List.mem_of_getLast? h)).1;have hk:=N.lt e he k (QD.mp hm).1;obtain ⟨a,b⟩:=zJZ N m (left - 2^k) k (num - YT near ends left e k) (xK hk);refine ⟨λx hx=>?_,by show _+1≤_; omega⟩;rcases qG.mp hx with z | z
   ·rw [z]; exact hk
   ·exact a x z
end
def zHO (C:Addr) (m:Nat):Sp:=λvs H Q _=>∃(p:SP) (kvs:List (List ze×V)) (left e k:Nat),vs=[.ref p.s, .int left, .int e, .int k]/\jV C p H/\Zy p H kvs/\left<2^p.n/\yE left≤m/\e≤p.n/\
 ∀(H':Hp) (kvs':List (List ze×V)),Ex (·=p.ow) H H'->Zy p H' kvs'->Q (.int (YT p.near p.ends left e k:Nat)) H'
def zPs (C:Addr) (m:Nat):Sp:=λvs H Q _=>∃(p:SP) (kvs:List (List ze×V)) (left e num k:Nat),vs=[.ref p.s, .int left, .int e, .int num]/\jV C p H/\Zy p H kvs/\left<2^p.n/\yE left≤m/\e≤p.n/\jp p.near p.ends left e num=some k/\
 ∀(H':Hp) (kvs':List (List ze×V)),Ex (·=p.ow) H H'->Zy p H' kvs'->Q (.int (k:Nat)) H'
def zEm (C:Addr):Sp:=λvs H Q _=>∃(p:SP) (kvs:List (List ze×V)) (num:Nat),vs=[.ref p.s, .int num]/\jV C p H/\Zy p H kvs/\1≤p.n/\num<yI p.near p.ends (2^p.n - 1) p.n/\
 ∀(l:Addr) (H':Hp),Ex (·=p.ow) H H'->H l=none->H' l=some (.lst ((iv (byN p.near p.ends (2^p.n - 1) p.n num)).map V.int))->Q (.ref l) H'
def zDV (ns ss:List Int) (num:Nat):List Int:=(byN (ZQ ns ss (List.range ns.length)) (YV ns ss false) (2^ns.length - 1) ns.length num).map λk=>ns.getD k 0
def zLu (XL:Addr):Sp:=λvs H Q E=>∃(t a b:Addr) (ns ss:List Int) (num:Nat),vs=[.ref t, .int num]/\Zm H t a b ns ss/\(num<YM ns ss false->∀(l:Addr) (H':Hp),zC H H'->H l=none->H' l=some (.lst ((zDV ns ss num).map V.int))->Q (.ref l) H')/\(¬num<YM ns ss false->∀H',zC H H'->E (.ref XL) none H')
theorem zAE {ks:List Nat} {q:Nat->Bool} {i:Nat} (hi:i<ks.length):(ks.take (i+1)).filter q=(ks.take i).filter q++if q ks[i]=true then [ks[i]] else []:=by
 have tk:ks.take (i+1)=ks.take i++[ks[i]]:=by rw [List.take_add_one,qB hi]; rfl
 rw [tk,xV,QU];rfl
section
variable {f g1 g2 g3 g4 g5 C C0:Addr} {mc:Value} {fd gd1 gd2 gd3 gd4 gd5:FuncData}
theorem zQa:zP ["self","left","end","place"] ["self","left","end","place"] (zF zHp):=ZA
theorem zOG {j m:Nat} (F:zm K "ways_ahead" "Tally.ways_ahead" zHp f fd) (B:Bt4 mg) (T:TyT K C) (mB:ZH K C "ways_by" g2) (mS:ZH K C "steps" g3)
  (GB:zH P w K mg base zT j g2 gd2 ["self","left","place"] (zLQ C m)) (bB:zL K gd2 ["self","left","place"] [])
  (GS:zH P w K mg base zT j g3 gd3 ["self","left","end"] (YR C)) (bS:zL K gd3 ["self","left","end"] []):zH P w K mg base zT (j+1) f fd ["self","left","end","place"] (zHO C m):=by
 refine F.ok zQa (λvs H Q E h=>?_) (λcdv A outer s H vs Q E hr h=>?_)
 ·obtain ⟨p,kvs,left,e,k,rfl,_⟩:=h
  rfl
 obtain ⟨p,kvs,left,e,k0,rfl,S,hd,hl,hc,he,q⟩:=h;have n10:=S.ok.n10;have hl':=S.lt hl;refine ⟨_,(@zG _ _ _ (zR (zY (zDb rfl) rfl B.sum boot_sum (zA (Za ["other"] rfl (ZY (zF zHp) ["self","left","end","place"] rfl rfl (by decide +kernel)) (ZM (z0 (pv 0) T.cl mS GS hr bS .nil zO (zA (pv 1) (zA (pv 2) zB)))) (λpins C fp s3 H3=>⟨(zp (i:=0) (show (Zo ["other"] ["self","left","end","place"]).Nodup by decide +kernel) rfl (Or.inl rfl)),(Ye (zh zBD (pv 0) (pv 4) (zk _))),(z0 (pv 1) T.cl mB GB hr bB .nil zO (zA (pv 2) (zA (pv 0) zB)))⟩)) zB)))),?_⟩;refine ⟨_,rfl,p.s,p.dx,_,rfl,S.at_,rfl,_,rfl,_,rfl,p.s,p.dx,p.nr,_,p.n,p.near,left,e,rfl,S.at_,rfl,S.nr,S.ok,he,hl',λl H2 g2 hln e2=>⟨l,rfl,⟨_,zQ.of e2⟩,λD hD=>?_⟩⟩;have hd2:Zy p H2 kvs:=⟨g2 _ _ hd.1,hd.2⟩;have lo:l≠p.ow:=Zc e2 hd2.1 (by intro z; cases z);have Do:p.ow≠D:=zJ hd2.1 hD;have klen:((p.near e).filter λk=>left.testBit k).length≤10:=qK (QI _ _) (qK (jk S.ok he) n10);obtain ⟨ks,eks⟩:∃ks,ks=(p.near e).filter λk=>left.testBit k:=⟨_,rfl⟩
 have hmem:∀k∈ks,k<p.n/\left.testBit k=true:=λk hk=>by
  rw [eks] at hk;obtain ⟨h1,h2⟩:=QD.mp hk;exact ⟨S.ok.lt e he k h1,h2⟩
 rw [<-eks] at e2 klen;have kml:((iv ks).map V.int).length=ks.length:=by rw [qA,YE]
 refine yi (n:=ks.length) (λi σ' H'=>∃(x:Option V) (kvs':List (List ze×V)),σ'=[x,some (.ref p.s),some (.int left),some (.int e),some (.int (k0:Nat))]/\Ex (·=p.ow) H2 H'/\Zy p H' kvs'/\H' D=some (.lst ((((ks.take i).filter λj=>decide (j<k0)).map λk=>((yI p.near p.ends (left - 2^k) k:Nat):Int)).map V.int)))
  ⟨none,kvs,rfl,Ex.new _ hD,⟨by rw [zI Do]; exact hd2.1,hd2.2⟩,zD⟩ ?_ ?_
 ·rintro i σ' H' hi ⟨x,kvs',rfl,ex,hk',hD'⟩
  have ek:ks[i]?=some ks[i]:=qB hi;obtain ⟨hkn,hb⟩:=hmem _ (QF hi);have el2:=ex _ _ lo e2;refine ⟨⟨_,_,zQ.of el2,yy ek⟩,λy H3 hy=>?_⟩;obtain ⟨rfl,hy⟩:=hy;have ey:=hy _ (zQ.of el2);rw [yy ek] at ey;cases ey;have S':jV C p H3:=(S.ex hd.1 (Ex.same g2)).ex hd2.1 ex;have ec:decide (((ks[i]:Nat):Int)<((k0:Nat):Int))=decide (ks[i]<k0):=decide_eq_decide.mpr (by omega);refine ⟨_,rfl,_,rfl,_,_,rfl,rfl,_,rfl,?_⟩;rw [ec];refine zq (λc=>?_) (λc=>?_)
  ·refine ⟨_,rfl,p.s,p.dx,_,rfl,S'.at_,rfl,_,rfl,_,rfl,p,kvs',left,ks[i],rfl,S',hk',hl,hb,hkn,hc,λH4 kvs4 ex4 hk4=>?_⟩
   have hD4:=ex4 _ _ (Ne.symm Do) hD';refine ⟨_,hD4,ZW (by rw [qA,qA]; have:=QI (λj=>decide (j<k0)) (ks.take i); rw [xG] at this; omega),_,kvs4,rfl,λc o hc ho=>?_,⟨by rw [zI Do]; exact hk4.1,hk4.2⟩,?_⟩
   ·rw [zI (zJ ho hD)]
    exact ex4 _ _ hc (ex _ _ hc ho)
   ·rw [zD,zAE hi,if_pos c,qS,qS]
    rfl
  ·refine ⟨_,kvs',rfl,ex,hk',?_⟩
   rw [zAE hi,if_neg c,xB];exact hD'
 ·rintro σ' H' ⟨x,kvs',rfl,ex,hk',hD'⟩
  have el2:=ex _ _ lo e2;refine ⟨⟨_,zQ.of el2,by rw [kml]; exact qE _⟩,?_⟩;rw [QO (qE _)] at hD';refine ⟨D,_,rfl,hD',?_⟩;rw [zEy];have z:=q H' kvs' ((Ex.same g2).trans ex) hk';unfold YT Yt nbs at z;rw [<-eks] at z;exact z
theorem zSE:zP ["self","left","end","number"] ["self","left","end","number"] (zF sSb):=ZA
theorem zRW {j m:Nat} (F:zm K "step_by" "Tally.step_by" sSb f fd) (T:TyT K C) (mA:ZH K C "ways_ahead" g2) (mS:ZH K C "steps" g3)
  (GA:zH P w K mg base zT j g2 gd2 ["self","left","end","place"] (zHO C m)) (bA:zL K gd2 ["self","left","end","place"] [])
  (GS:zH P w K mg base zT j g3 gd3 ["self","left","end"] (YR C)) (bS:zL K gd3 ["self","left","end"] []):zH P w K mg base zT (j+1) f fd ["self","left","end","number"] (zPs C m):=by
 refine F.ok zSE (λvs H Q E h=>?_) (λcdv A outer s H vs Q E hr h=>?_)
 ·obtain ⟨p,kvs,left,e,num,k,rfl,_⟩:=h
  rfl
 obtain ⟨p,kvs,left,e,num,k0,rfl,S,hd,hl,hc,he,hk0,q⟩:=h;have n10:=S.ok.n10;have hl':=S.lt hl;refine ⟨_,(@zG _ _ _ (zR (zu ZE (Za ["place"] rfl (ZY (zF sSb) ["self","left","end","number"] rfl rfl (by decide +kernel)) (ZM (z0 (pv 0) T.cl mS GS hr bS .nil zO (zA (pv 1) (zA (pv 2) zB)))) (λpins C fp s3 H3=>⟨(zp (i:=0) (show (Zo ["place"] ["self","left","end","number"]).Nodup by decide +kernel) rfl (Or.inl rfl)),(Ye (zh JA (z0 (pv 1) T.cl mA GA hr bA .nil zO (zA (pv 2) (zA (pv 3) (zA (pv 0) zB)))) (pv 4) (zk _))),(pv 0)⟩)) (zCL zAq zK) (λ_ _=>rfl)))),?_⟩;refine ⟨_,rfl,p.s,p.dx,_,rfl,S.at_,rfl,_,rfl,_,rfl,p.s,p.dx,p.nr,_,p.n,p.near,left,e,rfl,S.at_,rfl,S.nr,S.ok,he,hl',λl H2 g2 hln e2=>⟨l,rfl,⟨_,zQ.of e2⟩,λD hD=>?_⟩⟩;have hd2:Zy p H2 kvs:=⟨g2 _ _ hd.1,hd.2⟩;have lo:l≠p.ow:=Zc e2 hd2.1 (by intro z; cases z);have Do:p.ow≠D:=zJ hd2.1 hD;have klen:((p.near e).filter λk=>left.testBit k).length≤10:=qK (QI _ _) (qK (jk S.ok he) n10);unfold jp nbs at hk0;obtain ⟨ks,eks⟩:∃ks,ks=(p.near e).filter λk=>left.testBit k:=⟨_,rfl⟩
 rw [<-eks] at e2 klen hk0;have kml:((iv ks).map V.int).length=ks.length:=by rw [qA,YE]
 refine yi (n:=ks.length) (λi σ' H'=>∃(x:Option V) (kvs':List (List ze×V)),σ'=[x,some (.ref p.s),some (.int left),some (.int e),some (.int (num:Nat))]/\Ex (·=p.ow) H2 H'/\Zy p H' kvs'/\H' D=some (.lst ((iv ((ks.take i).filter λk=>decide (YT p.near p.ends left e k≤num))).map V.int)))
  ⟨none,kvs,rfl,Ex.new _ hD,⟨by rw [zI Do]; exact hd2.1,hd2.2⟩,zD⟩ ?_ ?_
 ·rintro i σ' H' hi ⟨x,kvs',rfl,ex,hk',hD'⟩
  have ek:ks[i]?=some ks[i]:=qB hi;have el2:=ex _ _ lo e2;refine ⟨⟨_,_,zQ.of el2,yy ek⟩,λy H3 hy=>?_⟩;obtain ⟨rfl,hy⟩:=hy;have ey:=hy _ (zQ.of el2);rw [yy ek] at ey;cases ey;have S':jV C p H3:=(S.ex hd.1 (Ex.same g2)).ex hd2.1 ex;refine ⟨_,rfl,p.s,p.dx,_,rfl,S'.at_,rfl,_,rfl,_,rfl,_,rfl,p,kvs',left,e,ks[i],rfl,S',hk',hl,hc,he,λH4 kvs4 ex4 hk4=>?_⟩;have hD4:=ex4 _ _ (Ne.symm Do) hD';have ec:decide (((YT p.near p.ends left e ks[i]:Nat):Int)≤((num:Nat):Int))=decide (YT p.near p.ends left e ks[i]≤num):=decide_eq_decide.mpr (by omega);refine ⟨_,rfl,_,_,rfl,rfl,_,rfl,?_⟩;rw [ec];refine zq (λc=>?_) (λc=>?_)
  ·refine ⟨_,rfl,_,hD4,ZW (by rw [qA,YE]; have:=QI (λk=>decide (YT p.near p.ends left e k≤num)) (ks.take i); rw [xG] at this; omega),_,kvs4,rfl,λc o hc ho=>?_,⟨by rw [zI Do]; exact hk4.1,hk4.2⟩,?_⟩
   ·rw [zI (zJ ho hD)]
    exact ex4 _ _ hc (ex _ _ hc ho)
   ·rw [zD,zAE hi,if_pos c,Yo,Yo,qS]
    rfl
  ·refine ⟨_,kvs4,rfl,ex.trans ex4,hk4,?_⟩
   rw [zAE hi,if_neg c,xB];exact hD4
 ·rintro σ' H' ⟨x,kvs',rfl,ex,hk',hD'⟩
  have el2:=ex _ _ lo e2;refine ⟨⟨_,zQ.of el2,by rw [kml]; exact qE _⟩,?_⟩;rw [QO (qE _)] at hD';refine ⟨_,rfl,D,_,-1, .int (k0:Nat),rfl,rfl,zQ.of hD',?_,q _ _ ((Ex.same g2).trans ex) hk'⟩;obtain ⟨r',er'⟩:=List.getLast?_eq_some_iff.mp hk0;rw [er',Yo,qS];exact zFR _ _
theorem jQ:zP ["self","number","places","left","end","place"] ["self","number"] (zF sPb):=ZA
theorem zHC (F:zm K "places_by" "Tally.places_by" sPb f fd) (T:TyT K C) (mA:ZH K C "ways_ahead" g1) (mB:ZH K C "step_by" g2)
  (GA:zH P w K mg base zT 24 g1 gd1 ["self","left","end","place"] (zHO C 10)) (bA:zL K gd1 ["self","left","end","place"] [])
  (GB:zH P w K mg base zT 24 g2 gd2 ["self","left","end","number"] (zPs C 10)) (bB:zL K gd2 ["self","left","end","number"] []):zH P w K mg base zT 25 f fd ["self","number"] (zEm C):=by
 refine F.ok jQ (λvs H Q E h=>?_) (λcdv A outer s H vs Q E hr h=>?_)
 ·obtain ⟨p,kvs,num,rfl,_⟩:=h
  rfl
 obtain ⟨p,kvs,num0,rfl,S,hd,n1,hnum0,q⟩:=h;refine ⟨_,(@zE _ _ _ _ _ (za (i:=2) jQ.nd rfl (Or.inl rfl) (ZG zB)) (@zE _ _ _ _ _ (za (i:=3) jQ.nd rfl (Or.inl rfl) (ZB (pv 0) rfl)) (@zE _ _ _ _ _ (za (i:=4) jQ.nd rfl (Or.inl rfl) (ZB (pv 0) rfl)) (@zE _ _ _ _ _ (JQ PassesOwn.never (zDM (pv 3)) (@zE _ _ _ _ _ (za (i:=5) jQ.nd rfl (Or.inl rfl) (z0 (pv 0) T.cl mB GB hr bB .nil zO (zA (pv 3) (zA (pv 4) (zA (pv 1) zB))))) (@zE _ _ _ _ _ (za (i:=1) jQ.nd rfl (Or.inl rfl) (zZ Yz (pv 1) (z0 (pv 0) T.cl mA GA hr bA .nil zO (zA (pv 3) (zA (pv 4) (zA (pv 5) zB)))))) (@zE _ _ _ _ _ (ZI (yB QK QW QX yk (pv 2) (zA (pv 5) zB))) (@zE _ _ _ _ _ (za (i:=3) jQ.nd rfl (Or.inl rfl) (zZ Yz (pv 3) (zZ ju zK (pv 5)))) (@zG _ _ _ (za (i:=4) jQ.nd rfl (Or.inl rfl) (pv 5)))))))) (@zG _ _ _ (zR (pv 2))))))),?_⟩;refine ⟨by decide,λl hln=>?_⟩;have g1:zC H (upd H l (.lst [])):=zC.new hln _;have lo:l≠p.ow:=λz=>by rw [z,hd.1] at hln; cases hln
 refine ⟨_,rfl,p.s,C,p.dx,fsT p,_,rfl,g1 _ _ S.at_,T.cl,T.nW,rfl,_,rfl,p.s,C,p.dx,fsT p,_,rfl,g1 _ _ S.at_,T.cl,T.nA,rfl,?_⟩;have hp2:2^p.n - 1<2^p.n:=Nat.sub_lt (Nat.two_pow_pos _) (by decide);have S1:=S.ex hd.1 (Ex.same g1);have hd1:Zy p (upd H l (.lst [])) kvs:=⟨g1 _ _ hd.1,hd.2⟩;dsimp only [Zi,jK];refine jx (λσ H'=>∃(x5:Option V) (pre:List Nat) (left e num:Nat) (kvs':List (List ze×V)),σ=[some (.ref p.s),some (.int (num:Nat)),some (.ref l),some (.int left),some (.int e),x5]/\Ex (λb=>b=p.ow\/b=l) (upd H l (.lst [])) H'/\H' l=some (.lst ((iv pre).map V.int))/\jV C p H'/\Zy p H' kvs'/\left<2^p.n/\e≤p.n/\pre.length+yE left≤10/\
   num<yI p.near p.ends left e/\pre++byN p.near p.ends left e num=byN p.near p.ends (2^p.n - 1) p.n num0)
  (λσ _=>zBC 3 σ) ⟨none,[],2^p.n - 1,p.n,num0,kvs,rfl,Ex.refl,zD,S1,hd1,hp2,qE _,by have:=YQ _ (S.lt hp2); simpa using this,hnum0,rfl⟩ ?_
 rintro σ H' ⟨x5,pre,left,e,num,kvs',rfl,ex,hl,S',hk',hlt,he,hlen,hnum,hpath⟩;have hl':=S.lt hlt;refine ⟨_,rfl,_,rfl,zq (λc=>?_) (λc=>?_)⟩
 ·have h0:left≠0:=λz=>by subst z; exact absurd c (by decide)
  obtain ⟨k,hkm,hkn,hb,ek,hw1,hw2,hcons⟩:=zNg S.ok hl' h0 he hnum;have n10:=S.ok.n10;have hdec:=yQ left hl' k (by omega) hb;refine J7 (H:=H') (μ:=λσ _=>zBC 3 σ) ?_;refine ⟨_,rfl,p.s,p.dx,_,rfl,S'.at_,rfl,_,rfl,_,rfl,_,rfl,p,kvs',left,e,num,k,rfl,S',hk',hlt,YQ _ hl',he,ek,λH2 kvs2 ex2 hk2=>?_⟩;have S2:=S'.ex hk'.1 ex2;refine ⟨_,rfl,_,rfl,p.s,p.dx,_,rfl,S2.at_,rfl,_,rfl,_,rfl,_,rfl,p,kvs2,left,e,k,rfl,S2,hk2,hlt,YQ _ hl',he,λH3 kvs3 ex3 hk3=>⟨_,_,rfl,rfl,?_⟩⟩;have hl3:=ex3 _ _ lo (ex2 _ _ lo hl);have exa:Ex (λb=>b=p.ow\/b=l) (upd H l (.lst [])) H3:=ex.trans ((ex2.trans ex3).wide λb z=> .inl z);refine ⟨_,rfl, .inl ⟨rfl,_,zQ.of hl3⟩,_,rfl,l,_,_,rfl,rfl,hl3,ZW (by rw [qA,YE]; omega),?_⟩;refine ⟨_,rfl,_,rfl,_,_,rfl,rfl,⟨by show (0:Int)≤(k:Int); omega,by show (k:Int)≤1000000; omega,by decide⟩,_,_,rfl,rfl,?_⟩;refine ⟨_,rfl,?_⟩;have st:∀{b:Addr} {o u:HO},H3 b=some o->(∀xs,o≠ .lst xs)->upd H3 l u b=some o:=λ{b o u} h nl=>by
   rw [zI (Zc h hl3 (nl _))]; exact h
  refine ⟨⟨some (.int (k:Nat)),pre++[k],left - 2^k,k,num - YT p.near p.ends left e k,kvs3,?_,exa.trans (Ex.put _ (.inr rfl)),?_,?_,⟨st hk3.1 (λ_ z=>by cases z),hk3.2⟩,by omega,by omega,?_,hw2,?_⟩,?_⟩
  ·rw [<-j7 left k (jL hb),show ((num - YT p.near p.ends left e k:Nat):Int)=((num:Nat):Int) - ((YT p.near p.ends left e k:Nat):Int) by omega]
   rfl
  ·rw [zD,Yo,Yo,qS]
   rfl
  ·obtain ⟨rs,q1,q2,q3⟩:=S.nr
   have keep:∀{b:Addr} {o:HO},H b=some o->b≠p.ow->∀{u},upd H3 l u b=some o:=λ{b o} h nb {u}=>by
    have nbl:b≠l:=zJ h hln;rw [zI nbl];exact exa _ _ (λz=>z.elim nb nbl) (g1 _ _ h)
   have now:∀{b:Addr} {o:HO},H b=some o->(∀kvs,o≠ .dT kvs)->b≠p.ow:=λ{b o} h nd z=>nd kvs (by rw [z,hd.1] at h; exact (Option.some.inj h).symm)
   exact ⟨keep S.at_ (now S.at_ (λ_ z=>by cases z)),⟨rs,q1,keep q2 (now q2 (λ_ z=>by cases z)),λe he=>let ⟨r,r1,r2⟩:=q3 e he; ⟨r,r1,keep r2 (now r2 (λ_ z=>by cases z))⟩⟩,keep S.lp (now S.lp (λ_ z=>by cases z)),S.ok,S.le⟩
  ·rw [qI]
   show pre.length+1+yE (left - 2^k)≤10;omega
  ·rw [<-hpath,hcons,xS]
   rfl
  ·show ((left:Int) - 1*2^((k:Int)).toNat).toNat<((left:Int)).toNat
   rw [j7 left k (jL hb)];omega
 ·have h0:left=0:=by
   rcases Nat.eq_zero_or_pos left with z | z
   ·exact z
   ·exact absurd (by simp; omega) c
  subst h0;have bz:byN p.near p.ends 0 e num=[]:=rfl;rw [bz,xB] at hpath;rw [hpath] at hl;refine ⟨_,rfl,q l H' (λb o hb' ho=>?_) hln hl⟩;have nbl:b≠l:=zJ ho hln;exact ex _ _ (λz=>z.elim hb' nbl) (g1 _ _ ho)
theorem zPa:zP ["plan","number","tally"] ["plan","number"] (zF sRb):=ZA
theorem zOc {XL:Addr} (F:zm K "row_by" "row_by" sRb f fd) (T:TyT K C) (eXL:W.excIn K XL JJ "ValueError.__new__"=true) (mXL:mg "NoPlace"=some (.ref XL)) (mW:ZH K C "all_ways" g1) (mP:ZH K C "places_by" g5)
  (GW:zH P w K mg base zT 25 g1 gd1 ["self"] (zHc C)) (bW:zL K gd1 ["self"] [])
  (GP:zH P w K mg base zT 25 g5 gd5 ["self","number"] (zEm C)) (bP:zL K gd5 ["self","number"] [])
  (GC:zH P w K mg base zT 25 g2 gd2 ["plan"] jF) (bC:zL K gd2 ["plan"] []) (kC:ZC K g2) (mC:mg "check_plan"=some (.ref g2))
  (GT:zH P w K mg base zT 25 g3 gd3 ["plan"] (zKA C)) (bT:zL K gd3 ["plan"] []) (kT:ZC K g3) (mT:mg "tally_of_rows"=some (.ref g3))
  {g6 g7:Addr} {gd6 gd7:FuncData}
  (GI:zH P w K mg base zT 25 g6 gd6 ["thing"] jg) (bI:zL K gd6 ["thing"] []) (kI:ZC K g6) (mI:mg "is_whole"=some (.ref g6))
  (GN:zH P w K mg base zT 25 g7 gd7 ["plan","places"] zCg) (bN:zL K gd7 ["plan","places"] []) (kN:ZC K g7) (mN:mg "numbers_at"=some (.ref g7)):zH P w K mg base (Zv P w) 26 f fd ["plan","number"] (zLu XL):=by
 refine F.ok1 zPa (λvs H Q E h=>?_) (λcdv A outer s H vs Q E hr h=>?_)
 ·obtain ⟨t,a,b,ns,ss,num,rfl,_⟩:=h
  rfl
 obtain ⟨t,a,b,ns,ss,num,rfl,pl,q,qe⟩:=h;refine ⟨_,(@zE _ _ _ _ _ (ZI (zU GC hr rfl mC kC bC .nil zO (zA (pv 0) zB))) (@zE _ _ _ _ _ (za (i:=2) zPa.nd rfl (Or.inl rfl) (zU GT hr rfl mT kT bT .nil zO (zA (pv 0) zB))) (@zE _ _ _ _ _ (zy (PW.pt (Yd (Zn (Zf (zU GI hr rfl mI kI bI .nil zO (zA (pv 1) zB)))) (YC (Zn (zBs JA zBD zK (pv 1) (YJ (pv 2) T.cl mW GW hr bW .nil zO)))))) (@zG _ _ _ (Z7 yT rfl QC eXL rfl mXL (zA zV zB))) zf) (Yl.nox (@zG _ _ _ (zR (zU GN hr rfl mN kN bN .nil zO (zA (pv 0) (zA (z0 (pv 2) T.cl mP GP hr bP .nil zO (zA (pv 1) zB)) zB))))))))),?_⟩;refine ⟨_,rfl,t,a,b,ns,ss,rfl,pl,?_⟩;refine ⟨_,rfl,t,a,b,ns,ss,rfl,pl,λp H1 e1 e2 e3 g1 how S hk=>?_⟩;have n1:1≤p.n:=by rw [e1]; exact pl.ok.n1
 have ew:yI p.near p.ends (2^p.n - 1) p.n=YM ns ss false:=by rw [e1,e2,e3]; rfl
 refine ⟨_,rfl, .int num, .int num,rfl, .int _,_,rfl,yF ?_⟩;refine ⟨_,rfl,_,_,rfl,rfl,_,rfl,zq (λ_=>?_) (λc=>absurd (decide_eq_true (by omega)) c)⟩;refine ⟨_,rfl,p.s,p.dx,_,rfl,S.at_,rfl,p,[],rfl,S,hk,n1,λH2 kvs2 ex2 hk2=>⟨_,_,rfl,rfl,_,rfl,?_⟩⟩;rw [ew];have S2:=S.ex hk.1 ex2;have g2:zC H H2:=λb o hb=>ex2 b o (zJ hb how) (g1 _ _ hb)
 by_cases hnum:num<YM ns ss false
 ·rw [decide_eq_true (show ((num:Nat):Int)<((YM ns ss false:Nat):Int) by omega)]
  refine yF ?_;refine ⟨_,rfl,_,rfl,p.s,p.dx,_,rfl,S2.at_,rfl,_,rfl,p,kvs2,num,rfl,S2,hk2,n1,by rw [ew]; exact hnum,λl H3 ex3 hl3 el3=>?_⟩;have g3:zC H H3:=λc o hc=>ex3 c o (zJ hc how) (g2 _ _ hc)
  rw [e1,e2,e3] at el3;have N:Zt (ZQ ns ss (List.range ns.length)) ns.length:=zAB pl.ok (λk hk=>QP.mp hk) xZ;obtain ⟨lt,len⟩:=zJZ (ends:=YV ns ss false) N (yE (2^ns.length - 1)) (2^ns.length - 1) ns.length num (qE _);have wl:2^ns.length - 1<1024:=by have:=JT ns.length (by have:=pl.ok.n2; omega); have:=Nat.two_pow_pos ns.length; omega
  have c10:=YQ _ wl;refine ⟨t,a,b,l,ns,ss,byN (ZQ ns ss (List.range ns.length)) (YV ns ss false) (2^ns.length - 1) ns.length num,rfl,pl.same g3,el3,qK len (qK c10 (by decide)),lt,?_⟩;intro l2 H6 g6 hl6 e6;exact q hnum l2 H6 (g3.trans g6) (zt g3 hl6) e6
 ·rw [decide_eq_false (show ¬((num:Nat):Int)<((YM ns ss false:Nat):Int) by omega)]
  exact yA ⟨by decide,qe hnum _ g2⟩
end
namespace Rh
abbrev zLD:Stmt:=ZJ (top 66) 0
abbrev sMs:Stmt:=ZJ (top 66) 1
abbrev sMb:Stmt:=ZJ (top 66) 2
structure RcT (K:W.Frag) (C:Addr):Prop extends SrT K C where
 nK:ZL K C "known"
def mxN:List Nat->Nat
 | []=>0
 | a::r=>max a (mxN r)
theorem zJN:∀{l:List Nat} {x:Nat},x∈l->x≤mxN l
 | a::r,x,h=>by
  unfold mxN;rcases qG.mp h with z | z
  ·omega
  ·have:=zJN z
   omega
theorem zCq:∀{l:List Nat},l≠[]->mxN l∈l
 | [a],_=>by unfold mxN mxN; rw [Nat.max_zero]; exact qD
 | a::b::r,_=>by
  unfold mxN;rcases Nat.le_total a (mxN (b::r)) with z | z
  ·rw [Nat.max_eq_right z]; exact qF _ (zCq (λh=>nomatch h))
  ·rw [Nat.max_eq_left z]; exact qD
theorem zJP (l:List Nat):zAb 0 (l.map λk:Nat=>(k:Int))=((mxN l:Nat):Int):=by
 by_cases h:l=[]
 ·rw [h]; rfl
 ·refine zKQ (qY.mpr ⟨_,zCq h,rfl⟩) λx hx=>?_
  obtain ⟨k,hk,rfl⟩:=qY.mp hx;have:=zJN hk;omega
section
variable (near:Nat->List Nat)
def zLT:Nat->Nat->Nat->Nat
 | 0,_,_=>0
 | m+1,left,e=>mxN (((near e).filter λk=>left.testBit k).map λk=>1+zLT m (left - 2^k) k)
def yb (left e:Nat):Nat:=zLT near (yE left) left e
variable {near}
theorem zJL {n left e:Nat} (N:Zt near n) (hl:left<1024) (he:e≤n):yb near left e=mxN (((near e).filter λk=>left.testBit k).map λk=>1+yb near (left - 2^k) k):=by
 unfold yb;cases hc:yE left with
 | zero=>
  rw [zAN left hl hc];have:(near e).filter (λk=>(0:Nat).testBit k)=[]:=List.filter_eq_nil_iff.mpr λk _=>by rw [Nat.zero_testBit]; exact qN
  rw [this];rfl
 | succ m=>
  show mxN (((near e).filter λk=>left.testBit k).map λk=>1+zLT near m (left - 2^k) k)=_
  congr 1
  refine xI λk hk=>?_
  obtain ⟨hk1,hb⟩:=QD.mp hk;have:=(yQ left hl k (qP (N.lt e he k hk1) N.n10) hb).1;have em:yE (left - 2^k)=m:=by omega
  rw [em]
end
section
variable (n:Nat) (near:Nat->List Nat)
structure j8 (kvs:List (List ze×V)):Prop where
 nd:(kvs.map (·.1)).Nodup
 ok:∀kv∈kvs,∃l e,kv.1=ky l e/\l<2^n/\e≤n/\kv.2= .int (yb near l e:Nat)
variable {n near}
theorem zJJ:j8 n near []:=⟨XE,(λ_ h=>nomatch h)⟩
theorem j8.val {kvs:List (List ze×V)} (M:j8 n near kvs) {l e:Nat} {v:V} (h:ZP kvs (ky l e)=some v):v= .int (yb near l e:Nat):=by
 obtain ⟨l',e',h1,_,_,h2⟩:=M.ok _ (zCv h);obtain ⟨rfl,rfl⟩:=zCU h1;exact h2
theorem j8.len {kvs:List (List ze×V)} (M:j8 n near kvs) (hn:n≤10):kvs.length<sizeLine:=by
 have hp:2^n≤1024:=JT n (by omega);have hc:∀kv∈kvs,zBM kv.1<11264:=λkv h=>by
  obtain ⟨l,e,h1,h3,h4,_⟩:=M.ok kv h;rw [h1];show ((l:Int)).toNat*11+((e:Int)).toNat<11264;omega
 have hnd:(kvs.map λkv=>zBM kv.1).Nodup:=by
  have h:=M.nd;unfold List.Nodup at h ⊢;rw [List.pairwise_map] at h ⊢;refine h.imp_of_mem λ{x y} hx hy hne he=>hne ?_
  obtain ⟨l,e,h1,_,h4,_⟩:=M.ok x hx;obtain ⟨l',e',h1',_,h4',_⟩:=M.ok y hy;rw [h1,h1'] at he ⊢;have he':((l:Int)).toNat*11+((e:Int)).toNat=((l':Int)).toNat*11+((e':Int)).toNat:=he;have:l=l'/\e=e':=by omega
  rw [this.1,this.2]
 have h:=J1 11264 _ hnd λx hx=>by
  obtain ⟨kv,h1,rfl⟩:=qY.mp hx;exact hc kv h1
 rw [qA] at h;rw [sizeLine_eq];omega
theorem j8.put {kvs:List (List ze×V)} (M:j8 n near kvs) {l e:Nat} (hl:l<2^n) (he:e≤n):j8 n near (Zj kvs (ky l e) (.int (yb near l e:Nat))):=by
 refine ⟨?_,?_⟩
 ·cases hv:ZP kvs (ky l e) with
  | none=>
   rw [zCA _ hv,qS];refine List.nodup_append.mpr ⟨M.nd,by simp,λa ha b hb hab=>?_⟩;have eb:b=ky l e:=by simpa using hb
   subst eb;subst hab;obtain ⟨kv,h1,h2⟩:=qY.mp ha;have h3:=yl (ky l e) kvs;rw [hv] at h3;have h4:(kvs.any λkv=>decide (kv.1=ky l e))=true:=XO.mpr ⟨kv,h1,decide_eq_true h2⟩;rw [h4] at h3;cases h3
  | some v=>
   unfold Zj;rw [yl,hv];rw [if_pos (show (some v).isSome=true from rfl),qU];have:(kvs.map ((λx:List ze×V=>x.1) ∘ λkv=>if kv.1=ky l e then (kv.1,V.int (yb near l e:Nat)) else kv))=kvs.map (·.1):=by
    refine xI λkv _=>?_
    show (if kv.1=ky l e then (kv.1,V.int (yb near l e:Nat)) else kv).1=kv.1
    split <;> rfl
   rw [this];exact M.nd
 ·intro kv h
  unfold Zj at h
  split at h
  ·obtain ⟨kv',h1,h2⟩:=qY.mp h
   by_cases z:kv'.1=ky l e
   ·rw [if_pos z] at h2
    rw [<-h2];exact ⟨l,e,z,hl,he,rfl⟩
   ·rw [if_neg z] at h2
    rw [<-h2];exact M.ok kv' h1
  ·rcases qO.mp h with z | z
   ·exact M.ok kv z
   ·have z:kv=(ky l e,V.int (yb near l e:Nat)):=by simpa using z
    rw [z];exact ⟨l,e,rfl,hl,he,rfl⟩
end
structure RP where
 n:Nat
 near:Nat->List Nat
 s:Addr
 dx:Addr
 nr:Addr
 ow:Addr
def fsR (p:RP):List (Str×V):=[("ahead", .int p.n),("near", .ref p.nr),("whole", .int ((2^p.n - 1:Nat):Int)),("known", .ref p.ow)]
structure Zr (C:Addr) (p:RP) (H:Hp):Prop where
 at_:H p.s=some (.ins C p.dx (fsR p))
 nr:Ys H p.nr p.n p.near
 ok:Zt p.near p.n
def yu (p:RP) (H:Hp) (kvs:List (List ze×V)):Prop:=H p.ow=some (.dT kvs)/\j8 p.n p.near kvs
theorem Zr.ex {C:Addr} {p:RP} {H H':Hp} {kvs:List (List ze×V)} (S:Zr C p H) (hk:H p.ow=some (.dT kvs)) (g:Ex (·=p.ow) H H'):Zr C p H':=by
 have ne:∀{b o},H b=some o->(∀kvs,o≠ .dT kvs)->H' b=some o:=λ{b o} h d=>g b o (λz=>d kvs (by rw [z,hk] at h; exact (Option.some.inj h).symm)) h
 obtain ⟨rs,q1,q2,q3⟩:=S.nr;exact ⟨ne S.at_ (λ_ z=>by cases z),⟨rs,q1,ne q2 (λ_ z=>by cases z),λe he=>let ⟨r,a,b⟩:=q3 e he; ⟨r,a,ne b (λ_ z=>by cases z)⟩⟩,S.ok⟩
theorem Zr.lt {C:Addr} {p:RP} {H:Hp} (S:Zr C p H) {left:Nat} (h:left<2^p.n):left<1024:=qP h (JT _ (Nat.lt_succ_of_le S.ok.n10))
def zCW (C:Addr) (m:Nat):Sp:=λvs H Q _=>∃(p:RP) (kvs:List (List ze×V)) (left e:Nat),vs=[.ref p.s, .int left, .int e]/\Zr C p H/\yu p H kvs/\left<2^p.n/\yE left≤m/\e≤p.n/\
 ∀(H':Hp) (kvs':List (List ze×V)),Ex (·=p.ow) H H'->yu p H' kvs'->Q (.int (yb p.near left e:Nat)) H'
def zLi (C:Addr) (m:Nat):Sp:=λvs H Q _=>∃(p:RP) (kvs:List (List ze×V)) (left k:Nat),vs=[.ref p.s, .int left, .int k]/\Zr C p H/\yu p H kvs/\left<2^p.n/\left.testBit k=true/\k<p.n/\yE left≤m/\
 ∀(H':Hp) (kvs':List (List ze×V)),Ex (·=p.ow) H H'->yu p H' kvs'->Q (.int ((1+yb p.near (left - 2^k) k:Nat):Int)) H'
def zLp (C:Addr):Sp:=λvs H Q _=>∃(s t a b dx:Addr) (ns ss:List Int),vs=[.ref s, .ref t]/\H s=some (.ins C dx [])/\Zm H t a b ns ss/\
 ∀(nr ow:Addr) (H':Hp),Ex (·=s) H H'->H ow=none->H' s=some (.ins C dx [("ahead", .int ns.length),("near", .ref nr),("whole", .int ((2^ns.length - 1:Nat):Int)),("known", .ref ow)])->
  Ys H' nr ns.length (ZQ ns ss (List.range ns.length))->H' ow=some (.dT [])->Q .non H'
section
variable {f g1 g2 C C0:Addr} {mc:Value} {fd gd1 gd2:FuncData}
theorem zSf:zP ["self","left","place"] ["self","left","place"] (zF sMb):=ZA
theorem zMX {j m:Nat} (F:zm K "most_by" "Reach.most_by" sMb f fd) (T:RcT K C) (mW:ZH K C "most" g1)
  (GW:zH P w K mg base zT j g1 gd1 ["self","left","end"] (zCW C m)) (bW:zL K gd1 ["self","left","end"] []):zH P w K mg base zT (j+1) f fd ["self","left","place"] (zLi C (m+1)):=by
 refine F.ok zSf (λvs H Q E h=>?_) (λcdv A outer s H vs Q E hr h=>?_)
 ·obtain ⟨p,kvs,left,k,rfl,_⟩:=h
  rfl
 obtain ⟨p,kvs,left,k,rfl,S,hd,hl,hb,hk,hc,q⟩:=h;refine ⟨_,(@zG _ _ _ (zR (zZ YG zK (z0 (pv 0) T.cl mW GW hr bW .nil zO (zA (zZ Yz (pv 1) (zZ ju zK (pv 2))) (zA (pv 2) zB)))))),?_⟩;have n10:=S.ok.n10;have hdec:=yQ left (S.lt hl) k (by omega) hb;refine ⟨_,rfl,p.s,p.dx,_,rfl,S.at_,rfl,_,rfl,_,rfl,_,_,rfl,rfl,⟨by show (0:Int)≤(k:Int); omega,by show (k:Int)≤1000000; omega,by decide⟩,_,_,rfl,rfl,_,rfl,?_⟩;refine ⟨p,kvs,left - 2^k,k,congrArg (λx=>[V.ref p.s,V.int x,V.int (k:Int)]) (j7 left k (jL hb)),S,hd,by omega,by omega,by omega,λH' kvs' ex hk'=>⟨_,_,rfl,rfl,?_⟩⟩;have z:=q H' kvs' ex hk';rw [Int.natCast_add] at z;exact z
theorem zPP:zP ["self","left","end","key"] ["self","left","end"] (zF sMs):=ZA
theorem zML {j m:Nat} (F:zm K "most" "Reach.most" sMs f fd) (B:Bt4 mg) (T:RcT K C) (mB:ZH K C "most_by" g1) (mS:ZH K C "steps" g2)
  (GB:zH P w K mg base zT j g1 gd1 ["self","left","place"] (zLi C m)) (bB:zL K gd1 ["self","left","place"] [])
  (GS:zH P w K mg base zT j g2 gd2 ["self","left","end"] (YR C)) (bS:zL K gd2 ["self","left","end"] []):zH P w K mg base zT (j+1) f fd ["self","left","end"] (zCW C m):=by
 refine F.ok zPP (λvs H Q E h=>?_) (λcdv A outer s H vs Q E hr h=>?_)
 ·obtain ⟨p,kvs,left,e,rfl,_⟩:=h
  rfl
 obtain ⟨p,kvs,left,e,rfl,S,hd,hl,hc,he,q⟩:=h;have hu:=zAZ hr;refine ⟨_,(@zE _ _ _ _ _ (za (i:=3) zPP.nd rfl (Or.inl rfl) (yc (zA (pv 1) (zA (pv 2) zB)))) (@zE _ _ _ _ _ (zy (jt (Jh hu (pv 3) (ZB (pv 0) rfl))) (@zG _ _ _ (zBQ hu (ZB (pv 0) rfl) (pv 3) (zNF rfl rfl B.max (Za ["place"] rfl (ZY (zF sMs) ["self","left","end","key"] rfl rfl (by decide +kernel)) (ZM (z0 (pv 0) T.cl mS GS hr bS .nil zO (zA (pv 1) (zA (pv 2) zB)))) (λpins C fp s3 H3=>⟨(zp (i:=0) (show (Zo ["place"] ["self","left","end","key"]).Nodup by decide +kernel) rfl (Or.inl rfl)),Zp,(z0 (pv 1) T.cl mB GB hr bB .nil zO (zA (pv 2) (zA (pv 0) zB)))⟩))) rfl)) zf) (@zG _ _ _ (zR (jd hu (ZB (pv 0) rfl) (pv 3) (λ_ _=>rfl)))))),?_⟩;refine ⟨_,rfl,_,rfl,Z9,λkt hkt=>?_⟩;have gk:zC H (upd H kt (.tup [.int (left:Int), .int (e:Int)])):=zC.new hkt _;have S1:Zr C p (upd H kt (.tup [.int (left:Int), .int (e:Int)])):=S.ex hd.1 (Ex.same gk);have hd1:yu p (upd H kt (.tup [.int (left:Int), .int (e:Int)])) kvs:=⟨gk _ _ hd.1,hd.2⟩;have hk1:(upd H kt (.tup [.int (left:Int), .int (e:Int)])) kt=some (.tup ((ky left e).map kV)):=zD;have ex1:Ex (·=p.ow) H (upd H kt (.tup [.int (left:Int), .int (e:Int)])):=Ex.same gk;generalize upd H kt (.tup [.int (left:Int), .int (e:Int)])=H1 at S1 hd1 hk1 ex1 ⊢;refine ⟨_,rfl,_,rfl,p.s,C,p.dx,_,_,rfl,S1.at_,T.cl,T.nK,rfl,p.ow,_,rfl,YY.t hd1.1 hk1,_,rfl,zq (λc2=>?_) (λc2=>?_)⟩
 ·have hl':=S.lt hl
  have n10:=S.ok.n10;refine ⟨_,rfl,p.s,p.dx,_,rfl,S1.at_,rfl,_,rfl,_,rfl,p.s,p.dx,p.nr,_,p.n,p.near,left,e,rfl,S1.at_,rfl,S1.nr,S1.ok,he,hl',λl H2 g2 hln e2=>⟨l,rfl,⟨_,zQ.of e2⟩,λD hD=>?_⟩⟩;have hd2:yu p H2 kvs:=⟨g2 _ _ hd1.1,hd1.2⟩;have lo:l≠p.ow:=Zc e2 hd2.1 (by intro z; cases z);have Do:p.ow≠D:=zJ hd2.1 hD;have lD:l≠D:=zJ e2 hD;have klen:((p.near e).filter λk=>left.testBit k).length≤10:=qK (QI _ _) (qK (jk S.ok he) n10);obtain ⟨ks,eks⟩:∃ks,ks=(p.near e).filter λk=>left.testBit k:=⟨_,rfl⟩
  have ew:=zJL S.ok hl' he;have hmem:∀k∈ks,k<p.n/\left.testBit k=true:=λk hk=>by
   rw [eks] at hk;obtain ⟨h1,h2⟩:=QD.mp hk;exact ⟨S.ok.lt e he k h1,h2⟩
  rw [<-eks] at e2 klen ew;have kml:((iv ks).map V.int).length=ks.length:=by rw [qA,YE]
  refine yi (n:=ks.length) (λi σ' H'=>∃(x:Option V) (kvs':List (List ze×V)),σ'=[x,some (.ref p.s),some (.int left),some (.int e),some (.ref kt)]/\Ex (·=p.ow) H2 H'/\yu p H' kvs'/\H' D=some (.lst (((ks.take i).map λk=>((1+yb p.near (left - 2^k) k:Nat):Int)).map V.int)))
   ⟨none,kvs,rfl,Ex.new _ hD,⟨by rw [zI Do]; exact hd2.1,hd2.2⟩,zD⟩ ?_ ?_
  ·rintro i σ' H' hi ⟨x,kvs',rfl,ex,hk',hD'⟩
   have ek:ks[i]?=some ks[i]:=qB hi;obtain ⟨hkn,hb⟩:=hmem _ (QF hi);have el2:=ex _ _ lo e2;refine ⟨⟨_,_,zQ.of el2,yy ek⟩,λy H3 hy=>?_⟩;obtain ⟨rfl,hy⟩:=hy;have ey:=hy _ (zQ.of el2);rw [yy ek] at ey;cases ey;refine zAy ?_;have S':Zr C p H3:=(S1.ex hd1.1 (Ex.same g2)).ex hd2.1 ex;refine ⟨_,rfl,p.s,p.dx,_,rfl,S'.at_,rfl,_,rfl,_,rfl,p,kvs',left,ks[i],rfl,S',hk',hl,hb,hkn,hc,λH4 kvs4 ex4 hk4=>?_⟩;have hD4:=ex4 _ _ (Ne.symm Do) hD';refine ⟨_,hD4,ZW (by rw [qA,qA,xG]; omega),_,kvs4,rfl,λc o hc ho=>?_,⟨by rw [zI Do]; exact hk4.1,hk4.2⟩,?_⟩
   ·rw [zI (zJ ho hD)]
    exact ex4 _ _ hc (ex _ _ hc ho)
   ·rw [zD,List.take_add_one,ek,qS,qS]
    rfl
  ·rintro σ' H' ⟨x,kvs',rfl,ex,hk',hD'⟩
   have el2:=ex _ _ lo e2;refine ⟨⟨_,zQ.of el2,by rw [kml]; exact qE _⟩,?_⟩;rw [QO (qE _)] at hD';refine ⟨D,_,rfl,zQ.of hD',?_⟩;have S':Zr C p H':=(S1.ex hd1.1 (Ex.same g2)).ex hd2.1 ex;have hk2:H' kt=some (.tup ((ky left e).map kV)):=ex _ _ (Zc (g2 _ _ hk1) hd2.1 (by intro z; cases z)) (g2 _ _ hk1);have esum:zAb 0 (ks.map λk=>((1+yb p.near (left - 2^k) k:Nat):Int))=((yb p.near left e:Nat):Int):=by
    rw [ew,<-zJP,qU];rfl
   refine ⟨_,rfl,p.s,C,p.dx,_,_,rfl,S'.at_,T.cl,T.nK,rfl,_,rfl,p.ow,_,rfl,zBk.t hk'.1 hk2 (hk'.2.len S.ok.n10),?_⟩;rw [esum];have M3:=hk'.2.put hl he;have ex3:Ex (·=p.ow) H' (upd H' p.ow (.dT (Zj kvs' (ky left e) (.int (yb p.near left e:Nat))))):=Ex.put _ rfl;have S3:=S'.ex hk'.1 ex3;have hk3:=ex3 _ _ (Zc hk2 hk'.1 (by intro z; cases z)) hk2;refine ⟨_,rfl,p.s,C,p.dx,_,_,rfl,S3.at_,T.cl,T.nK,rfl,_,rfl,p.ow,_,rfl,by have z:=YY.t (zD (H:=H') (a:=p.ow) (o:= .dT (Zj kvs' (ky left e) (.int (yb p.near left e:Nat))))) hk3; rw [Y7,if_pos rfl] at z; exact z,?_⟩;exact q _ _ (((ex1.trans (Ex.same g2)).trans ex).trans ex3) ⟨zD,M3⟩
 ·cases ev:ZP kvs (ky left e) with
  | none=>rw [ev] at c2; exact absurd rfl c2
  | some v=>
   have hv:=hd.2.val ev;refine ⟨_,rfl,p.s,C,p.dx,_,_,rfl,S1.at_,T.cl,T.nK,rfl,_,rfl,p.ow,_,rfl,by have z:=YY.t hd1.1 hk1; rw [ev] at z; exact z,?_⟩;rw [hv];exact q _ _ ex1 hd1
theorem zDH {wa wb sf:Addr} {wd wbd sfd:FuncData} (FW:zm K "most" "Reach.most" sMs wa wd) (FB:zm K "most_by" "Reach.most_by" sMb wb wbd) (B:Bt4 mg) (T:RcT K C) (mW:ZH K C "most" wa) (mB:ZH K C "most_by" wb) (mS:ZH K C "steps" sf)
  (GS:zH P w K mg base zT 1 sf sfd ["self","left","end"] (YR C)) (bS:zL K sfd ["self","left","end"] []) (bW:zL K wd ["self","left","end"] []) (bB:zL K wbd ["self","left","place"] []):
  ∀m:Nat,zH P w K mg base zT (2*m+2) wa wd ["self","left","end"] (zCW C m)
 | 0=>zML (j:=1) FW B T mB mS ⟨λvs H Q E h=>by obtain ⟨p,kvs,left,k,rfl,_⟩:=h; rfl,λA outer s H args us vs Q E _ _ _ _ h=>by
   obtain ⟨p,kvs,left,k,_,S,_,hl,hb,hk,hc,_⟩:=h;have n10:=S.ok.n10;have:=(yQ left (S.lt hl) k (by omega) hb).1;omega⟩ bB GS bS
 | m+1=>by
  have GW:=zDH FW FB B T mW mB mS GS bS bW bB m;have GB:=zMX (j:=2*m+2) FB T mW GW bW;exact zML (j:=2*m+3) FW B T mB mS GB bB (GS.mono (by omega)) bS
theorem zQZ:zP ["self","plan"] ["self","plan"] (zF zLD):=ZA
theorem zOT (F:zm K "__init__" "Reach.__init__" zLD f fd) (T:RcT K C) (BI:zHe K C0 mc "__init__" g1) (mI:mg "Steps"=some (.ref C0))
  (GI:zH P w K mg base zT 3 g1 gd1 ["self","plan","first_places"] (zCi C)) (bI:zL K gd1 ["self","plan","first_places"] [])
  (GA:zH P w K mg base zT 3 g2 gd2 ["plan"] zCc) (bA:zL K gd2 ["plan"] []) (kA:ZC K g2) (mA:mg "all_places"=some (.ref g2)):zH P w K mg base zT 4 f fd ["self","plan"] (zLp C):=by
 refine F.ok zQZ (λvs H Q E h=>?_) (λcdv A outer s H vs Q E hr h=>?_)
 ·obtain ⟨s,t,a,b,dx,ns,ss,rfl,_⟩:=h
  rfl
 obtain ⟨s,t,a,b,dx,ns,ss,rfl,hs,pl,q⟩:=h;refine ⟨_,(@zE _ _ _ _ _ (ZI (zCw BI GI hr rfl mI bI .nil zO (zA (pv 0) (zA (pv 1) (zA (zU GA hr rfl mA kA bA .nil zO (zA (pv 1) zB)) zB))))) (@zG _ _ _ (YW (pv 0) zCI rfl))),?_⟩;refine ⟨_,rfl,_,rfl,_,rfl,t,a,b,ns,ss,rfl,pl,λfp hfp=>?_⟩;have g0:zC H (upd H fp (.lst ((iv (List.range ns.length)).map V.int))):=zC.new hfp _;refine ⟨s,t,a,b,fp,dx,ns,ss,List.range ns.length,rfl,g0 _ _ hs,pl.same g0,zD,λnr H1 ex1 s1 na1=>?_⟩;refine λow how=>?_
 have ow_s:ow≠s:=λz=>by rw [z,s1] at how; cases how
 refine ⟨_,rfl,s,C,dx,_,rfl,by rw [zI (Ne.symm ow_s)]; exact s1,T.cl,T.nK,(by show 3<1000; decide),?_⟩;obtain ⟨rs,q1,q2,q3⟩:=na1;have st:∀{c:Addr} {o:HO},c≠s->H1 c=some o->∀{o2},(upd (upd H1 ow (.dT [])) s o2) c=some o:=λ{c o} hc h {o2}=>by
  rw [zI hc,zI (zJ h how)];exact h
 refine q nr ow _ (λc o hc ho=>st hc (ex1 c o hc (g0 _ _ ho))) ?_ ?_ ⟨rs,q1,st (Zc q2 s1 (by intro z; cases z)) q2,λe he=>let ⟨r,r1,r2⟩:=q3 e he; ⟨r,r1,st (Zc r2 s1 (by intro z; cases z)) r2⟩⟩ ?_
 ·cases e:H ow with
  | none=>rfl
  | some o=>rw [ex1 _ _ ow_s (g0 _ _ e)] at how; cases how
 ·rw [zD]
  rfl
 ·rw [zI ow_s,zD]
end
abbrev sLs:Stmt:=ZJ (top 66) 4
abbrev sLp:Stmt:=ZJ (top 66) 5
abbrev zKV:Stmt:=top 67
section
variable (near:Nat->List Nat)
def onM (left e k:Nat):Bool:=decide (1+yb near (left - 2^k) k=yb near left e)
def jj (left e:Nat):Option Nat:=((near e).filter λk=>left.testBit k).find? (onM near left e)
def lpF:Nat->Nat->Nat->List Nat
 | 0,_,_=>[]
 | m+1,left,e=>match jj near left e with
  | none=>[]
  | some k=>k::lpF m (left - 2^k) k
def Jq (left e:Nat):List Nat:=lpF near (yE left) left e
variable {near}
theorem zDA {n left e k:Nat} (N:Zt near n) (he:e≤n) (h:jj near left e=some k):k<n/\left.testBit k=true/\1+yb near (left - 2^k) k=yb near left e:=by
 have h1:=List.mem_of_find?_eq_some h;have h2:onM near left e k=true:=List.find?_some h;obtain ⟨h3,h4⟩:=QD.mp h1;exact ⟨N.lt e he k h3,h4,of_decide_eq_true h2⟩
theorem zNH {n left e:Nat} (N:Zt near n) (hl:left<1024) (he:e≤n) (h0:yb near left e≠0):∃k,jj near left e=some k:=by
 have em:=zJL N hl he;have ne:((near e).filter λk=>left.testBit k).map (λk=>1+yb near (left - 2^k) k)≠[]:=λz=>h0 (by rw [em,z]; rfl)
 obtain ⟨k,hk,ek⟩:=qY.mp (zCq ne);cases h:jj near left e with
 | some k=>exact ⟨k,rfl⟩
 | none=>
  have:=xW.mp h k hk;exact absurd (decide_eq_true (by rw [em]; exact ek)) this
theorem zIR {left e:Nat} (h0:yb near left e=0):jj near left e=none:=by
 refine xW.mpr λk _ h=>?_
 have:1+yb near (left - 2^k) k=yb near left e:=of_decide_eq_true h;omega
theorem zJc {n left e k:Nat} (N:Zt near n) (hl:left<1024) (he:e≤n) (h:jj near left e=some k):Jq near left e=k::Jq near (left - 2^k) k:=by
 obtain ⟨hk,hb,_⟩:=zDA N he h;have n10:=N.n10;have hc:=(yQ left hl k (by omega) hb).1;unfold Jq;rw [<-hc];have:∀m,lpF near (m+1) left e=k::lpF near m (left - 2^k) k:=λm=>by
  show (match jj near left e with | none=>[] | some k=>k::lpF near m (left - 2^k) k)=_;rw [h]
 exact this _
theorem zJy {left e:Nat} (h0:yb near left e=0):Jq near left e=[]:=by
 unfold Jq;cases yE left with
 | zero=>rfl
 | succ m=>
  show (match jj near left e with | none=>[] | some k=>k::lpF near m (left - 2^k) k)=_;rw [zIR h0]
theorem zJu {n:Nat} (N:Zt near n):∀(m left e:Nat),e≤n->(∀k∈lpF near m left e,k<n)/\(lpF near m left e).length≤m
 | 0,_,_,_=>⟨(λ_ h=>nomatch h),qE _⟩
 | m+1,left,e,he=>by
  show (∀k∈(match jj near left e with | none=>[] | some k=>k::lpF near m (left - 2^k) k),k<n)/\(match jj near left e with | none=>[] | some k=>k::lpF near m (left - 2^k) k).length≤m+1;cases h:jj near left e with
  | none=>exact ⟨(λ_ h=>nomatch h),QG _⟩
  | some k=>
   have hk:=(zDA N he h).1;obtain ⟨a,b⟩:=zJu N m (left - 2^k) k (xK hk);refine ⟨λx hx=>?_,by show _+1≤_; omega⟩;rcases qG.mp hx with z | z
   ·rw [z]; exact hk
   ·exact a x z
end
def zOV (C:Addr) (m:Nat):Sp:=λvs H Q _=>∃(p:RP) (kvs:List (List ze×V)) (left e k:Nat),vs=[.ref p.s, .int left, .int e]/\Zr C p H/\yu p H kvs/\left<2^p.n/\yE left≤m/\e≤p.n/\jj p.near left e=some k/\
 ∀(H':Hp) (kvs':List (List ze×V)),Ex (·=p.ow) H H'->yu p H' kvs'->Q (.int (k:Nat)) H'
def zOA (C:Addr):Sp:=λvs H Q _=>∃(p:RP) (kvs:List (List ze×V)),vs=[.ref p.s]/\Zr C p H/\yu p H kvs/\1≤p.n/\
 ∀(l:Addr) (H':Hp),Ex (·=p.ow) H H'->H l=none->H' l=some (.lst ((iv (Jq p.near (2^p.n - 1) p.n)).map V.int))->Q (.ref l) H'
def zEW (ns ss:List Int):List Int:=(Jq (ZQ ns ss (List.range ns.length)) (2^ns.length - 1) ns.length).map λk=>ns.getD k 0
def zLz:Sp:=λvs H Q _=>∃(t a b:Addr) (ns ss:List Int),vs=[.ref t]/\Zm H t a b ns ss/\∀(l:Addr) (H':Hp),zC H H'->H l=none->H' l=some (.lst ((zEW ns ss).map V.int))->Q (.ref l) H'
theorem zEh {ns ss:List Int} (ok:zCb ns ss):Zt (ZQ ns ss (List.range ns.length)) ns.length:=zAB ok (λk hk=>QP.mp hk) xZ
section
variable {f g1 g2 g3 g4 C C0:Addr} {mc:Value} {fd gd1 gd2 gd3 gd4:FuncData}
theorem zOd:zP ["self","left","end","wanted"] ["self","left","end"] (zF sLs):=ZA
theorem zRA {j m:Nat} (F:zm K "longest_step" "Reach.longest_step" sLs f fd) (T:RcT K C) (mW:ZH K C "most" g1) (mB:ZH K C "most_by" g2) (mS:ZH K C "steps" g3)
  (GW:zH P w K mg base zT j g1 gd1 ["self","left","end"] (zCW C m)) (bW:zL K gd1 ["self","left","end"] [])
  (GB:zH P w K mg base zT j g2 gd2 ["self","left","place"] (zLi C m)) (bB:zL K gd2 ["self","left","place"] [])
  (GS:zH P w K mg base zT j g3 gd3 ["self","left","end"] (YR C)) (bS:zL K gd3 ["self","left","end"] []):zH P w K mg base zT (j+1) f fd ["self","left","end"] (zOV C m):=by
 refine F.ok zOd (λvs H Q E h=>?_) (λcdv A outer s H vs Q E hr h=>?_)
 ·obtain ⟨p,kvs,left,e,k,rfl,_⟩:=h
  rfl
 obtain ⟨p,kvs,left,e,k0,rfl,S,hd,hl,hc,he,hk0,q⟩:=h;have n10:=S.ok.n10;have hl':=S.lt hl;refine ⟨_,(@zE _ _ _ _ _ (za (i:=3) zOd.nd rfl (Or.inr rfl) (z0 (pv 0) T.cl mW GW hr bW .nil zO (zA (pv 1) (zA (pv 2) zB)))) (@zG _ _ _ (zR (zu ZE (Za ["place"] rfl (ZY (zF sLs) ["self","left","end","wanted"] rfl rfl (by decide +kernel)) (ZM (z0 (pv 0) T.cl mS GS hr bS .nil zO (zA (pv 1) (zA (pv 2) zB)))) (λpins C fp s3 H3=>⟨(zp (i:=0) (show (Zo ["place"] ["self","left","end","wanted"]).Nodup by decide +kernel) rfl (Or.inl rfl)),(Ye (zh ye (z0 (pv 1) T.cl mB GB hr bB .nil zO (zA (pv 2) (zA (pv 0) zB))) (pv 4) (zk _))),(pv 0)⟩)) zK (λ_ _=>rfl))))),?_⟩;refine ⟨_,rfl,p.s,p.dx,_,rfl,S.at_,rfl,_,rfl,_,rfl,p,kvs,left,e,rfl,S,hd,hl,hc,he,λH1 kvs1 ex1 hd1=>?_⟩;have S1:=S.ex hd.1 ex1;refine ⟨_,rfl,p.s,p.dx,_,rfl,S1.at_,rfl,_,rfl,_,rfl,p.s,p.dx,p.nr,_,p.n,p.near,left,e,rfl,S1.at_,rfl,S1.nr,S1.ok,he,hl',λl H2 g2 hln e2=>⟨l,rfl,⟨_,zQ.of e2⟩,λD hD=>?_⟩⟩;have hd2:yu p H2 kvs1:=⟨g2 _ _ hd1.1,hd1.2⟩;have lo:l≠p.ow:=Zc e2 hd2.1 (by intro z; cases z);have Do:p.ow≠D:=zJ hd2.1 hD;have klen:((p.near e).filter λk=>left.testBit k).length≤10:=qK (QI _ _) (qK (jk S.ok he) n10);unfold jj at hk0;obtain ⟨ks,eks⟩:∃ks,ks=(p.near e).filter λk=>left.testBit k:=⟨_,rfl⟩
 have hmem:∀k∈ks,k<p.n/\left.testBit k=true:=λk hk=>by
  rw [eks] at hk;obtain ⟨h1,h2⟩:=QD.mp hk;exact ⟨S.ok.lt e he k h1,h2⟩
 rw [<-eks] at e2 klen hk0;have kml:((iv ks).map V.int).length=ks.length:=by rw [qA,YE]
 refine yi (n:=ks.length) (λi σ' H'=>∃(x:Option V) (kvs':List (List ze×V)),σ'=[x,some (.ref p.s),some (.int left),some (.int e),some (.int (yb p.near left e:Nat))]/\Ex (·=p.ow) H2 H'/\yu p H' kvs'/\H' D=some (.lst ((iv ((ks.take i).filter (onM p.near left e))).map V.int)))
  ⟨none,kvs1,rfl,Ex.new _ hD,⟨by rw [zI Do]; exact hd2.1,hd2.2⟩,zD⟩ ?_ ?_
 ·rintro i σ' H' hi ⟨x,kvs',rfl,ex,hk',hD'⟩
  have ek:ks[i]?=some ks[i]:=qB hi;obtain ⟨hkn,hb⟩:=hmem _ (QF hi);have el2:=ex _ _ lo e2;refine ⟨⟨_,_,zQ.of el2,yy ek⟩,λy H3 hy=>?_⟩;obtain ⟨rfl,hy⟩:=hy;have ey:=hy _ (zQ.of el2);rw [yy ek] at ey;cases ey;have S':Zr C p H3:=(S1.ex hd1.1 (Ex.same g2)).ex hd2.1 ex;refine ⟨_,rfl,p.s,p.dx,_,rfl,S'.at_,rfl,_,rfl,_,rfl,p,kvs',left,ks[i],rfl,S',hk',hl,hb,hkn,hc,λH4 kvs4 ex4 hk4=>?_⟩;have hD4:=ex4 _ _ (Ne.symm Do) hD';have ec:decide (V.int ((1+yb p.near (left - 2^ks[i]) ks[i]:Nat):Int)=V.int ((yb p.near left e:Nat):Int))=onM p.near left e ks[i]:=by
   unfold onM;exact decide_eq_decide.mpr ⟨λz=>by have:=V.int.inj z; omega,λz=>by rw [z]⟩
  refine ⟨_,rfl,rfl,_,rfl,?_⟩;rw [ec];have tk:ks.take (i+1)=ks.take i++[ks[i]]:=by rw [List.take_add_one,ek]; rfl
  refine zq (λc=>?_) (λc=>?_)
  ·refine ⟨_,rfl,_,hD4,ZW (by rw [qA,YE]; have:=QI (onM p.near left e) (ks.take i); rw [xG] at this; omega),_,kvs4,rfl,λc o hc ho=>?_,⟨by rw [zI Do]; exact hk4.1,hk4.2⟩,?_⟩
   ·rw [zI (zJ ho hD)]
    exact ex4 _ _ hc (ex _ _ hc ho)
   ·rw [zD,tk,xV,QU,if_pos c,List.filter_nil,Yo,Yo,qS]
    rfl
  ·refine ⟨_,kvs4,rfl,ex.trans ex4,hk4,?_⟩
   rw [tk,xV,QU,if_neg c,List.filter_nil,xB];exact hD4
 ·rintro σ' H' ⟨x,kvs',rfl,ex,hk',hD'⟩
  have el2:=ex _ _ lo e2;refine ⟨⟨_,zQ.of el2,by rw [kml]; exact qE _⟩,?_⟩;rw [QO (qE _)] at hD';refine ⟨D,_,0, .int (k0:Nat),rfl,rfl,zQ.of hD',?_,q _ _ ((ex1.trans (Ex.same g2)).trans ex) hk'⟩;have hh:(ks.filter (onM p.near left e))[0]?=some k0:=by rw [<-List.head?_eq_getElem?,List.head?_filter]; exact hk0
  exact Z2 (j:=0) (yy hh)
theorem zCp:zP ["self","places","left","end"] ["self"] (zF sLp):=ZA
theorem zRJ (F:zm K "longest_places" "Reach.longest_places" sLp f fd) (T:RcT K C) (mW:ZH K C "most" g1) (mL:ZH K C "longest_step" g2)
  (GW:zH P w K mg base zT 24 g1 gd1 ["self","left","end"] (zCW C 10)) (bW:zL K gd1 ["self","left","end"] [])
  (GL:zH P w K mg base zT 24 g2 gd2 ["self","left","end"] (zOV C 10)) (bL:zL K gd2 ["self","left","end"] []):zH P w K mg base zT 25 f fd ["self"] (zOA C):=by
 refine F.ok zCp (λvs H Q E h=>?_) (λcdv A outer s H vs Q E hr h=>?_)
 ·obtain ⟨p,kvs,rfl,_⟩:=h
  rfl
 obtain ⟨p,kvs,rfl,S,hd,n1,q⟩:=h;refine ⟨_,(@zE _ _ _ _ _ (za (i:=1) zCp.nd rfl (Or.inl rfl) (ZG zB)) (@zE _ _ _ _ _ (za (i:=2) zCp.nd rfl (Or.inl rfl) (ZB (pv 0) rfl)) (@zE _ _ _ _ _ (za (i:=3) zCp.nd rfl (Or.inl rfl) (ZB (pv 0) rfl)) (@zE _ _ _ _ _ (JQ PassesOwn.never (zh zLm (z0 (pv 0) T.cl mW GW hr bW .nil zO (zA (pv 2) (zA (pv 3) zB))) zK (zk _)) (@zE _ _ _ _ _ (za (i:=3) zCp.nd rfl (Or.inl rfl) (z0 (pv 0) T.cl mL GL hr bL .nil zO (zA (pv 2) (zA (pv 3) zB)))) (@zE _ _ _ _ _ (ZI (yB QK QW QX yk (pv 1) (zA (pv 3) zB))) (@zG _ _ _ (za (i:=2) zCp.nd rfl (Or.inl rfl) (zZ Yz (pv 2) (zZ ju zK (pv 3)))))))) (@zG _ _ _ (zR (pv 1))))))),?_⟩;refine ⟨by decide,λl hln=>?_⟩;have g1:zC H (upd H l (.lst [])):=zC.new hln _;have lo:l≠p.ow:=λz=>by rw [z,hd.1] at hln; cases hln
 refine ⟨_,rfl,p.s,C,p.dx,fsR p,_,rfl,g1 _ _ S.at_,T.cl,T.nW,rfl,_,rfl,p.s,C,p.dx,fsR p,_,rfl,g1 _ _ S.at_,T.cl,T.nA,rfl,?_⟩;have hp2:2^p.n - 1<2^p.n:=Nat.sub_lt (Nat.two_pow_pos _) (by decide);have S1:=S.ex hd.1 (Ex.same g1);have hd1:yu p (upd H l (.lst [])) kvs:=⟨g1 _ _ hd.1,hd.2⟩;dsimp only [Zi,jK];refine jx (λσ H'=>∃(pre:List Nat) (left e:Nat) (kvs':List (List ze×V)),σ=[some (.ref p.s),some (.ref l),some (.int left),some (.int e)]/\Ex (λb=>b=p.ow\/b=l) (upd H l (.lst [])) H'/\H' l=some (.lst ((iv pre).map V.int))/\Zr C p H'/\yu p H' kvs'/\left<2^p.n/\e≤p.n/\pre.length+yE left≤10/\
   pre++Jq p.near left e=Jq p.near (2^p.n - 1) p.n)
  (λσ _=>zBC 2 σ) ⟨[],2^p.n - 1,p.n,kvs,rfl,Ex.refl,zD,S1,hd1,hp2,qE _,by have:=YQ _ (S.lt hp2); simpa using this,rfl⟩ ?_
 rintro σ H' ⟨pre,left,e,kvs',rfl,ex,hl,S',hk',hlt,he,hlen,hpath⟩;have hl':=S.lt hlt;refine ⟨_,rfl,p.s,p.dx,_,rfl,S'.at_,rfl,_,rfl,_,rfl,p,kvs',left,e,rfl,S',hk',hlt,YQ _ hl',he,λH2 kvs2 ex2 hk2=>⟨_,_,rfl,rfl,_,rfl,?_⟩⟩;have S2:=S'.ex hk'.1 ex2;have hl2:=ex2 _ _ lo hl;have exa:Ex (λb=>b=p.ow\/b=l) (upd H l (.lst [])) H2:=ex.trans (ex2.wide λb z=> .inl z);refine zq (λc=>?_) (λc=>?_)
 ·have h0:yb p.near left e≠0:=λz=>by rw [z] at c; exact absurd c (by decide)
  obtain ⟨k,ek⟩:=zNH S.ok hl' he h0;obtain ⟨hkn,hb,_⟩:=zDA S.ok he ek;have n10:=S.ok.n10;have hdec:=yQ left hl' k (by omega) hb;refine J7 (H:=H') (μ:=λσ _=>zBC 2 σ) ?_;refine ⟨_,rfl,p.s,p.dx,_,rfl,S2.at_,rfl,_,rfl,_,rfl,p,kvs2,left,e,k,rfl,S2,hk2,hlt,YQ _ hl',he,ek,λH3 kvs3 ex3 hk3=>?_⟩;have hl3:=ex3 _ _ lo hl2;have S3:=S2.ex hk2.1 ex3;refine ⟨_,rfl, .inl ⟨rfl,_,zQ.of hl3⟩,_,rfl,l,_,_,rfl,rfl,hl3,ZW (by rw [qA,YE]; omega),?_⟩;refine ⟨_,rfl,_,rfl,_,_,rfl,rfl,⟨by show (0:Int)≤(k:Int); omega,by show (k:Int)≤1000000; omega,by decide⟩,_,_,rfl,rfl,?_⟩;have st:∀{b:Addr} {o u:HO},H3 b=some o->(∀xs,o≠ .lst xs)->upd H3 l u b=some o:=λ{b o u} h nl=>by
   rw [zI (Zc h hl3 (nl _))]; exact h
  refine ⟨⟨pre++[k],left - 2^k,k,kvs3,?_,(exa.trans (ex3.wide λb z=> .inl z)).trans (Ex.put _ (.inr rfl)),?_,?_,⟨st hk3.1 (λ_ z=>by cases z),hk3.2⟩,by omega,by omega,?_,?_⟩,?_⟩
  ·rw [<-j7 left k (jL hb)]
   rfl
  ·rw [zD,Yo,Yo,qS]
   rfl
  ·obtain ⟨rs,q1,q2,q3⟩:=S.nr
   have keep:∀{b:Addr} {o:HO},H b=some o->b≠p.ow->∀{u},upd H3 l u b=some o:=λ{b o} h nb {u}=>by
    have nbl:b≠l:=zJ h hln;rw [zI nbl];exact ex3 _ _ nb (exa _ _ (λz=>z.elim nb nbl) (g1 _ _ h))
   have now:∀{b:Addr} {o:HO},H b=some o->(∀kvs,o≠ .dT kvs)->b≠p.ow:=λ{b o} h nd z=>nd kvs (by rw [z,hd.1] at h; exact (Option.some.inj h).symm)
   exact ⟨keep S.at_ (now S.at_ (λ_ z=>by cases z)),⟨rs,q1,keep q2 (now q2 (λ_ z=>by cases z)),λe he=>let ⟨r,r1,r2⟩:=q3 e he; ⟨r,r1,keep r2 (now r2 (λ_ z=>by cases z))⟩⟩,S.ok⟩
  ·rw [qI]
   show pre.length+1+yE (left - 2^k)≤10;omega
  ·rw [<-hpath,zJc S.ok hl' he ek,xS]
   rfl
  ·show ((left:Int) - 1*2^((k:Int)).toNat).toNat<((left:Int)).toNat
   rw [j7 left k (jL hb)];omega
 ·have h0:yb p.near left e=0:=by
   rcases Nat.eq_zero_or_pos (yb p.near left e) with z | z
   ·exact z
   ·exact absurd (decide_eq_true (by omega:((yb p.near left e:Nat):Int) > 0)) c
  rw [zJy h0,xB] at hpath;rw [hpath] at hl2;refine ⟨_,rfl,q l H2 (λb o hb' ho=>?_) hln hl2⟩;have nbl:b≠l:=zJ ho hln;exact exa _ _ (λz=>z.elim hb' nbl) (g1 _ _ ho)
theorem zQj:zP ["plan"] ["plan"] (zF zKV):=ZA
theorem zPH (F:zm K "longest_part" "longest_part" zKV f fd) (T:RcT K C) (mW:ZH K C "longest_places" g1) (MT:Mk K C g3) (mT:mg "Reach"=some (.ref C))
  (GI:zH P w K mg base zT 24 g3 gd3 ["self","plan"] (zLp C)) (bI:zL K gd3 ["self","plan"] [])
  (GW:zH P w K mg base zT 25 g1 gd1 ["self"] (zOA C)) (bW:zL K gd1 ["self"] [])
  (GC:zH P w K mg base zT 25 g2 gd2 ["plan"] jF) (bC:zL K gd2 ["plan"] []) (kC:ZC K g2) (mC:mg "check_plan"=some (.ref g2))
  (GN:zH P w K mg base zT 25 g4 gd4 ["plan","places"] zCg) (bN:zL K gd4 ["plan","places"] []) (kN:ZC K g4) (mN:mg "numbers_at"=some (.ref g4)):zH P w K mg base zT 26 f fd ["plan"] zLz:=by
 refine F.ok zQj (λvs H Q E h=>?_) (λcdv A outer s H vs Q E hr h=>?_)
 ·obtain ⟨t,a,b,ns,ss,rfl,_⟩:=h
  rfl
 obtain ⟨t,a,b,ns,ss,rfl,pl,q⟩:=h;refine ⟨_,(@zE _ _ _ _ _ (ZI (zU GC hr rfl mC kC bC .nil zO (zA (pv 0) zB))) (@zG _ _ _ (zR (zU GN hr rfl mN kN bN .nil zO (zA (pv 0) (zA (YJ (Jy MT GI hr rfl mT bI .nil zO (zA (pv 0) zB)) T.cl mW GW hr bW .nil zO) zB)))))),?_⟩;refine ⟨_,rfl,t,a,b,ns,ss,rfl,pl,?_⟩;refine ⟨_,rfl,_,rfl,λx dx nx ndx nex=>?_⟩;have g3:zC H (upd (upd H dx (.own x)) x (.ins C dx [])):=λc o hc=>by
  rw [zI (zJ hc nx),zI (zJ hc ndx)]; exact hc
 refine ⟨x,t,a,b,dx,ns,ss,rfl,zD,pl.same g3,λnr ow H3 ex3 how s3 na3 ow3=>⟨rfl,?_⟩⟩;have how':H ow=none:=zt g3 how;have g4:zC H H3:=λc o hc=>ex3 c o (zJ hc nx) (g3 _ _ hc)
 have S3:Zr C ⟨ns.length,ZQ ns ss (List.range ns.length),x,dx,nr,ow⟩ H3:=⟨s3,na3,zEh pl.ok⟩;refine ⟨x,dx,_,rfl,S3.at_,rfl,⟨ns.length,ZQ ns ss (List.range ns.length),x,dx,nr,ow⟩,[],rfl,S3,⟨ow3,zJJ⟩,pl.ok.n1,λl H4 ex4 hl4 el4=>?_⟩;have g5:zC H H4:=λc o hc=>ex4 c o (zJ hc how') (g4 _ _ hc)
 obtain ⟨lt,len⟩:=zJu (zEh pl.ok) (yE (2^ns.length - 1)) (2^ns.length - 1) ns.length (qE _);have c10:=YQ _ (S3.lt (left:=2^ns.length - 1) (Nat.sub_lt (Nat.two_pow_pos _) (by decide)));refine ⟨t,a,b,l,ns,ss,Jq (ZQ ns ss (List.range ns.length)) (2^ns.length - 1) ns.length,rfl,pl.same g5,el4,qK len (qK c10 (by decide)),lt,?_⟩;intro l2 H6 g6 hl6 e6;exact q l2 H6 (g5.trans g6) (zt g5 hl6) e6
end
end Rh
namespace Ct
theorem zAT:∀{xs ys:List Int},xs.Pairwise (·<·)->ys.Pairwise (·<·)->(∀z,z∈xs↔z∈ys)->xs=ys
 | [],[],_,_,_=>rfl
 | [],y::_,_,_,h=>nomatch (h y).mpr qD
 | x::_,[],_,_,h=>nomatch (h x).mp qD
 | x::xs,y::ys,hx,hy,h=>by
  rw [QT] at hx hy;have e:x=y:=by
   rcases qG.mp ((h x).mp qD) with z | z
   ·exact z
   ·rcases qG.mp ((h y).mpr qD) with z' | z'
    ·exact z'.symm
    ·have:=hx.1 y z'
     have:=hy.1 x z;omega
  subst e;have:xs=ys:=zAT hx.2 hy.2 λz=>by
   constructor
   ·intro hz
    rcases qG.mp ((h z).mp (qF _ hz)) with e | q
    ·have:=hx.1 z hz; omega
    ·exact q
   ·intro hz
    rcases qG.mp ((h z).mpr (qF _ hz)) with e | q
    ·have:=hy.1 z hz; omega
    ·exact q
  rw [this]
inductive Zr (ss L:List Int):Int->Int->Prop where
 | here {x:Int}:x∈L->Zr ss L x x
 | on {x y z:Int}:Zr ss L x y->z∈L->y7 ss y z=true->Zr ss L x z
theorem Zr.r {ss L:List Int} {x y:Int} (h:Zr ss L x y):y∈L:=by cases h <;> assumption
theorem Zr.l {ss L:List Int} {x y:Int} (h:Zr ss L x y):x∈L:=by
 induction h with
 | here h=>exact h
 | on _ _ _ ih=>exact ih
theorem Zr.trans {ss L:List Int} {x y z:Int} (h:Zr ss L x y) (g:Zr ss L y z):Zr ss L x z:=by
 induction g with
 | here _=>exact h
 | on _ m a ih=>exact .on ih m a
theorem Zr.symm {ss L:List Int} {x y:Int} (h:Zr ss L x y):Zr ss L y x:=by
 induction h with
 | here h=>exact .here h
 | on g m a ih=>exact (Zr.on (.here m) g.r (by rw [j6]; exact a)).trans ih
theorem Zr.mono {ss L L':List Int} (hL:∀x∈L,x∈L') {x y:Int} (h:Zr ss L x y):Zr ss L' x y:=by
 induction h with
 | here h=>exact .here (hL _ h)
 | on _ m a ih=>exact .on ih (hL _ m) a
theorem Zr.stay {ss L:List Int} {S:Int->Prop} (cl:∀a b,S a->b∈L->y7 ss a b=true->S b) {x y:Int} (h:Zr ss L x y) (hx:S x):S y:=by
 induction h with
 | here _=>exact hx
 | on _ m a ih=>exact cl _ _ ih m a
theorem Zr.sub {ss L M:List Int} (cl:∀a b,a∈M->b∈L->y7 ss a b=true->b∈M) {x y:Int} (hx:x∈M) (h:Zr ss L x y):Zr ss M x y:=by
 induction h with
 | here _=>exact .here hx
 | on g m a ih=>exact .on ih (cl _ _ ih.r m a) a
def jc (ss L p:List Int):Prop:=p.Pairwise (·<·)/\∃x∈p,∀y,y∈p↔Zr ss L x y
theorem jc.all {ss L p:List Int} (h:jc ss L p) {x:Int} (hx:x∈p):∀y,y∈p↔Zr ss L x y:=by
 obtain ⟨_,z,_,hz⟩:=h;intro y;have a:=(hz x).mp hx;exact ⟨λh=>a.symm.trans ((hz y).mp h),λh=>(hz y).mpr (a.trans h)⟩
theorem jc.eq {ss L p q:List Int} (hp:jc ss L p) (hq:jc ss L q) {x:Int} (h1:x∈p) (h2:x∈q):p=q:=zAT hp.1 hq.1 λz=>(hp.all h1 z).trans (hq.all h2 z).symm
theorem jc.hd {ss L p:List Int} (h:jc ss L p):p.headD 0∈p:=by
 obtain ⟨_,x,hx,_⟩:=h;cases p with
 | nil=>cases hx
 | cons a r=>exact qD
structure JE (ss L:List Int) (ps:List (List Int)):Prop where
 each:∀p∈ps,jc ss L p
 cover:∀x∈L,∃p∈ps,x∈p
 up:(ps.map λp=>p.headD 0).Pairwise (·<·)
theorem JE.uniq {ss L:List Int} {ps qs:List (List Int)} (h:JE ss L ps) (g:JE ss L qs):ps=qs:=by
 have one:∀{ps qs:List (List Int)},JE ss L ps->JE ss L qs->∀p∈ps,p∈qs:=λ{ps qs} h g p hp=>by
  have c:=h.each p hp;have m:=((c.all c.hd _).mp c.hd).l;obtain ⟨q,hq,hx⟩:=g.cover _ m;rw [c.eq (g.each q hq) c.hd hx];exact hq
 have em:(ps.map λp=>p.headD 0)=(qs.map λp=>p.headD 0):=zAT h.up g.up λz=>by
  rw [qY,qY];exact ⟨λ⟨p,a,b⟩=>⟨p,one h g p a,b⟩,λ⟨p,a,b⟩=>⟨p,one g h p a,b⟩⟩
 have el:ps.length=qs.length:=by
  have:=congrArg List.length em
  rwa [qA,qA] at this
 refine List.ext_getElem el λi h1 h2=>?_
 have ei:ps[i].headD 0=qs[i].headD 0:=by
  have:=congrArg (λl:List Int=>l[i]?) em;simp only [qR,qB h1,qB h2,XF] at this;exact Option.some.inj this
 exact (h.each _ (QF h1)).eq (g.each _ (QF h2)) (h.each _ (QF h1)).hd (ei▸(g.each _ (QF h2)).hd)
theorem jc.sub {ss L p:List Int} (h:jc ss L p) {x:Int} (hx:x∈p):x∈L:=((h.all hx x).mp hx).l
abbrev zHx:Stmt:=top 50
abbrev zHQ:Stmt:=top 51
abbrev zHk:Stmt:=top 52
abbrev sPw:Stmt:=top 53
abbrev sPb:Stmt:=top 54
def zCf:PyData->List Int
 | .list ds=>ds.filterMap λd=>match d with | .int n=>some n | _=>none
 | _=>[]
theorem j0 {H:Hp}:∀{xs:List V} {ds:List PyData} {b:Int},ZK H xs ds->Zh b ds=true->∃ns:List Int,xs=ns.map V.int/\ds=ns.map PyData.int/\ns.Pairwise (·<·)/\∀x∈ns,b<x
 | _,_,_, .nil,_=>⟨[],rfl,rfl,List.Pairwise.nil,λx hx=>nomatch hx⟩
 | _,_,b, .cons (d:=d) (ds:=ds) h t,e=>by
  cases h with
  | int n=>
   change (decide (b<n)&&Zh n ds)=true at e
   rw [qM,decide_eq_true_eq] at e;obtain ⟨ns,rfl,rfl,up,lo⟩:=j0 t e.2;refine ⟨n::ns,rfl,rfl,QT.mpr ⟨lo,up⟩,λx hx=>?_⟩;rcases qG.mp hx with z | z
   ·rw [z]; exact e.1
   ·have:=lo x z; omega
  | _=>cases e
theorem jR {H:Hp} {v:V} {d:PyData} {few:Int} (hd:yD H v d) (e:yp few d=true):∃(a:Addr) (ns:List Int),v= .ref a/\H a=some (.lst (ns.map V.int))/\d= .list (ns.map PyData.int)/\zAd ns/\few≤(ns.length:Int)/\ns.length≤10:=by
 cases hd with
 | lst ha hx=>
  rename_i a xs ds
  change (decide (few≤(ds.length:Int))&&(decide (ds.length≤10)&&Zh (-1) ds))=true at e
  rw [qM,qM,decide_eq_true_eq,decide_eq_true_eq] at e;obtain ⟨ns,rfl,rfl,up,lo⟩:=j0 hx e.2.2;rw [qA] at e;exact ⟨a,ns,rfl,ha,rfl,⟨up,λx hx=>by have:=lo x hx; omega⟩,e.1,e.2.1⟩
 | _=>cases e
theorem Jv (ns:List Int):zCf (.list (ns.map PyData.int))=ns:=by
 induction ns with
 | nil=>rfl
 | cons n r ih=>exact congrArg (n::·) ih
def zAL (ns:List Int) (d:PyData):Bool:=yp 0 d&&(decide ((zCf d).length<ns.length)&&(zCf d).all λx=>ns.contains x)
theorem zAt {ns cs:List Int} (r:yp 0 (.list (cs.map PyData.int))=true):zAL ns (.list (cs.map PyData.int))=(decide (cs.length<ns.length)&&cs.all λx=>ns.contains x):=by
 unfold zAL;rw [r,Jv,QL]
theorem zJw {H:Hp} {v:V} {d:PyData} {ns:List Int} (hd:yD H v d) (e:zAL ns d=true):∃(p:Addr) (cs:List Int),v= .ref p/\H p=some (.lst (cs.map V.int))/\d= .list (cs.map PyData.int)/\zAd cs/\cs.length≤10/\cs.length<ns.length/\∀x∈cs,x∈ns:=by
 have e0:=e;unfold zAL at e;rw [qM] at e;obtain ⟨p,cs,rfl,hp,rfl,ri,_,l10⟩:=jR hd e.1;rw [zAt e.1,qM,decide_eq_true_eq,QM] at e0;exact ⟨p,cs,rfl,hp,rfl,ri,l10,e0.1,λx hx=>qX.mp (e0.2 x hx)⟩
theorem zNu {ns cs:List Int} (r:zAd cs) (l10:cs.length≤10) (l:cs.length<ns.length) (sub:∀x∈cs,x∈ns):zAL ns (.list (cs.map PyData.int))=true:=by
 rw [zAt (zDJ r (by omega) l10),decide_eq_true l,QL,QM];exact λx hx=>qX.mpr (sub x hx)
def zBh (ss ps:List Int) (x:Int):Bool:=ps.contains x||ps.any λo=>y7 ss o x
def wid (ss ps L:List Int):List Int:=L.filter (zBh ss ps)
def zIh:Sp:=λvs H Q _=>∃(t a b:Addr) (ns ss:List Int) (v:V) (d:PyData),vs=[.ref t,v]/\Zm H t a b ns ss/\yD H v d/\∀H',zC H H'->Q (.bl (zAL ns d)) H'
def zMS:Sp:=λvs H Q _=>∃(t a b p:Addr) (ns ss ps:List Int) (x:Int),vs=[.ref t, .ref p, .int x]/\Zm H t a b ns ss/\H p=some (.lst (ps.map V.int))/\ps.length≤10/\∀H',zC H H'->Q (.bl (zBh ss ps x)) H'
def zLy:Sp:=λvs H Q _=>∃(t a b p l:Addr) (ns ss ps L:List Int),vs=[.ref t, .ref p, .ref l]/\Zm H t a b ns ss/\H p=some (.lst (ps.map V.int))/\ps.length≤10/\H l=some (.lst (L.map V.int))/\L.length≤10/\∀(o:Addr) (H':Hp),zC H H'->H o=none->H' o=some (.lst ((wid ss ps L).map V.int))->Q (.ref o) H'
def zPh:Sp:=λvs H Q _=>∃(t a b l:Addr) (ns ss L:List Int) (x:Int),vs=[.ref t, .int x, .ref l]/\Zm H t a b ns ss/\H l=some (.lst (L.map V.int))/\L.Pairwise (·<·)/\L.length≤10/\x∈L/\
 ∀(o:Addr) (r:List Int) (H':Hp),zC H H'->H o=none->H' o=some (.lst (r.map V.int))->r.Pairwise (·<·)->(∀y,y∈r↔Zr ss L x y)->Q (.ref o) H'
def zEm:Sp:=λvs H Q _=>∃(t a b p:Addr) (ns ss cs:List Int),vs=[.ref t, .ref p]/\Zm H t a b ns ss/\H p=some (.lst (cs.map V.int))/\cs.length≤10/\
 ∀(l:Addr) (as:List Addr) (rs:List (List Int)) (H':Hp),zC H H'->H l=none->(∀a∈as,H a=none)->as.Nodup->l∉as->H' l=some (.lst (as.map V.ref))->ZO H' as rs->JE ss (ns.filter λx=> !cs.contains x) rs->Q (.ref l) H'
section
variable {f g1 g2 g3:Addr} {fd gd1 gd2 gd3:FuncData}
theorem zRq:zP ["plan","thing"] ["plan","thing"] (zF zHx):=ZA
theorem zNs (F:zm K "is_cut" "is_cut" zHx f fd) (B:Bt4 mg)
  (GI:zH P w K mg base zT 2 g1 gd1 ["thing","fewest"] zDD) (bI:zL K gd1 ["thing","fewest"] []) (kI:ZC K g1) (mI:mg "is_rising_list"=some (.ref g1)):zH P w K mg base zT 3 f fd ["plan","thing"] zIh:=by
 refine F.ok zRq (λvs H Q E h=>?_) (λcdv A outer s H vs Q E hr h=>?_)
 ·obtain ⟨t,a,b,ns,ss,v,d,rfl,_⟩:=h
  rfl
 obtain ⟨t,a,b,ns,ss,v,d,rfl,pl,hd,q⟩:=h;refine ⟨_,(@zE _ _ _ _ _ (zy (PW.pt (Yd (Zn (Zf (zU GI hr rfl mI kI bI .nil zO (zA (pv 1) (zA zK zB))))) (YC (zh zCN (zY ZD rfl B.len QB (zA (pv 1) zB)) (zY ZD rfl B.len QB (zA (zu Z3 (pv 0) zK (λ_ _=>rfl)) zB)) (zk _))))) (@zG _ _ _ (zR yW)) zf) (@zG _ _ _ (zR (zY (jv rfl) rfl B.all boot_all (zA (Za ["number"] rfl (ZY (zF zHx) ["plan","thing"] rfl rfl (by decide +kernel)) (ZM (pv 1)) (λpins C fp s3 H3=>⟨(zp (i:=0) (show (Zo ["number"] ["plan","thing"]).Nodup by decide +kernel) rfl (Or.inl rfl)),Zp,(Z4 (J3 K) (pv 0) (zu (zGO K) (pv 1) zK (λ_ _=>rfl)) rfl)⟩)) zB))))),?_⟩;refine ⟨_,rfl,v,d,0,rfl,hd,_,rfl,?_⟩;cases cr:yp 0 d with
 | false=>
  have e:zAL ns d=false:=by unfold zAL; rw [cr,QH]
  rw [e] at q;exact yA (yA (q _ zC.rfl'))
 | true=>
  refine yF ?_;obtain ⟨p,cs,rfl,hp,rfl,ri,_,c10⟩:=jR hd cr;rw [zAt cr] at q;have nml:(ns.map V.int).length=ns.length:=qA _;have cml:(cs.map V.int).length=cs.length:=qA _;refine ⟨_,rfl,p,_,rfl, .inl (zQ.of hp),_,rfl,t,_,0,_,rfl,rfl,Zd.of pl.t,rfl,a,_,rfl, .inl (zQ.of pl.a),_,_,rfl,rfl,_,rfl,zq (λc=>?_) (λc=>?_)⟩
  ·have h1:=of_decide_eq_true c
   rw [nml,cml] at h1;have e:decide (cs.length<ns.length)=false:=decide_eq_false (by omega);rw [e,QH] at q;exact q _ zC.rfl'
  ·have h1:¬(((ns.map V.int).length:Nat):Int)≤((cs.map V.int).length:Nat):=λz=>c (decide_eq_true z)
   rw [nml,cml] at h1;have e:decide (cs.length<ns.length)=true:=decide_eq_true (by omega);rw [e,QL] at q;refine ⟨_,rfl,p,rfl,⟨_,zQ.of hp⟩,λD hD=>?_⟩;refine jS (L:=cs) (σ:=[some (.ref t),some (.ref p)]) (λ_=>true) (λx=> .bl (ns.contains x)) (zQ.of hp) hD (by omega) (λx H' hx g=>Z0) (λx H' hx _ g P hP=>?_) λH2 g2 e2=>?_
   ·refine ⟨_,rfl,_,rfl,t,_,0,_,rfl,rfl,Zd.of (g _ _ pl.t),rfl,a,x,ns,rfl,rfl,zQ.of (g _ _ pl.a),?_⟩
    exact hP _ zC.rfl'
   ·refine ⟨D,cs.map λx=>ns.contains x,rfl,zQ.of (by rw [e2,Y3,qU]; rfl),?_⟩
    have ea:(cs.map λx=>ns.contains x).all id=cs.all λx=>ns.contains x:=by
     rw [List.all_map];rfl
    rw [ea];exact q _ g2
theorem zRU:zP ["plan","part","number"] ["plan","part","number"] (zF zHQ):=ZA
theorem zQE (F:zm K "belongs_to" "belongs_to" zHQ f fd) (zany:mg "any"=none)
  (GA:zH P w K mg base zT 1 g1 gd1 ["plan","one","other"] zHX) (bA:zL K gd1 ["plan","one","other"] []) (kA:ZC K g1) (mA:mg "add_up"=some (.ref g1)):zH P w K mg base zT 2 f fd ["plan","part","number"] zMS:=by
 refine F.ok zRU (λvs H Q E h=>?_) (λcdv A outer s H vs Q E hr h=>?_)
 ·obtain ⟨t,a,b,p,ns,ss,ps,x,rfl,_⟩:=h
  rfl
 obtain ⟨t,a,b,p,ns,ss,ps,x,rfl,pl,hp,p10,q⟩:=h;refine ⟨_,(@zG _ _ _ (zR (zMU (Z4 (J3 K) (pv 2) (pv 1) rfl) (Ya (zY (zIv rfl) rfl zany boot_any (zA (Za ["one"] rfl (ZY (zF zHQ) ["plan","part","number"] rfl rfl (by decide +kernel)) (ZM (pv 1)) (λpins C fp s3 H3=>⟨(zp (i:=0) (show (Zo ["one"] ["plan","part","number"]).Nodup by decide +kernel) rfl (Or.inl rfl)),Zp,(zU GA hr rfl mA kA bA .nil zO (zA (pv 1) (zA (pv 0) (zA (pv 3) zB))))⟩)) zB)))))),?_⟩;unfold zBh at q;refine ⟨_,rfl,_,rfl,p,x,ps,rfl,rfl,zQ.of hp,_,rfl,zq (λc=>?_) (λc=>?_)⟩
 ·have c':ps.contains x=true:=c
  rw [c',Bool.true_or] at q;exact q _ zC.rfl'
 ·have c':ps.contains x=false:=QR.mpr c
  rw [c',Bool.false_or] at q;refine ⟨_,rfl,p,rfl,⟨_,zQ.of hp⟩,λD hD=>?_⟩;refine jS (L:=ps) (σ:=[some (.ref t),some (.ref p),some (.int x)]) (λ_=>true) (λo=> .bl (y7 ss o x)) (zQ.of hp) hD (by omega) (λx H' hx g=>Z0) (λo H' ho _ g P hP=>?_) λH2 g2 e2=>?_
  ·exact ⟨_,rfl,_,rfl,_,rfl,t,a,b,ns,ss,_,_,rfl,pl.same g,hP _ zC.rfl'⟩
  ·refine ⟨D,ps.map λo=>y7 ss o x,rfl,zQ.of (by rw [e2,Y3,qU]; rfl),?_⟩
   rw [List.any_map];exact q _ g2
theorem zRh:zP ["plan","part","left"] ["plan","part","left"] (zF zHk):=ZA
theorem zQD (F:zm K "widened" "widened" zHk f fd)
  (GB:zH P w K mg base zT 2 g1 gd1 ["plan","part","number"] zMS) (bB:zL K gd1 ["plan","part","number"] []) (kB:ZC K g1) (mB:mg "belongs_to"=some (.ref g1)):zH P w K mg base zT 3 f fd ["plan","part","left"] zLy:=by
 refine F.ok zRh (λvs H Q E h=>?_) (λcdv A outer s H vs Q E hr h=>?_)
 ·obtain ⟨t,a,b,p,l,ns,ss,ps,L,rfl,_⟩:=h
  rfl
 obtain ⟨t,a,b,p,l,ns,ss,ps,L,rfl,pl,hp,p10,hl,l10,q⟩:=h;refine ⟨_,(@zG _ _ _ (zR (Za ["number"] rfl (ZY (zF zHk) ["plan","part","left"] rfl rfl (by decide +kernel)) (ZM (pv 2)) (λpins C fp s3 H3=>⟨(zp (i:=0) (show (Zo ["number"] ["plan","part","left"]).Nodup by decide +kernel) rfl (Or.inl rfl)),(Ye (Zf (zU GB hr rfl mB kB bB .nil zO (zA (pv 1) (zA (pv 2) (zA (pv 0) zB)))))),(pv 0)⟩)))),?_⟩;refine ⟨_,rfl,l,rfl,⟨_,zQ.of hl⟩,λD hD=>?_⟩;refine jS (L:=L) (σ:=[some (.ref t),some (.ref p),some (.ref l)]) (zBh ss ps) (λx=> .int x) (zQ.of hl) hD (by omega) (λx H' hx g P hP=>?_) (λx H' hx _ g P hP=>⟨_,rfl,hP _ zC.rfl'⟩) λH2 g2 e2=>q D H2 g2 hD e2
 exact ⟨_,rfl,_,rfl,_,rfl,t,a,b,p,ns,ss,ps,x,rfl,pl.same g,g _ _ hp,p10,λH3 g3=>⟨_,rfl,hP _ g3⟩⟩
end
def zAG (H:Hp) (a:Addr):Nat:=match H a with
 | some (.lst xs)=>xs.length
 | _=>0
theorem zAP {H:Hp} {a:Addr} {xs:List V} (h:H a=some (.lst xs)):zAG H a=xs.length:=by unfold zAG; rw [h]
def zHs (i:Nat) (σ:L2.St) (H:Hp):Nat:=match σ[i]? with
 | some (some (.ref p))=>zAG H p
 | _=>0
theorem zBB {xs:List Int} (h:xs.Pairwise (·<·)):xs.Nodup:=h.imp λh=>by omega
theorem zJp {ps qs:List Int} (hp:ps.Pairwise (·<·)) (hq:qs.Pairwise (·<·)) (sub:∀x∈ps,x∈qs) (ne:qs≠ps):ps.length<qs.length:=by
 rcases xY ps.length qs.length with z | z
 ·exact z
 refine absurd (zAT hq hp λy=>⟨λhy=>?_,sub y⟩) ne;by_cases m:y∈ps
 ·exact m
 have:=JO (xs:=y::ps) (ys:=qs) (xF.mpr ⟨m,zBB hp⟩) λz hz=>by
  rcases qG.mp hz with e | e
  ·rw [e]; exact hy
  ·exact sub z e
 rw [qL] at this;omega
section
variable {f g1 g2 g3:Addr} {fd gd1 gd2 gd3:FuncData}
theorem zFb:zP ["plan","number","left","part","wider"] ["plan","number","left"] (zF sPw):=ZA
theorem zQu (F:zm K "part_with" "part_with" sPw f fd)
  (GW:zH P w K mg base zT 3 g1 gd1 ["plan","part","left"] zLy) (bW:zL K gd1 ["plan","part","left"] []) (kW:ZC K g1) (mW:mg "widened"=some (.ref g1)):zH P w K mg base zT 4 f fd ["plan","number","left"] zPh:=by
 refine F.ok zFb (λvs H Q E h=>?_) (λcdv A outer s H vs Q E hr h=>?_)
 ·obtain ⟨t,a,b,l,ns,ss,L,x,rfl,_⟩:=h
  rfl
 obtain ⟨t,a,b,l,ns,ss,L,x,rfl,pl,hl,lup,l10,xL,q⟩:=h;refine ⟨_,(@zE _ _ _ _ _ (za (i:=3) zFb.nd rfl (Or.inl rfl) (ZG (zA (pv 1) zB))) (@zE _ _ _ _ _ (za (i:=4) zFb.nd rfl (Or.inl rfl) (zU GW hr rfl mW kW bW .nil zO (zA (pv 0) (zA (pv 3) (zA (pv 2) zB))))) (@zE _ _ _ _ _ (JQ PassesOwn.never (zh (Jb hr.units) (pv 4) (pv 3) (zk _)) (@zE _ _ _ _ _ (za (i:=3) zFb.nd rfl (Or.inl rfl) (pv 4)) (@zG _ _ _ (za (i:=4) zFb.nd rfl (Or.inl rfl) (zU GW hr rfl mW kW bW .nil zO (zA (pv 0) (zA (pv 3) (zA (pv 2) zB)))))))) (@zG _ _ _ (zR (pv 3)))))),?_⟩;have wsub:∀ps:List Int,(wid ss ps L).length≤10:=λps=>qK (QI _ _) l10
 refine ⟨_,rfl,(by show 1≤sizeLine; decide),λp hp=>?_⟩;have g1:=zC.new hp (.lst [.int x]);have e1:upd H p (.lst [.int x]) p=some (.lst ([x].map V.int)):=zD;generalize upd H p (.lst [.int x])=H1 at g1 e1 ⊢;refine ⟨_,rfl,_,rfl,_,rfl,t,a,b,p,l,ns,ss,[x],L,rfl,pl.same g1,e1,by show 1≤10; decide,g1 _ _ hl,l10,λo H2 g2 no eo=>?_⟩;dsimp only [Zi,jK];refine jx (λσ H'=>∃(p o:Addr) (ps:List Int),σ=[some (.ref t),some (.int x),some (.ref l),some (.ref p),some (.ref o)]/\zC H H'/\H p=none/\H o=none/\H' p=some (.lst (ps.map V.int))/\H' o=some (.lst ((wid ss ps L).map V.int))/\ps.Pairwise (·<·)/\x∈ps/\∀y∈ps,Zr ss L x y)
  (λσ H=>11 - zHs 3 σ H) ⟨p,o,[x],rfl,g1.trans g2,hp,zt g1 no,g2 _ _ e1,eo,XY _ _,qH.mpr rfl,λy hy=>by rw [qH.mp hy]; exact .here xL⟩ ?_
 rintro σ HA ⟨p,o,ps,rfl,gA,np,no,ep,eo,up,xp,rp⟩;have psub:∀y∈ps,y∈wid ss ps L:=λy hy=>QD.mpr ⟨(rp y hy).r,by unfold zBh; rw [qX.mpr hy]; rfl⟩
 have wup:(wid ss ps L).Pairwise (·<·):=lup.filter _;have p10:ps.length≤10:=qK (JO (zBB up) psub) (wsub ps);refine ⟨_,rfl,_,rfl,_,zKP (zQ.of eo) (zQ.of ep),_,rfl,zq (λc=>?_) (λc=>?_)⟩
 ·have ne:wid ss ps L≠ps:=λz=>by
   rw [z,beq_self_eq_true] at c;cases c
  refine J7 (H:=HA) (μ:=λσ H=>11 - zHs 3 σ H) ?_;refine ⟨_,rfl,?_⟩;refine ⟨_,rfl,_,rfl,_,rfl,t,a,b,o,l,ns,ss,wid ss ps L,L,rfl,pl.same gA,eo,wsub ps,gA _ _ hl,l10,λo' HB gB no' eo'=>?_⟩;refine ⟨⟨o,o',wid ss ps L,rfl,gA.trans gB,no,zt gA no',gB _ _ eo,eo',wup,psub x xp,λy hy=>?_⟩,?_⟩
  ·obtain ⟨yL,hb⟩:=QD.mp hy
   unfold zBh at hb;rcases Bool.or_eq_true_iff.mp hb with z | z
   ·exact rp y (qX.mp z)
   ·obtain ⟨u,hu,hau⟩:=XO.mp z
    exact .on (rp u hu) yL hau
  ·show 11 - zAG HB o<11 - zAG HA p
   rw [zAP (gB _ _ eo),zAP ep,qA,qA];have:=zJp up wup psub ne;have:=wsub ps;omega
 ·have eq:wid ss ps L=ps:=by
   by_cases z:wid ss ps L=ps
   ·exact z
   ·rw [beq_eq_false_iff_ne.mpr z] at c
    exact absurd rfl c
  refine ⟨_,rfl,q p ps HA gA np ep up λy=>⟨rp y,λhy=>?_⟩⟩;refine hy.stay (S:=λy=>y∈ps) (λu v hu hv huv=>?_) xp;rw [<-eq];refine QD.mpr ⟨hv,?_⟩;unfold zBh;rw [XO.mpr ⟨u,hu,huv⟩,Bool.or_true]
theorem jQ:zP ["plan","cut","left","parts","part"] ["plan","cut"] (zF sPb):=ZA
theorem zHC (F:zm K "parts_behind" "parts_behind" sPb f fd)
  (GP:zH P w K mg base zT 4 g1 gd1 ["plan","number","left"] zPh) (bP:zL K gd1 ["plan","number","left"] []) (kP:ZC K g1) (mP:mg "part_with"=some (.ref g1)):zH P w K mg base zT 5 f fd ["plan","cut"] zEm:=by
 refine F.ok jQ (λvs H Q E h=>?_) (λcdv A outer s H vs Q E hr h=>?_)
 ·obtain ⟨t,a,b,p,ns,ss,cs,rfl,_⟩:=h
  rfl
 obtain ⟨t,a,b,p,ns,ss,cs,rfl,pl,hp,c10,q⟩:=h;have n10:=pl.ok.n2;refine ⟨_,(@zE _ _ _ _ _ (J8 ["number"] rfl (ZY (zF sPb) ["plan","cut","left","parts","part"] rfl rfl (by decide +kernel)) (ZM (zu Z3 (pv 0) zK (λ_ _=>rfl))) (λpins C fp s3 H3=>⟨(zp (i:=0) (show (Zo ["number"] ["plan","cut","left","parts","part"]).Nodup by decide +kernel) rfl (Or.inl rfl)),(Ye (zh (zAu K) (pv 0) (pv 2) rfl)),(pv 0)⟩) (j:=2) jQ.nd rfl (Or.inl rfl) rfl) (@zE _ _ _ _ _ (za (i:=3) jQ.nd rfl (Or.inl rfl) (ZG zB)) (@zE _ _ _ _ _ (JQ PassesOwn.never (zLb (pv 2) (λ_=>rfl)) (@zE _ _ _ _ _ (za (i:=4) jQ.nd rfl (Or.inr rfl) (zU GP hr rfl mP kP bP .nil zO (zA (pv 0) (zA (zu ZE (pv 2) zK (λ_ _=>rfl)) (zA (pv 2) zB))))) (@zE _ _ _ _ _ (ZI (yB QK QW QX yk (pv 3) (zA (pv 4) zB))) (@zG _ _ _ (J8 ["number"] rfl (ZY (zF sPb) ["plan","cut","left","parts","part"] rfl rfl (by decide +kernel)) (ZM (pv 2)) (λpins C fp s3 H3=>⟨(zp (i:=0) (show (Zo ["number"] ["plan","cut","left","parts","part"]).Nodup by decide +kernel) rfl (Or.inl rfl)),(Ye (zh (zAu K) (pv 0) (pv 5) rfl)),(pv 0)⟩) (j:=2) jQ.nd rfl (Or.inl rfl) rfl))))) (@zG _ _ _ (zR (pv 3)))))),?_⟩;refine ⟨_,rfl,t,_,0,_,rfl,rfl,Zd.of pl.t,rfl,a,rfl,⟨_,zQ.of pl.a⟩,λl0 hl0=>?_⟩;refine jS (L:=ns) (σ:=[some (.ref t),some (.ref p),none,none,none]) (λx=> !cs.contains x) (λx=> .int x) (zQ.of pl.a) hl0 (by omega) (λx H' hx g P hP=>?_) (λx H' hx _ g P hP=>⟨_,rfl,hP _ zC.rfl'⟩) λH1 g1 e1=>?_
 ·exact ⟨_,rfl,_,rfl,p,x,cs,rfl,rfl,zQ.of (g _ _ hp),_,rfl,hP _ zC.rfl'⟩
 have Lup:(ns.filter λx=> !cs.contains x).Pairwise (·<·):=pl.ok.n.up.filter _;have L10:(ns.filter λx=> !cs.contains x).length≤10:=qK (QI _ _) n10;generalize (ns.filter λx=> !cs.contains x)=L at e1 Lup L10 q;refine ⟨(by show 0≤sizeLine; decide),λpo hpo=>?_⟩;have g2:=zC.new hpo (.lst []);have e2:upd H1 po (.lst []) po=some (.lst (([]:List Addr).map V.ref)):=zD;have l0p:l0≠po:=zJ e1 hpo;have hpoH:H po=none:=zt g1 hpo;have pl2:=(pl.same g1).same g2;have e12:=g2 _ _ e1;have tp:t≠po:=zJ (g1 _ _ pl.t) hpo;have ap:a≠po:=zJ (g1 _ _ pl.a) hpo;have bp:b≠po:=zJ (g1 _ _ pl.b) hpo;have g02:=g1.trans g2;generalize upd H1 po (.lst [])=H2 at g2 e2 pl2 e12 g02 ⊢;dsimp only [Zi,jK];refine jx (λσ H'=>∃(l:Addr) (M:List Int) (as:List Addr) (rs:List (List Int)) (y4:Option V),σ=[some (.ref t),some (.ref p),some (.ref l),some (.ref po),y4]/\Ex (·=po) H2 H'/\H' po=some (.lst (as.map V.ref))/\ZO H' as rs/\(∀a∈as,H2 a=none)/\as.Nodup/\
   l≠po/\H' l=some (.lst (M.map V.int))/\M.Pairwise (·<·)/\(∀x,x∈M↔x∈L/\∀r∈rs,x∉r)/\(∀r∈rs,jc ss L r)/\(rs.map λr=>r.headD 0).Pairwise (·<·)/\∀r∈rs,∀x∈M,r.headD 0<x)
  (λσ H=>zHs 2 σ H) ⟨l0,L,[],[],none,rfl,Ex.refl,e2, .nil,λ_ h=>(nomatch h),XE,l0p,e12,Lup,λx=>⟨λh=>⟨h,λ_ h=>nomatch h⟩,λh=>h.1⟩,λ_ h=>(nomatch h),List.Pairwise.nil,λ_ h=>nomatch h⟩ ?_
 rintro σ HA ⟨l,M,as,rs,y4,rfl,EA,ePo,rows,fre,nd,lp,el,Mup,hM,cm,hup,hlt⟩;have M10:M.length≤10:=qK (JO (zBB Mup) λx hx=>((hM x).mp hx).1) L10;have r10:rs.length≤10:=by
  have:=JO (xs:=rs.map λr=>r.headD 0) (ys:=L) (zBB hup) λx hx=>by
   obtain ⟨r,hr,rfl⟩:=qY.mp hx;exact (cm r hr).sub (cm r hr).hd
  rw [qA] at this;omega
 have plA:Zm HA t a b ns ss:=⟨EA _ _ tp pl2.t,EA _ _ ap pl2.a,EA _ _ bp pl2.b,pl.ok⟩;refine ⟨_,rfl,_, .inl ⟨_,zQ.of el,rfl⟩,zq (λc=>?_) (λc=>?_)⟩
 ·refine J7 (H:=HA) (μ:=λσ H=>zHs 2 σ H) ?_
  cases M with
  | nil=>cases c
  | cons m M'=>
  have hat:YB ((m::M').map V.int) ((0:Nat):Int)=some (.int m):=Z2 rfl;refine ⟨_,rfl,_,rfl,l,_,0,_,rfl,rfl,zQ.of el,hat,_,rfl,t,a,b,l,ns,ss,m::M',m,rfl,plA,el,Mup,M10,qD,λo r HB gB no eo rup mr=>?_⟩;have ePB:=gB _ _ ePo;have oP:o≠po:=Ne.symm (zJ ePo no);have al:=rows.len;refine ⟨_,rfl, .inl ⟨rfl,_,zQ.of ePB⟩,_,rfl,po,_,_,rfl,rfl,ePB,ZW (by rw [qA,al]; omega),?_⟩;have eN:upd HB po (.lst (as.map V.ref++[.ref o])) po=some (.lst ((as++[o]).map V.ref)):=by rw [zD,qS]; rfl
  have EB:Ex (·=po) H2 (upd HB po (.lst (as.map V.ref++[.ref o]))):=(EA.trans (Ex.same gB)).trans (Ex.put _ rfl);have keep:∀c o',c≠po->HB c=some o'->upd HB po (.lst (as.map V.ref++[.ref o])) c=some o':=λc o' hc h=>by rw [zI hc]; exact h
  have asP:∀c∈as,c≠po:=λc hc z=>by rw [z] at hc; rw [fre po hc] at e2; cases e2
  have elC:=keep _ _ lp (gB _ _ el);have eoC:=keep _ _ oP eo;have rowsC:ZO (upd HB po (.lst (as.map V.ref++[.ref o]))) (as++[o]) (rs++[r]):=((rows.same gB).by λc hc o' h=>keep c o' (asP c hc) h).snoc eoC;generalize upd HB po (.lst (as.map V.ref++[.ref o]))=HC at eN EB elC eoC rowsC;refine ⟨_,rfl,l,rfl,⟨_,zQ.of elC⟩,λD hD=>?_⟩;refine jS (L:=m::M') (σ:=[some (.ref t),some (.ref p),some (.ref l),some (.ref po),some (.ref o)]) (λx=> !r.contains x) (λx=> .int x) (zQ.of elC) hD (by omega) (λx H' hx g P hP=>?_) (λx H' hx _ g P hP=>⟨_,rfl,hP _ zC.rfl'⟩) λHD gD eD=>?_
  ·exact ⟨_,rfl,_,rfl,o,x,r,rfl,rfl,zQ.of (g _ _ eoC),_,rfl,hP _ zC.rfl'⟩
  have mM:m∈m::M':=qD;have mL:=((hM m).mp mM).1;have closed:∀u v,u∈m::M'->v∈L->y7 ss u v=true->v∈m::M':=λu v hu hv huv=>by
   refine (hM v).mpr ⟨hv,λr' hr' hvr=>?_⟩;have cr:=cm r' hr';have hu':=(hM u).mp hu;exact hu'.2 r' hr' ((cr.all hvr u).mpr (.on (.here hv) hu'.1 (by rw [j6]; exact huv)))
  have cr:jc ss L r:=by
   refine ⟨rup,m,(mr m).mpr (.here mM),λy=>(mr y).trans ⟨λh=>h.mono λx hx=>((hM x).mp hx).1,λh=>h.sub closed mM⟩⟩
  have rsub:∀y∈r,y∈m::M':=λy hy=>((mr y).mp hy).r
  have mr0:m∈r:=(mr m).mpr (.here mM);have hdr:r.headD 0=m:=by
   have h1:=rsub _ cr.hd;cases r with
   | nil=>cases mr0
   | cons u r'=>
    show u=m;rcases qG.mp mr0 with z | z
    ·exact z.symm
    ·have h2:=(QT.mp rup).1 m z
     rcases qG.mp h1 with y | y
     ·exact y
     ·have h3:=(QT.mp Mup).1 _ y
      have h4:m<u:=h3;omega
  have oH2:H2 o=none:=by
   cases e:H2 o with
   | none=>rfl
   | some u=>
    have z:=EA o u oP e;rw [no] at z; cases z
  refine ⟨⟨D,(m::M').filter (λx=> !r.contains x),as++[o],rs++[r],_,rfl,EB.trans (Ex.same gD),gD _ _ eN,rowsC.same gD,λc hc=>?_,?_,Ne.symm (zJ eN hD),eD,Mup.filter _,λx=>?_,λr' hr'=>?_,?_,λr' hr' x hx=>?_⟩,?_⟩
  ·rcases qO.mp hc with z | z
   ·exact fre c z
   ·rw [qH.mp z]; exact oH2
  ·refine List.nodup_append.mpr ⟨nd,xF.mpr ⟨(λh=>nomatch h),XE⟩,λc hc d hd z=>?_⟩
   rw [qH.mp hd] at z;obtain ⟨r',_,e⟩:=rows.mem hc;rw [z,no] at e;cases e
  ·rw [QD,hM]
   constructor
   ·rintro ⟨⟨h1,h2⟩,h3⟩
    refine ⟨h1,λr' hr'=>?_⟩;rcases qO.mp hr' with z | z
    ·exact h2 r' z
    ·rw [qH.mp z]
     intro hx;rw [qX.mpr hx] at h3;cases h3
   ·rintro ⟨h1,h2⟩
    refine ⟨⟨h1,λr' hr'=>h2 r' (List.mem_append_left _ hr')⟩,?_⟩;cases hc:r.contains x with
    | false=>rfl
    | true=>exact absurd (qX.mp hc) (h2 r (qW _ (qH.mpr rfl)))
  ·rcases qO.mp hr' with z | z
   ·exact cm r' z
   ·rw [qH.mp z]; exact cr
  ·rw [qS,List.pairwise_append]
   refine ⟨hup,XY _ _,λu hu v hv=>?_⟩;obtain ⟨r',hr',rfl⟩:=qY.mp hu;have ev:v=m:=(qH.mp hv).trans hdr;rw [ev];exact hlt r' hr' m mM
  ·obtain ⟨hx1,hx2⟩:=QD.mp hx
   rcases qO.mp hr' with z | z
   ·exact hlt r' z x hx1
   ·rw [qH.mp z,hdr]
    rcases qG.mp hx1 with y | y
    ·rw [y,qX.mpr mr0] at hx2
     cases hx2
    ·exact (QT.mp Mup).1 x y
  ·show zAG HD D<zAG HA l
   rw [zAP eD,zAP el,qA,qA,QU,qX.mpr mr0];exact Nat.lt_succ_of_le (QI _ _)
 ·cases M with
  | cons m M'=>exact absurd rfl c
  | nil=>
  have H2n:∀c,H2 c=none->H c=none:=λc hc=>zt g02 hc
  refine ⟨_,rfl,q po as rs HA (λc o' h=>?_) hpoH (λc hc=>H2n c (fre c hc)) nd (λz=>by rw [fre po z] at e2; cases e2) ePo rows ⟨cm,λx hx=>?_,hup⟩⟩
  ·exact EA c o' (λz=>by rw [z,hpoH] at h; cases h) (g02 _ _ h)
  ·by_cases z:∃r∈rs,x∈r
   ·exact z
   ·exact nomatch (hM x).mpr ⟨hx,λr hr hxr=>z ⟨r,hr,hxr⟩⟩
end
abbrev zFQ:Stmt:=top 56
abbrev zLh:Stmt:=top 55
abbrev zLW:Stmt:=top 57
theorem zJz (ns:List Int) (i:Nat):zAl (ns.map V.int) (some ((i:Int)+1)) none=(ns.drop (i+1)).map V.int:=by
 unfold zAl;have h1:HT.jA (ns.map V.int).length 0 (some ((i:Int)+1))=min (i+1) ns.length:=by
  have h3:=HT.zGU (ns.map V.int).length 0 (i+1);rw [qA] at h3 ⊢;exact h3
 have h2:HT.jA (ns.map V.int).length (ns.map V.int).length none=ns.length:=by
  show (ns.map V.int).length=_;rw [qA]
 rw [h1,h2,List.map_drop];rcases Nat.le_total (i+1) ns.length with z | z
 ·rw [Nat.min_eq_left z,QO (by rw [XM,qA]; exact qE _)]
 ·rw [Nat.min_eq_right z,List.drop_of_length_le (by rw [qA]; exact qE _),List.drop_of_length_le (by rw [qA]; exact z),List.take_nil]
def zMO (f:List Int->List (List Int)):List Int->List (List Int)
 | []=>[]
 | x::L=>(f L).map (x::·)++zMO f L
def Zw:Nat->List Int->List (List Int)
 | 0=>λ_=>[[]]
 | k+1=>zMO (Zw k)
theorem zGI (k:Nat):∀L:List Int,L.length≤10->(Zw (k+1) L).length≤L.length*10^k/\(Zw k L).length≤10^k:=by
 induction k with
 | zero=>
  intro L hL;refine ⟨?_,qE _⟩
  induction L with
  | nil=>exact QG _
  | cons x L ih=>
   have h:(Zw 1 L).length≤L.length*10^0:=ih (by rw [qL] at hL; omega);show ([[x]]++Zw 1 L).length≤(x::L).length*10^0;simp only [qI,qL,List.length_nil,Nat.pow_zero,Nat.mul_one] at h ⊢;omega
 | succ k ihk=>
  intro L hL;have h2:(Zw (k+1) L).length≤10^(k+1):=by
   have:=(ihk L hL).1;have h3:L.length*10^k≤10*10^k:=Nat.mul_le_mul_right _ hL;rw [Nat.pow_succ];omega
  refine ⟨?_,h2⟩
  induction L with
  | nil=>exact QG _
  | cons x L ih=>
   have hL':L.length≤10:=by rw [qL] at hL; omega
   have h3:(Zw (k+1) L).length≤10^(k+1):=by
    have:=(ihk L hL').1;have h3:L.length*10^k≤10*10^k:=Nat.mul_le_mul_right _ hL';rw [Nat.pow_succ];omega
   have h:(Zw (k+2) L).length≤L.length*10^(k+1):=ih hL' h3;show ((Zw (k+1) L).map (x::·)++Zw (k+2) L).length≤_;rw [qI,qA,qL,Nat.succ_mul];omega
theorem zBH:∀(k:Nat) (L:List Int),∀c∈Zw k L,List.Sublist c L/\c.length=k
 | 0,L,c,h=>by rw [qH.mp h]; exact ⟨List.nil_sublist _,rfl⟩
 | k+1,[],c,h=>nomatch h
 | k+1,x::L,c,h=>by
  rcases qO.mp h with z | z
  ·obtain ⟨c',hc',rfl⟩:=qY.mp z
   obtain ⟨a,b⟩:=zBH k L c' hc';exact ⟨a.cons_cons x,by rw [qL,b]⟩
  ·obtain ⟨a,b⟩:=zBH (k+1) L c z
   exact ⟨a.cons x,b⟩
noncomputable def zCF (ss L:List Int):Nat:=open Classical in if h:∃rs,JE ss L rs then (choose h).length else 0
theorem zDB {ss L:List Int} {rs:List (List Int)} (h:JE ss L rs):zCF ss L=rs.length:=by
 unfold zCF;have hx:∃rs,JE ss L rs:=⟨rs,h⟩;rw [dif_pos hx,(Classical.choose_spec hx).uniq h]
noncomputable def JK (ns ss cs:List Int):Bool:=decide (cs.length<ns.length)&&decide (cs.length+2≤zCF ss (ns.filter λx=> !cs.contains x))
noncomputable def ji (ns ss:List Int):Option (List Int):=((List.range 4).flatMap λk=>Zw k ns).find? (JK ns ss)
noncomputable def zGt (ns ss:List Int) (d:PyData):Bool:=zAL ns d&&JK ns ss (zCf d)
def zJa:Sp:=λvs H Q _=>∃(t a b:Addr) (ns ss:List Int) (v:V) (d:PyData),vs=[.ref t,v]/\Zm H t a b ns ss/\yD H v d/\∀H',zC H H'->Q (.bl (zGt ns ss d)) H'
def zEU (m:Nat):Sp:=λvs H Q _=>∃(p:Addr) (L:List Int) (k:Nat),vs=[.ref p, .int k]/\H p=some (.lst (L.map V.int))/\L.length≤10/\k<m/\k≤3/\
 ∀(l:Addr) (as:List Addr) (H':Hp),zC H H'->H l=none->(∀a∈as,H a=none)->H' l=some (.lst (as.map V.ref))->ZO H' as (Zw k L)->Q (.ref l) H'
def zMc:Sp:=λvs H Q _=>∃(t a b p:Addr) (ns ss cs:List Int),vs=[.ref t, .ref p]/\Zm H t a b ns ss/\H p=some (.lst (cs.map V.int))/\zAd cs/\cs.length≤10/\(∀x∈cs,x∈ns)/\∀H',zC H H'->Q (.bl (JK ns ss cs)) H'
def zMG:Sp:=λvs H Q _=>∃(t a b:Addr) (ns ss:List Int),vs=[.ref t]/\Zm H t a b ns ss/\(∀H',zC H H'->ji ns ss=none->Q .non H')/\∀(o:Addr) (c:List Int) (H':Hp),zC H H'->H o=none->H' o=some (.lst (c.map V.int))->ji ns ss=some c->Q (.ref o) H'
section
variable {f g1 g2 g3:Addr} {fd gd1 gd2 gd3:FuncData} {t3:Tok}
theorem zRB:zP ["plan","thing"] ["plan","thing"] (zF zLh):=ZA
theorem zNm (F:zm K "shows_no_row" "shows_no_row" zLh f fd) (B:Bt3 mg)
  (GC:zH P w K mg base zT 5 g1 gd1 ["plan"] jF) (bC:zL K gd1 ["plan"] []) (kC:ZC K g1) (mC:mg "check_plan"=some (.ref g1))
  (GI:zH P w K mg base zT 5 g2 gd2 ["plan","thing"] zIh) (bI:zL K gd2 ["plan","thing"] []) (kI:ZC K g2) (mI:mg "is_cut"=some (.ref g2))
  (GP:zH P w K mg base zT 5 g3 gd3 ["plan","cut"] zEm) (bP:zL K gd3 ["plan","cut"] []) (kP:ZC K g3) (mP:mg "parts_behind"=some (.ref g3)):zH P w K mg base zT 6 f fd ["plan","thing"] zJa:=by
 refine F.ok zRB (λvs H Q E h=>?_) (λcdv A outer s H vs Q E hr h=>?_)
 ·obtain ⟨t,a,b,ns,ss,v,d,rfl,_⟩:=h
  rfl
 obtain ⟨t,a,b,ns,ss,v,d,rfl,pl,hd,q⟩:=h;refine ⟨_,(@zE _ _ _ _ _ (ZI (zU GC hr rfl mC kC bC .nil zO (zA (pv 0) zB))) (@zG _ _ _ (zR (Yv (zU GI hr rfl mI kI bI .nil zO (zA (pv 0) (zA (pv 1) zB))) (Ya (Z4 zCN (zY ZD rfl B.len QB (zA (zU GP hr rfl mP kP bP .nil zO (zA (pv 0) (zA (pv 1) zB))) zB)) (zZ YG (zY ZD rfl B.len QB (zA (pv 1) zB)) zK) (zk _))))))),?_⟩;unfold zGt at q;refine ⟨_,rfl,t,a,b,ns,ss,rfl,pl,_,rfl,_,rfl,t,a,b,ns,ss,v,d,rfl,pl,hd,λH2 g2=>⟨_,rfl,zq (λc=>?_) (λc=>?_)⟩⟩
 ·obtain ⟨p,cs,rfl,hp,rfl,ri,c10,lt,sub⟩:=zJw hd c
  rw [c,QL,Jv] at q;unfold JK at q;rw [decide_eq_true lt,QL] at q;refine ⟨_,rfl,_,rfl,t,a,b,p,ns,ss,cs,rfl,pl.same g2,g2 _ _ hp,c10,λl as rs H3 g3 nl fre nd lo el rows parts=>?_⟩;refine ⟨l,_,rfl, .inl (zQ.of el),_,rfl,p,_,rfl, .inl (zQ.of (g3 _ _ (g2 _ _ hp))),_,_,rfl,rfl,_,_,rfl,rfl,?_⟩;rw [zDB parts] at q;have e:decide ((((cs.map V.int).length:Nat):Int)+2≤((as.map V.ref).length:Nat))=decide (cs.length+2≤rs.length):=by
   rw [qA,qA,rows.len];exact decide_eq_decide.mpr ⟨λh=>by omega,λh=>by omega⟩
  show Q (.bl (decide ((((cs.map V.int).length:Nat):Int)+2≤((as.map V.ref).length:Nat)))) H3;rw [e];exact q _ (g2.trans g3)
 ·rw [QR.mpr c,QH] at q
  exact q _ g2
theorem zNP {vs:List V} {H:Hp} {Q:VK} {E:XK} (h:zMc vs H Q E):zJa vs H Q E:=by
 obtain ⟨t,a,b,p,ns,ss,cs,e,pl,hp,ri,l10,sub,q⟩:=h;refine ⟨t,a,b,ns,ss, .ref p, .list (cs.map PyData.int),e,pl, .lst hp (ZK.ints cs),λH' g=>?_⟩;have e2:zGt ns ss (.list (cs.map PyData.int))=JK ns ss cs:=by
  unfold zGt;rw [Jv];by_cases l:cs.length<ns.length
  ·rw [zNu ri l10 l sub,QL]
  ·have:JK ns ss cs=false:=by unfold JK; rw [decide_eq_false l,QH]
   rw [this,XU]
 rw [e2];exact q H' g
theorem zEa:zP ["numbers","size","found","place","number"] ["numbers","size"] (zF zFQ):=ZA
theorem zNY {m:Nat} (F:zm K "rising_lists" "rising_lists" zFQ f fd) (B:Bt3 mg)
  (GR:zH P w K mg base zT (m+1) f fd ["numbers","size"] (zEU m)) (bR:zL K fd ["numbers","size"] []) (kR:ZC K f) (mR:mg "rising_lists"=some (.ref f)):zH P w K mg base zT (m+2) f fd ["numbers","size"] (zEU (m+1)):=by
 refine F.ok zEa (λvs H Q E h=>?_) (λcdv A outer s H vs Q E hr h=>?_)
 ·obtain ⟨p,L,k,rfl,_⟩:=h
  rfl
 obtain ⟨p,L,k,rfl,hp,l10,km,k3,q⟩:=h;refine ⟨_,(@zE _ _ _ _ _ (zy (zh ye (pv 1) zK (zk _)) (@zG _ _ _ (zR (ZG (zA (ZG zB) zB)))) zf) (@zE _ _ _ _ _ (za (i:=2) zEa.nd rfl (Or.inl rfl) (ZG zB)) (@zE _ _ _ _ _ (jO PassesOwn.never rfl (zGP rfl B.enumerate (zA (pv 0) zB)) (zFC rfl (YZ (zp (i:=3) zEa.nd rfl (Or.inl rfl)) (YZ (zp (i:=4) zEa.nd rfl (Or.inr rfl)) zBK))) (@zG _ _ _ (ZI (yB QK PySem.F.slot_list_extend PySem.F.type_list_extend zIS (pv 2) (zA (Za ["rest"] rfl (ZY (zF zFQ) ["numbers","size","found","place","number"] rfl rfl (by decide +kernel)) (ZM (zU GR hr rfl mR kR bR .nil zO (zA (YL zGh (pv 0) (Yh (zZ YG (pv 3) zK)) Yi) (zA (zZ Yz (pv 1) zK) zB)))) (λpins C fp s3 H3=>⟨(zp (i:=0) (show (Zo ["rest"] ["numbers","size","found","place","number"]).Nodup by decide +kernel) rfl (Or.inl rfl)),Zp,(zZ zo (ZG (zA (pv 5) zB)) (pv 0))⟩)) zB))))) (@zG _ _ _ (zR (pv 2)))))),?_⟩;have lml:(L.map V.int).length=L.length:=qA _;refine ⟨_,rfl,rfl,_,rfl,zq (λc=>?_) (λc=>?_)⟩
 ·have k0:k=0:=by
   have e:=V.int.inj (of_decide_eq_true c);omega
  subst k0;refine ⟨(by show 0≤sizeLine; decide),λe0 he0=>⟨(by show 1≤sizeLine; decide),λl hl=>?_⟩⟩;have g1:=zC.new he0 (.lst []);have g2:=zC.new hl (.lst [.ref e0]);exact q l [e0] _ (g1.trans g2) (zt g1 hl) (λa ha=>by rw [qH.mp ha]; exact he0) zD (.cons (g2 _ _ zD) .nil)
 ·obtain ⟨k',rfl⟩:∃k',k=k'+1:=by
   cases k with
   | zero=>exact absurd (decide_eq_true rfl) c
   | succ k'=>exact ⟨k',rfl⟩
  refine ⟨(by show 0≤sizeLine; decide),λfo hfo=>?_⟩;have g1:=zC.new hfo (.lst []);have e1:upd H fo (.lst []) fo=some (.lst (([]:List Addr).map V.ref)):=zD;have pf:p≠fo:=zJ hp hfo;generalize upd H fo (.lst [])=H1 at g1 e1 ⊢;have hp1:=g1 _ _ hp;have tot:(Zw (k'+1) L).length≤1000:=by
   have h1:=(zGI (k'+1) L l10).2;have h2:10^(k'+1)≤10^3:=XH (by decide) k3;omega
  refine ⟨_,rfl,p,_,rfl,hp1,?_⟩;refine zKU (xs:=L.map V.int) (λi σ H'=>∃(x3 x4:Option V) (as:List Addr) (rs:List (List Int)),σ=[some (.ref p),some (.int ((k'+1:Nat):Int)),some (.ref fo),x3,x4]/\Ex (·=fo) H1 H'/\H' fo=some (.lst (as.map V.ref))/\ZO H' as rs/\rs++Zw (k'+1) (L.drop i)=Zw (k'+1) L/\∀a∈as,H1 a=none)
   ⟨none,none,[],[],rfl,Ex.refl,e1, .nil,rfl,λ_ h=>nomatch h⟩ (λi σ H' _ ⟨_,_,_,_,_,ex,_⟩=>ex _ _ pf hp1) ?_ ?_
  ·rintro i x σ H3 T hx ⟨x3,x4,as,rs,rfl,ex,ef,rows,inv,fre⟩ hT
   have hi:i<L.length:=by rw [<-lml]; exact (qZ.mp hx).1
   rw [qR,qB hi] at hx;cases hx;have gT:zC H3 (upd H3 T (.tup [.int (i:Int), .int L[i]])):=zC.new hT _;have exT':=ex.trans (Ex.same gT);have efT:=gT _ _ ef;have rowsT:=rows.same gT;have eT:(upd H3 T (.tup [.int (i:Int), .int L[i]])) T=some (.tup [.int (i:Int), .int L[i]]):=zD;generalize upd H3 T (.tup [.int (i:Int), .int L[i]])=H4 at exT' efT eT rowsT ⊢;have hp4:=exT' _ _ pf hp1;refine ⟨T,_,rfl,Zd.of eT,rfl,_,_,rfl,_,_,rfl,rfl,?_⟩;refine ⟨_,rfl, .inl ⟨rfl,_,zQ.of efT⟩,_,rfl,_,rfl,_,_,rfl,rfl,_,rfl,p,_,rfl,zQ.of hp4,λc hc=>?_⟩;rw [zJz L i];have g5:=zC.new hc (.lst ((L.drop (i+1)).map V.int));have ec5:upd H4 c (.lst ((L.drop (i+1)).map V.int)) c=some (.lst ((L.drop (i+1)).map V.int)):=zD;generalize upd H4 c (.lst ((L.drop (i+1)).map V.int))=H5 at g5 ec5 ⊢;have ek:((k'+1:Nat):Int) - 1=(k':Int):=by omega
   refine ⟨_,rfl,_,_,rfl,rfl,c,L.drop (i+1),k',?_,ec5,by rw [XM]; omega,by omega,by omega,λl bs H6 g6 nl freB el rowsB=>?_⟩
   ·show [V.ref c,V.int (((k'+1:Nat):Int) - 1)]=_
    rw [ek]
   have g46:=g5.trans g6;have bl:bs.length≤1000:=by
    rw [rowsB.len];have h1:=(zGI k' (L.drop (i+1)) (by rw [XM]; omega)).2;have h2:10^k'≤10^3:=XH (by decide) (by omega);omega
   have r10:∀r∈Zw k' (L.drop (i+1)),r.length≤10:=λr hr=>by
    rw [(zBH _ _ r hr).2];omega
   refine ⟨l,rfl,⟨_,zQ.of el⟩,λD hD=>?_⟩;refine zIo (σ:=[some (.ref p),some (.int ((k'+1:Nat):Int)),some (.ref fo),some (.int (i:Int)),some (.int L[i])]) (λr=>L[i]::r) (zQ.of el) rowsB hD bl (λb r H' P hr' er g hP=>?_) λus H7 g7 freU ndU DU eD rowsU=>?_
   ·refine ⟨_,rfl,(by show 1≤sizeLine; decide),λnl hnl=>?_⟩
    have g8:=zC.new hnl (.lst [.int L[i]]);refine ⟨_,rfl,nl,b,_,_,rfl,rfl,zD,g8 _ _ er,by rw [qA]; exact qK (by have:=r10 r hr'; show 1+_≤1000; omega) (by decide),λo ho=>?_⟩;exact hP o _ (g8.trans (zC.new ho _)) (zt g8 ho) zD
   have g47:=g46.trans g7;have ef7:=g47 _ _ efT;have al:=rows.len;have ul:=rowsU.len;rw [qA] at ul;have dr:L.drop i=L[i]::L.drop (i+1):=XR hi;rw [dr] at inv;have inv2:(rs++(Zw k' (L.drop (i+1))).map (L[i]::·))++Zw (k'+1) (L.drop (i+1))=Zw (k'+1) L:=by
    rw [xS];exact inv
   have ll:rs.length+(Zw k' (L.drop (i+1))).length≤1000:=by
    have:=congrArg List.length inv2;rw [qI,qI,qA] at this;omega
   have Dfo:D≠fo:=Ne.symm (zJ (g46 _ _ efT) hD);refine ⟨fo,D,_,_,rfl,rfl,ef7,eD,by rw [qA,qA]; exact qK (by omega:_≤1000) (by decide),?_⟩;have H1f:H1 fo≠none:=by rw [e1]; exact λz=>nomatch z
   have fn:∀c,H4 c=none->H1 c=none:=λc hc=>by
    cases e:H1 c with
    | none=>rfl
    | some u=>
     by_cases z:c=fo
     ·rw [z,efT] at hc; cases hc
     ·rw [exT' c u z e] at hc; cases hc
   refine ⟨_,_,as++us,rs++(Zw k' (L.drop (i+1))).map (L[i]::·),rfl,exT'.trans ((Ex.same g47).trans (Ex.put _ rfl)),by rw [zD,qS],?_,inv2,λa ha=>?_⟩
   ·refine ZO.append ((rowsT.same g47).by λc hc o h=>?_) (rowsU.by λc hc o h=>?_)
    ·rw [zI (λz=>by rw [z] at hc; exact H1f (fre fo hc))]; exact h
    ·rw [zI (λz=>by
      have h6:=freU c hc;rw [z,g46 _ _ efT] at h6;cases h6)]; exact h
   ·rcases qO.mp ha with z | z
    ·exact fre a z
    ·exact fn a (zt g46 (freU a z))
  ·rintro σ H3 ⟨x3,x4,as,rs,rfl,ex,ef,rows,inv,fre⟩
   have inv':rs=Zw (k'+1) L:=by
    rw [lml,List.drop_length] at inv;have e:Zw (k'+1) []=[]:=rfl;rw [e,xB] at inv;exact inv
   rw [inv'] at rows;exact ⟨_,rfl,q fo as H3 (λc o h=>ex c o (λz=>by rw [z,hfo] at h; cases h) (g1 _ _ h)) hfo (λa ha=>zt g1 (fre a ha)) ef rows⟩
theorem zJK (F:zm K "rising_lists" "rising_lists" zFQ f fd) (B:Bt3 mg) (bR:zL K fd ["numbers","size"] []) (kR:ZC K f) (mR:mg "rising_lists"=some (.ref f)):∀m:Nat,zH P w K mg base zT (m+1) f fd ["numbers","size"] (zEU m)
 | 0=>⟨λvs H Q E h=>by obtain ⟨p,L,k,rfl,_⟩:=h; rfl,λA outer s H args us vs Q E _ _ _ _ h=>by
   obtain ⟨p,L,k,_,_,_,hk,_⟩:=h;exact absurd hk (XG _)⟩
 | m+1=>zNY F B (zJK F B bR kR mR m) bR kR mR
theorem zHZ:zP ["plan","size","cut"] ["plan"] (zF zLW):=ZA
theorem zPd (F:zm K "short_cut" "short_cut" zLW f fd) (B:Bt3 mg) (m3:mg "MOST_IN_SHORT_CUT"=some (.int 3 t3))
  (GC:zH P w K mg base zT 6 g1 gd1 ["plan"] jF) (bC:zL K gd1 ["plan"] []) (kC:ZC K g1) (mC:mg "check_plan"=some (.ref g1))
  (GR:zH P w K mg base zT 6 g2 gd2 ["numbers","size"] (zEU 4)) (bR:zL K gd2 ["numbers","size"] []) (kR:ZC K g2) (mR:mg "rising_lists"=some (.ref g2))
  (GS:zH P w K mg base zT 6 g3 gd3 ["plan","thing"] zMc) (bS:zL K gd3 ["plan","thing"] []) (kS:ZC K g3) (mS:mg "shows_no_row"=some (.ref g3)):zH P w K mg base zT 7 f fd ["plan"] zMG:=by
 refine F.ok zHZ (λvs H Q E h=>?_) (λcdv A outer s H vs Q E hr h=>?_)
 ·obtain ⟨t,a,b,ns,ss,rfl,_⟩:=h
  rfl
 obtain ⟨t,a,b,ns,ss,rfl,pl,q0,q1⟩:=h;have n10:=pl.ok.n2;refine ⟨_,(@zE _ _ _ _ _ (ZI (zU GC hr rfl mC kC bC .nil zO (zA (pv 0) zB))) (@zE _ _ _ _ _ (jO PassesOwn.never rfl (zDa rfl B.range (zA (zZ YG (zr (v:= .int 3) rfl m3 ⟨_,rfl⟩) zK) zB)) (zp (i:=1) zHZ.nd rfl (Or.inl rfl)) (@zG _ _ _ (jO PassesOwn.never rfl (ZM (zU GR hr rfl mR kR bR .nil zO (zA (zu Z3 (pv 0) zK (λ_ _=>rfl)) (zA (pv 1) zB)))) (zp (i:=2) zHZ.nd rfl (Or.inl rfl)) (@zG _ _ _ (zy (Zf (zU GS hr rfl mS kS bS .nil zO (zA (pv 0) (zA (pv 2) zB)))) (@zG _ _ _ (zR (pv 2))) zf))))) (@zG _ _ _ (zR jH)))),?_⟩;refine ⟨_,rfl,t,a,b,ns,ss,rfl,pl,?_⟩;refine ⟨_,_,rfl,rfl,_,rfl,by decide,by decide,?_⟩;refine zDo (lo:=0) (n:=4) (λi σ H'=>∃(x1 x2:Option V),σ=[some (.ref t),x1,x2]/\zC H H'/\∀c∈(List.range i).flatMap (λk=>Zw k ns),JK ns ss c=false) ⟨_,_,rfl,zC.rfl',λ_ h=>nomatch h⟩ ?_ ?_
 ·rintro i σ HA hi ⟨x1,x2,rfl,gA,no⟩
  have plA:=pl.same gA;have ei:(0:Int)+(i:Int)=((i:Nat):Int):=Int.zero_add _;refine ⟨_,rfl,t,_,0,_,rfl,rfl,Zd.of plA.t,rfl,_,rfl,a,ns,i,?_,plA.a,n10,hi,by omega,λl as HB gB nl fre el rows=>?_⟩
  ·rw [ei]
   rfl
  refine ⟨l,rfl,⟨_,zQ.of el⟩,?_⟩;have aml:(as.map V.ref).length=as.length:=qA _;have al:=rows.len;have gAB:=gA.trans gB;refine zAQ (xs:=as.map V.ref) (λj σ H'=>∃x2:Option V,σ=[some (.ref t),some (.int (0+(i:Int))),x2]/\zC HB H'/\∀c∈(Zw i ns).take j,JK ns ss c=false) ⟨_,rfl,zC.rfl',λ_ h=>by rw [List.take_zero] at h; cases h⟩ (λj σ H' _ ⟨_,_,g,_⟩=>zQ.of (g _ _ el)) ?_ ?_
  ·rintro j v σ HC hv ⟨x2,rfl,gC,no2⟩
   have hj:j<as.length:=by
    have:=(qZ.mp hv).1
    rwa [aml] at this
   have hj':j<(Zw i ns).length:=by omega
   rw [qR,qB hj] at hv;cases hv;obtain ⟨er,am,rm⟩:=rows.get hj;have ga:as.getD j 0=as[j]:=by rw [qC,qB hj]; rfl
   have gr:(Zw i ns).getD j []=(Zw i ns)[j]:=by rw [qC,qB hj']; rfl
   rw [gr] at er rm;rw [ga] at er am;obtain ⟨sl,cl⟩:=zBH i ns _ rm;have ri:zAd (Zw i ns)[j]:=⟨pl.ok.n.up.sublist sl,λx hx=>pl.ok.n.bd x (sl.subset hx)⟩;have gAC:=gAB.trans gC;refine ⟨_,rfl,_,rfl,t,a,b,as[j],ns,ss,(Zw i ns)[j],rfl,pl.same gAC,gC _ _ er,ri,by rw [cl]; omega,λx hx=>sl.subset hx,λHD gD=>⟨_,rfl,zq (λc=>?_) (λc=>?_)⟩⟩
   ·refine ⟨_,rfl,q1 _ (Zw i ns)[j] HD (gAC.trans gD) (zt gA (fre _ am)) (gD _ _ (gC _ _ er)) ?_⟩
    unfold ji;have e4:(List.range 4).flatMap (λk=>Zw k ns)=(List.range i).flatMap (λk=>Zw k ns)++(Zw i ns++((List.range 4).drop (i+1)).flatMap λk=>Zw k ns):=by
     have hr4:List.range 4=List.range i++(i::(List.range 4).drop (i+1)):=by
      have hi4:i<(List.range 4).length:=by rw [xX]; exact hi
      conv=>lhs; rw [<-List.take_append_drop i (List.range 4),XR hi4]
      rw [List.take_range,List.getElem_range,Nat.min_eq_left (by omega)]
     conv=>lhs; rw [hr4]
     rw [List.flatMap_append,List.flatMap_cons]
    rw [e4,List.find?_append,xW.mpr (λc hc z=>by rw [no c hc] at z; cases z),Option.none_or,List.find?_append];have e5:(Zw i ns).find? (JK ns ss)=some (Zw i ns)[j]:=by
     conv=>lhs; rw [<-List.take_append_drop j (Zw i ns),XR hj']
     rw [List.find?_append,xW.mpr (λc hc z=>by rw [no2 c hc] at z; cases z),Option.none_or,List.find?_cons_of_pos c]
    rw [e5];rfl
   ·refine ⟨_,rfl,gC.trans gD,λc' hc'=>?_⟩
    rw [List.take_succ,qB hj'] at hc';rcases qO.mp hc' with z | z
    ·exact no2 c' z
    ·rw [qH.mp (show c'∈[(Zw i ns)[j]] from z)]
     exact QR.mpr c
  ·rintro σ HC ⟨x2,rfl,gC,no2⟩
   rw [aml,al,List.take_length] at no2;refine ⟨_,_,rfl,gAB.trans gC,λc hc=>?_⟩;rw [List.range_succ,List.flatMap_append,List.flatMap_singleton] at hc;rcases qO.mp hc with z | z
   ·exact no c z
   ·exact no2 c z
 ·rintro σ HA ⟨x1,x2,rfl,gA,no⟩
  refine q0 _ gA ?_;unfold ji;exact xW.mpr λc hc z=>by rw [no c hc] at z; cases z
end
end Ct
abbrev zHE:Stmt:=top 59
abbrev zKy:Stmt:=top 60
abbrev zKY:Stmt:=top 61
abbrev zKS:Stmt:=ZJ (top 64) 0
abbrev zKz:Stmt:=ZJ (top 64) 1
abbrev zKI:Stmt:=ZJ (top 64) 5
abbrev zLR:Stmt:=ZJ (top 64) 6
abbrev zKo:Stmt:=ZJ (top 64) 7
abbrev zKw:Stmt:=ZJ (top 64) 8
def Jk (ns:List Int):PyData->Bool
 | .int n=>ns.contains n
 | _=>false
def jI (ns:List Int):PyData->Bool
 | .int n=>decide (0≤n)&& !ns.contains n
 | _=>false
structure KpT (K:W.Frag) (C:Addr):Prop where
 cl:JV K C
 nN:ZL K C "numbers"
 nS:ZL K C "sums"
structure Kp (H:Hp) (C k dx a b:Addr) (ns ss:List Int):Prop where
 k:H k=some (.ins C dx [("numbers", .ref a),("sums", .ref b)])
 a:H a=some (.lst (ns.map V.int))
 b:H b=some (.lst (ss.map V.int))
 ok:zCb ns ss
theorem Kp.same {H H':Hp} {C k dx a b:Addr} {ns ss:List Int} (h:Kp H C k dx a b ns ss) (g:zC H H'):Kp H' C k dx a b ns ss:=⟨g _ _ h.k,g _ _ h.a,g _ _ h.b,h.ok⟩
def zFV (XT:Addr):Sp:=λvs H Q E=>∃(a:Addr) (ns:List Int),vs=[.ref a]/\H a=some (.lst (ns.map V.int))/\(ns.length<10->Q .non H)/\(10≤ns.length->E (.ref XT) none H)
def Jx (f:List Int->PyData->Bool):Sp:=λvs H Q _=>∃(a:Addr) (ns:List Int) (v:V) (d:PyData),vs=[.ref a,v]/\H a=some (.lst (ns.map V.int))/\yD H v d/\Q (.bl (f ns d)) H
def zMV (C:Addr):Sp:=λvs H Q _=>∃(k dx t a b:Addr) (ns ss:List Int),vs=[.ref k, .ref t]/\H k=some (.ins C dx [])/\Zm H t a b ns ss/\∀(a' b':Addr) (H':Hp),Ex (·=k) H H'->Kp H' C k dx a' b' ns ss->H a'=none->H b'=none->Q .non H'
def zHv (C:Addr):Sp:=λvs H Q _=>∃(k dx a b:Addr) (ns ss:List Int),vs=[.ref k]/\Kp H C k dx a b ns ss/\∀(t a' b':Addr) (H':Hp),zC H H'->H t=none->H a'=none->H b'=none->a'≠b'->Zm H' t a' b' ns ss->Q (.ref t) H'
def zGv (ns:List Int) (d:PyData):Nat:=if 10≤ns.length then 1 else if jI ns d=true then 0 else 2
def zBI (ns _ss:List Int) (d:PyData):Nat:=zGv ns d
def zBL (_ns ss:List Int) (d:PyData):Nat:=zGv ss d
def zBJ (ns _ss:List Int) (d:PyData):Nat:=if (Jk ns d&&decide (ns.length≠1))=true then 0 else 2
def zBW (_ns ss:List Int) (d:PyData):Nat:=if Jk ss d=true then 0 else 2
def yZ (C XT XW:Addr) (due:List Int->List Int->PyData->Nat):Sp:=λvs H _ E=>∃(k dx a b:Addr) (ns ss:List Int) (x:Int),vs=[.ref k, .int x]/\Kp H C k dx a b ns ss/\((due ns ss (.int x)=1/\E (.ref XT) none H)\/(due ns ss (.int x)=2/\E (.ref XW) none H))
section
variable {f g1 g2 g3 g4 C XT XW:Addr} {fd gd1 gd2 gd3 gd4:FuncData} {t10:Tok} {sp1 sp2:Sp}
theorem zPD:zP ["numbers"] ["numbers"] (zF zHE):=ZA
theorem zMt (F:zm K "check_room" "check_room" zHE f fd) (B:Bt3 mg) (m10:mg "MOST"=some (.int 10 t10)) (eXT:W.excIn K XT JJ "ValueError.__new__"=true) (mXT:mg "TooMany"=some (.ref XT)):zH P w K mg base (Zv P w) 1 f fd ["numbers"] (zFV XT):=by
 refine F.ok1 zPD (λvs H Q E h=>?_) (λcdv A outer s H vs Q E hr h=>?_)
 ·obtain ⟨a,ns,rfl,_⟩:=h
  rfl
 obtain ⟨a,ns,rfl,ha,q,qe⟩:=h;refine ⟨_,(@zG _ _ _ (zy (zh zCN (zY ZD rfl B.len QB (zA (pv 0) zB)) (zr (v:= .int 10) rfl m10 ⟨_,rfl⟩) (zk _)) (@zG _ _ _ (Z7 yT rfl QC eXT rfl mXT (zA zV zB))) zf)),?_⟩;have hml:(ns.map V.int).length=ns.length:=qA _;refine ⟨_,rfl,a,_,rfl, .inl (zQ.of ha),_,_,rfl,rfl,_,rfl,zq (λc=>?_) (λc=>?_)⟩
 ·have c':=of_decide_eq_true c
  rw [hml] at c';exact ⟨by decide,qe (by omega)⟩
 ·refine q ?_
  have c':¬(10:Int)≤(((ns.map V.int).length:Nat):Int):=λz=>c (decide_eq_true z)
  rw [hml] at c';omega
theorem zQr:zP ["numbers","thing"] ["numbers","thing"] (zF zKy):=ZA
theorem zPc (F:zm K "stands_in" "stands_in" zKy f fd) (GW:zH P w K mg base zT 1 g1 gd1 ["thing"] jg) (bW:zL K gd1 ["thing"] []) (kW:ZC K g1) (mW:mg "is_whole"=some (.ref g1)):zH P w K mg base zT 2 f fd ["numbers","thing"] (Jx Jk):=by
 refine F.ok zQr (λvs H Q E h=>?_) (λcdv A outer s H vs Q E hr h=>?_)
 ·obtain ⟨a,ns,v,d,rfl,_⟩:=h
  rfl
 obtain ⟨a,ns,v,d,rfl,ha,hd,q⟩:=h;refine ⟨_,(@zG _ _ _ (zR (Yv (zU GW hr rfl mW kW bW .nil zO (zA (pv 1) zB)) (Ya (Z4 (J3 K) (pv 1) (pv 0) rfl))))),?_⟩;refine ⟨_,rfl,v,d,rfl,hd,_,rfl,zq (λc=>?_) (λc=>?_)⟩
 ·cases hd with
  | int n=>exact ⟨_,rfl,_,rfl,a,n,ns,rfl,rfl,zQ.of ha,q⟩
  | _=>cases c
 ·have e:Jk ns d=false:=by cases d <;> first | rfl | exact absurd rfl c
  rw [e] at q;exact q
theorem zQg:zP ["numbers","thing"] ["numbers","thing"] (zF zKY):=ZA
theorem zPi (F:zm K "is_new" "is_new" zKY f fd) (GW:zH P w K mg base zT 1 g1 gd1 ["thing"] jg) (bW:zL K gd1 ["thing"] []) (kW:ZC K g1) (mW:mg "is_whole"=some (.ref g1)):zH P w K mg base zT 2 f fd ["numbers","thing"] (Jx jI):=by
 refine F.ok zQg (λvs H Q E h=>?_) (λcdv A outer s H vs Q E hr h=>?_)
 ·obtain ⟨a,ns,v,d,rfl,_⟩:=h
  rfl
 obtain ⟨a,ns,v,d,rfl,ha,hd,q⟩:=h;refine ⟨_,(@zG _ _ _ (zR (Yv (zU GW hr rfl mW kW bW .nil zO (zA (pv 1) zB)) (Yv (Z4 zCN (pv 1) zK (zk _)) (Ya (Z4 (zAu K) (pv 1) (pv 0) rfl)))))),?_⟩;refine ⟨_,rfl,v,d,rfl,hd,_,rfl,zq (λc=>?_) (λc=>?_)⟩
 ·cases hd with
  | int n=>
   refine ⟨_,rfl,_,_,rfl,rfl,_,rfl,zq (λc2=>?_) (λc2=>?_)⟩
   ·have c3:decide (0≤n)=true:=c2
    have e:jI ns (.int n)= !ns.contains n:=by rw [jI,c3,QL]
    rw [e] at q;exact ⟨_,rfl,_,rfl,a,n,ns,rfl,rfl,zQ.of ha,q⟩
   ·have c3:decide (0≤n)=false:=by cases h:decide (0≤n) with | true=>exact absurd h c2 | false=>rfl
    have e:jI ns (.int n)=false:=by rw [jI,c3,QH]
    rw [e] at q;exact q
  | _=>cases c
 ·have e:jI ns d=false:=by cases d <;> first | rfl | exact absurd rfl c
  rw [e] at q;exact q
theorem zRa:zP ["self","plan"] ["self","plan"] (zF zKS):=ZA
theorem zMn (F:zm K "__init__" "Keeper.__init__" zKS f fd) (B:Bt3 mg) (T:KpT K C) (GC:zH P w K mg base zT 4 g1 gd1 ["plan"] jF) (bC:zL K gd1 ["plan"] []) (kC:ZC K g1) (mC:mg "check_plan"=some (.ref g1)):zH P w K mg base zT 5 f fd ["self","plan"] (zMV C):=by
 refine F.ok zRa (λvs H Q E h=>?_) (λcdv A outer s H vs Q E hr h=>?_)
 ·obtain ⟨k,dx,t,a,b,ns,ss,rfl,_⟩:=h
  rfl
 obtain ⟨k,dx,t,a,b,ns,ss,rfl,hk,pl,q⟩:=h;refine ⟨_,(@zE _ _ _ _ _ (ZI (zU GC hr rfl mC kC bC .nil zO (zA (pv 1) zB))) (@zE _ _ _ _ _ (YW (pv 0) (Zu ym rfl B.list xH (zA (zu Z3 (pv 1) zK (λ_ _=>rfl)) zB)) rfl) (@zG _ _ _ (YW (pv 0) (Zu ym rfl B.list xH (zA (zu Z3 (pv 1) zK (λ_ _=>rfl)) zB)) rfl)))),?_⟩;have tk:t≠k:=Zc pl.t hk (by intro z; cases z);have ak:a≠k:=Zc pl.a hk (by intro z; cases z);have bk:b≠k:=Zc pl.b hk (by intro z; cases z);refine ⟨_,rfl,t,a,b,ns,ss,rfl,pl,?_⟩;refine ⟨_,rfl,t,_,0,_,rfl,rfl,Zd.of pl.t,rfl,a,_,rfl, .inl (zQ.of pl.a),λl1 hl1=>?_⟩;have kl1:k≠l1:=zJ hk hl1;have g1:zC H (upd H l1 (.lst (ns.map V.int))):=zC.new hl1 _;refine ⟨_,rfl,k,C,dx,_,rfl,g1 _ _ hk,T.cl,T.nN,(by show 0<1000; decide),?_⟩;have st:∀{c:Addr} {o:HO},c≠k->H c=some o->∀{o1},(upd (upd H l1 (.lst (ns.map V.int))) k o1) c=some o:=λ{c o} hc h {o1}=>by rw [zI hc]; exact g1 _ _ h
 refine ⟨_,rfl,t,_,1,_,rfl,rfl,Zd.of (st tk pl.t),rfl,b,_,rfl, .inl (zQ.of (st bk pl.b)),λl2 hl2=>?_⟩;have kl2:l2≠k:=λz=>by rw [z,zD] at hl2; cases hl2
 have l12:l2≠l1:=λz=>by rw [z,zI (Ne.symm kl1),zD] at hl2; cases hl2
 have hl2':H l2=none:=by rwa [zI kl2,zI l12] at hl2
 refine ⟨_,rfl,k,C,dx,_,rfl,by rw [zI (Ne.symm kl2)]; exact zD,T.cl,T.nS,(by show 1<1000; decide),?_⟩;refine q l1 l2 _ (λc o hc h=>?_) ⟨?_,?_,?_,pl.ok⟩ hl1 hl2'
 ·rw [zI hc,zI (zJ h hl2'),zI hc]
  exact g1 _ _ h
 ·rw [zD]
  rfl
 ·rw [zI (Ne.symm kl1),zI (Ne.symm l12),zI (Ne.symm kl1),zD]
 ·rw [zI kl2,zD]
theorem zRS:zP ["self"] ["self"] (zF zKz):=ZA
theorem zPJ (F:zm K "plan" "Keeper.plan" zKz f fd) (B:Bt3 mg) (T:KpT K C):zH P w K mg base zT 1 f fd ["self"] (zHv C):=by
 refine F.ok zRS (λvs H Q E h=>?_) (λcdv A outer s H vs Q E hr h=>?_)
 ·obtain ⟨k,dx,a,b,ns,ss,rfl,_⟩:=h
  rfl
 obtain ⟨k,dx,a,b,ns,ss,rfl,kp,q⟩:=h;refine ⟨_,(@zG _ _ _ (zR (yc (zA (Zu ym rfl B.list xH (zA (ZB (pv 0) rfl) zB)) (zA (Zu ym rfl B.list xH (zA (ZB (pv 0) rfl) zB)) zB))))),?_⟩;refine ⟨_,rfl,k,C,dx,_,_,rfl,kp.k,T.cl,T.nN,rfl,a,_,rfl, .inl (zQ.of kp.a),λl1 hl1=>?_⟩;have g1:=zC.new hl1 (.lst (ns.map V.int));have k1:=kp.same g1;refine ⟨_,rfl,k,C,dx,_,_,rfl,k1.k,T.cl,T.nS,rfl,b,_,rfl, .inl (zQ.of k1.b),λl2 hl2=>?_⟩;have g2:=zC.new hl2 (.lst (ss.map V.int));refine ⟨Z9,λt ht=>?_⟩;have g3:=zC.new ht (.tup [.ref l1, .ref l2]);have n2:H l2=none:=zt g1 hl2;have n3:H t=none:=zt (g1.trans g2) ht;refine q t l1 l2 _ (g1.trans (g2.trans g3)) n3 hl1 n2 (λz=>by rw [<-z,zD] at hl2; cases hl2) ⟨zD,g3 _ _ (g2 _ _ zD),g3 _ _ zD,kp.ok⟩
theorem zQW:zP ["self","number"] ["self","number"] (zF zKI):=ZA
theorem zPp (F:zm K "come" "Keeper.come" zKI f fd) (B:Bt3 mg) (T:KpT K C) (eXW:W.excIn K XW JJ "ValueError.__new__"=true) (mXW:mg "NoNumber"=some (.ref XW))
  (GR:zH P w K mg base (Zv P w) 6 g1 gd1 ["numbers"] (zFV XT)) (bR:zL K gd1 ["numbers"] []) (kR:ZC K g1) (mR:mg "check_room"=some (.ref g1))
  (GI:zH P w K mg base zT 6 g2 gd2 ["numbers","thing"] (Jx jI)) (bI:zL K gd2 ["numbers","thing"] []) (kI:ZC K g2) (mI:mg "is_new"=some (.ref g2))
  (GW:zH P w K mg base zT 6 g3 gd3 ["numbers","number"] sp1) (bW:zL K gd3 ["numbers","number"] []) (kW:ZC K g3) (mW:mg "with_one"=some (.ref g3))
  (mC:ZH K C "change_to" g4) (GC:zH P w K mg base zT 6 g4 gd4 ["self","numbers","sums"] sp2) (bC:zL K gd4 ["self","numbers","sums"] []):zH P w K mg base (Zv P w) 7 f fd ["self","number"] (yZ C XT XW zBI):=by
 refine F.ok1 zQW (λvs H Q E h=>?_) (λcdv A outer s H vs Q E hr h=>?_)
 ·obtain ⟨k,dx,a,b,ns,ss,x,rfl,_⟩:=h
  rfl
 obtain ⟨k,dx,a,b,ns,ss,x,rfl,kp,q⟩:=h;unfold zBI zGv at q;refine ⟨_,(@zE _ _ _ _ _ (ZI (zU GR hr rfl mR kR bR .nil y0 (zA (ZB (pv 0) rfl) zB))) (@zE _ _ _ _ _ (zy (Zn (Zf (zU GI hr rfl mI kI bI .nil zO (zA (ZB (pv 0) rfl) (zA (pv 1) zB))))) (@zG _ _ _ (Z7 yT rfl QC eXW rfl mXW (zA zV zB))) zf) (@zG _ _ _ (zR (z0 (pv 0) T.cl mC GC hr bC .nil zO (zA (zU GW hr rfl mW kW bW .nil zO (zA (ZB (pv 0) rfl) (zA (pv 1) zB))) (zA (ZB (pv 0) rfl) zB))))))),?_⟩;refine ⟨_,rfl,k,C,dx,_,_,rfl,kp.k,T.cl,T.nN,rfl,a,ns,rfl,kp.a,λr1=>?_,λr1=>?_⟩
 ·rw [if_neg (by omega)] at q
  refine ⟨_,rfl,k,C,dx,_,_,rfl,kp.k,T.cl,T.nN,rfl,_,rfl,a,ns, .int x, .int x,rfl,kp.a, .int x,_,rfl,?_⟩;cases hn:jI ns (.int x) with
  | true=>
   rw [hn,if_pos rfl] at q;rcases q with ⟨z,_⟩ | ⟨z,_⟩ <;> cases z
  | false=>
   rw [hn,if_neg (λz=>by cases z)] at q;rcases q with ⟨z,_⟩ | ⟨_,q⟩
   ·cases z
   ·exact yA ⟨by decide,q⟩
 ·rw [if_pos r1] at q
  rcases q with ⟨_,q⟩ | ⟨z,_⟩
  ·exact q
  ·cases z
theorem zRK:zP ["self","number"] ["self","number"] (zF zKo):=ZA
theorem zOB (F:zm K "sum_comes" "Keeper.sum_comes" zKo f fd) (B:Bt3 mg) (T:KpT K C) (eXW:W.excIn K XW JJ "ValueError.__new__"=true) (mXW:mg "NoSum"=some (.ref XW))
  (GR:zH P w K mg base (Zv P w) 6 g1 gd1 ["numbers"] (zFV XT)) (bR:zL K gd1 ["numbers"] []) (kR:ZC K g1) (mR:mg "check_room"=some (.ref g1))
  (GI:zH P w K mg base zT 6 g2 gd2 ["numbers","thing"] (Jx jI)) (bI:zL K gd2 ["numbers","thing"] []) (kI:ZC K g2) (mI:mg "is_new"=some (.ref g2))
  (GW:zH P w K mg base zT 6 g3 gd3 ["numbers","number"] sp1) (bW:zL K gd3 ["numbers","number"] []) (kW:ZC K g3) (mW:mg "with_one"=some (.ref g3))
  (mC:ZH K C "change_to" g4) (GC:zH P w K mg base zT 6 g4 gd4 ["self","numbers","sums"] sp2) (bC:zL K gd4 ["self","numbers","sums"] []):zH P w K mg base (Zv P w) 7 f fd ["self","number"] (yZ C XT XW zBL):=by
 refine F.ok1 zRK (λvs H Q E h=>?_) (λcdv A outer s H vs Q E hr h=>?_)
 ·obtain ⟨k,dx,a,b,ns,ss,x,rfl,_⟩:=h
  rfl
 obtain ⟨k,dx,a,b,ns,ss,x,rfl,kp,q⟩:=h;unfold zBL zGv at q;refine ⟨_,(@zE _ _ _ _ _ (ZI (zU GR hr rfl mR kR bR .nil y0 (zA (ZB (pv 0) rfl) zB))) (@zE _ _ _ _ _ (zy (Zn (Zf (zU GI hr rfl mI kI bI .nil zO (zA (ZB (pv 0) rfl) (zA (pv 1) zB))))) (@zG _ _ _ (Z7 yT rfl QC eXW rfl mXW (zA zV zB))) zf) (@zG _ _ _ (zR (z0 (pv 0) T.cl mC GC hr bC .nil zO (zA (ZB (pv 0) rfl) (zA (zU GW hr rfl mW kW bW .nil zO (zA (ZB (pv 0) rfl) (zA (pv 1) zB))) zB))))))),?_⟩;refine ⟨_,rfl,k,C,dx,_,_,rfl,kp.k,T.cl,T.nS,rfl,b,ss,rfl,kp.b,λr1=>?_,λr1=>?_⟩
 ·rw [if_neg (by omega)] at q
  refine ⟨_,rfl,k,C,dx,_,_,rfl,kp.k,T.cl,T.nS,rfl,_,rfl,b,ss, .int x, .int x,rfl,kp.b, .int x,_,rfl,?_⟩;cases hn:jI ss (.int x) with
  | true=>
   rw [hn,if_pos rfl] at q;rcases q with ⟨z,_⟩ | ⟨z,_⟩ <;> cases z
  | false=>
   rw [hn,if_neg (λz=>by cases z)] at q;rcases q with ⟨z,_⟩ | ⟨_,q⟩
   ·cases z
   ·exact yA ⟨by decide,q⟩
 ·rw [if_pos r1] at q
  rcases q with ⟨_,q⟩ | ⟨z,_⟩
  ·exact q
  ·cases z
theorem zRd:zP ["self","number"] ["self","number"] (zF zLR):=ZA
theorem zQB (F:zm K "go" "Keeper.go" zLR f fd) (B:Bt3 mg) (T:KpT K C) (eXW:W.excIn K XW JJ "ValueError.__new__"=true) (mXW:mg "NoNumber"=some (.ref XW))
  (GI:zH P w K mg base zT 6 g2 gd2 ["numbers","thing"] (Jx Jk)) (bI:zL K gd2 ["numbers","thing"] []) (kI:ZC K g2) (mI:mg "stands_in"=some (.ref g2))
  (GW:zH P w K mg base zT 6 g3 gd3 ["numbers","number"] sp1) (bW:zL K gd3 ["numbers","number"] []) (kW:ZC K g3) (mW:mg "without_one"=some (.ref g3))
  (mC:ZH K C "change_to" g4) (GC:zH P w K mg base zT 6 g4 gd4 ["self","numbers","sums"] sp2) (bC:zL K gd4 ["self","numbers","sums"] []):zH P w K mg base (Zv P w) 7 f fd ["self","number"] (yZ C XT XW zBJ):=by
 refine F.ok1 zRd (λvs H Q E h=>?_) (λcdv A outer s H vs Q E hr h=>?_)
 ·obtain ⟨k,dx,a,b,ns,ss,x,rfl,_⟩:=h
  rfl
 obtain ⟨k,dx,a,b,ns,ss,x,rfl,kp,q⟩:=h;unfold zBJ at q;refine ⟨_,(@zE _ _ _ _ _ (zy (PW.pt (Yd (Zn (Zf (zU GI hr rfl mI kI bI .nil zO (zA (ZB (pv 0) rfl) (zA (pv 1) zB))))) (YC (zh ye (zY ZD rfl B.len QB (zA (ZB (pv 0) rfl) zB)) zK (zk _))))) (@zG _ _ _ (Z7 yT rfl QC eXW rfl mXW (zA zV zB))) zf) (@zG _ _ _ (zR (z0 (pv 0) T.cl mC GC hr bC .nil zO (zA (zU GW hr rfl mW kW bW .nil zO (zA (ZB (pv 0) rfl) (zA (pv 1) zB))) (zA (ZB (pv 0) rfl) zB)))))),?_⟩;refine ⟨_,rfl,k,C,dx,_,_,rfl,kp.k,T.cl,T.nN,rfl,_,rfl,a,ns, .int x, .int x,rfl,kp.a, .int x,_,rfl,?_⟩;have hml:(ns.map V.int).length=ns.length:=qA _;cases hn:Jk ns (.int x) with
 | false=>
  rw [hn,if_neg (by simp)] at q;rcases q with ⟨z,_⟩ | ⟨_,q⟩
  ·cases z
  ·exact yA (yA ⟨by decide,q⟩)
 | true=>
  rw [hn] at q;refine yF ?_;refine ⟨_,rfl,k,C,dx,_,_,rfl,kp.k,T.cl,T.nN,rfl,a,_,rfl, .inl (zQ.of kp.a),rfl,_,rfl,zq (λc=>?_) (λc=>?_)⟩
  ·have c':((((ns.map V.int).length:Nat):Int))=1:=V.int.inj (of_decide_eq_true c)
   rw [hml] at c';rw [if_neg (λz=>by rw [qM] at z; exact of_decide_eq_true z.2 (by omega))] at q;rcases q with ⟨z,_⟩ | ⟨_,q⟩
   ·cases z
   ·exact ⟨by decide,q⟩
  ·have l1:ns.length≠1:=λz=>c (decide_eq_true (by rw [hml,z]; rfl))
   rw [decide_eq_true l1,if_pos (show (true&&true)=true from rfl)] at q;rcases q with ⟨z,_⟩ | ⟨z,_⟩ <;> cases z
theorem zRT:zP ["self","number"] ["self","number"] (zF zKw):=ZA
theorem zPQ (F:zm K "sum_goes" "Keeper.sum_goes" zKw f fd) (B:Bt3 mg) (T:KpT K C) (eXW:W.excIn K XW JJ "ValueError.__new__"=true) (mXW:mg "NoSum"=some (.ref XW))
  (GI:zH P w K mg base zT 6 g2 gd2 ["numbers","thing"] (Jx Jk)) (bI:zL K gd2 ["numbers","thing"] []) (kI:ZC K g2) (mI:mg "stands_in"=some (.ref g2))
  (GW:zH P w K mg base zT 6 g3 gd3 ["numbers","number"] sp1) (bW:zL K gd3 ["numbers","number"] []) (kW:ZC K g3) (mW:mg "without_one"=some (.ref g3))
  (mC:ZH K C "change_to" g4) (GC:zH P w K mg base zT 6 g4 gd4 ["self","numbers","sums"] sp2) (bC:zL K gd4 ["self","numbers","sums"] []):zH P w K mg base (Zv P w) 7 f fd ["self","number"] (yZ C XT XW zBW):=by
 refine F.ok1 zRT (λvs H Q E h=>?_) (λcdv A outer s H vs Q E hr h=>?_)
 ·obtain ⟨k,dx,a,b,ns,ss,x,rfl,_⟩:=h
  rfl
 obtain ⟨k,dx,a,b,ns,ss,x,rfl,kp,q⟩:=h;unfold zBW at q;refine ⟨_,(@zE _ _ _ _ _ (zy (Zn (Zf (zU GI hr rfl mI kI bI .nil zO (zA (ZB (pv 0) rfl) (zA (pv 1) zB))))) (@zG _ _ _ (Z7 yT rfl QC eXW rfl mXW (zA zV zB))) zf) (@zG _ _ _ (zR (z0 (pv 0) T.cl mC GC hr bC .nil zO (zA (ZB (pv 0) rfl) (zA (zU GW hr rfl mW kW bW .nil zO (zA (ZB (pv 0) rfl) (zA (pv 1) zB))) zB)))))),?_⟩;refine ⟨_,rfl,k,C,dx,_,_,rfl,kp.k,T.cl,T.nS,rfl,_,rfl,b,ss, .int x, .int x,rfl,kp.b, .int x,_,rfl,?_⟩;cases hn:Jk ss (.int x) with
 | false=>
  rw [hn,if_neg (by simp)] at q;rcases q with ⟨z,_⟩ | ⟨_,q⟩
  ·cases z
  ·exact yA ⟨by decide,q⟩
 | true=>
  rw [hn,if_pos rfl] at q;rcases q with ⟨z,_⟩ | ⟨z,_⟩ <;> cases z
end
namespace Tt
abbrev sWr:Stmt:=top 70
abbrev sWb:Stmt:=top 71
abbrev zER:Stmt:=top 72
abbrev zEl:Stmt:=top 73
abbrev sSw:Stmt:=top 74
abbrev zHT:Stmt:=top 75
theorem j0 {H:Hp}:∀{xs:List V} {ds:List PyData} {b:Int},ZK H xs ds->Zh b ds=true->∃ns:List Int,xs=ns.map V.int/\ds=ns.map PyData.int/\ns.Pairwise (·<·)/\∀x∈ns,b<x
 | _,_,_, .nil,_=>⟨[],rfl,rfl,List.Pairwise.nil,λx hx=>nomatch hx⟩
 | _,_,b, .cons (d:=d) (ds:=ds) h t,e=>by
  cases h with
  | int n=>
   change (decide (b<n)&&Zh n ds)=true at e
   rw [qM,decide_eq_true_eq] at e;obtain ⟨ns,rfl,rfl,up,lo⟩:=j0 t e.2;refine ⟨n::ns,rfl,rfl,QT.mpr ⟨lo,up⟩,λx hx=>?_⟩;rcases qG.mp hx with z | z
   ·rw [z]; exact e.1
   ·have:=lo x z; omega
  | _=>cases e
theorem jR {H:Hp} {v:V} {d:PyData} {few:Int} (hd:yD H v d) (e:yp few d=true):∃(a:Addr) (ns:List Int),v= .ref a/\H a=some (.lst (ns.map V.int))/\d= .list (ns.map PyData.int)/\zAd ns/\few≤(ns.length:Int)/\ns.length≤10:=by
 cases hd with
 | lst ha hx=>
  rename_i a xs ds
  change (decide (few≤(ds.length:Int))&&(decide (ds.length≤10)&&Zh (-1) ds))=true at e
  rw [qM,qM,decide_eq_true_eq,decide_eq_true_eq] at e;obtain ⟨ns,rfl,rfl,up,lo⟩:=j0 hx e.2.2;rw [qA] at e;exact ⟨a,ns,rfl,ha,rfl,⟨up,λx hx=>by have:=lo x hx; omega⟩,e.1,e.2.1⟩
 | _=>cases e
def zKr:Sp:=λvs H Q _=>∃z:Str,vs=[.str z]/\z.cps.size≤1000/\∀H',zC H H'->Q (.bl (ya z)) H'
def zCP:Sp:=λvs H Q _=>∃(p:Addr) (zs:List Int),vs=[.ref p]/\H p=some (.lst (zs.map V.int))/\Wid zs/\zs.length≤100/\∀H',zC H H'->Q (.str (Zk zs)) H'
def zDR (ns ss:List Int):PyData:= .tuple [.list (ns.map PyData.int), .list (ss.map PyData.int)]
theorem zCo (ns ss:List Int):j9 (zDR ns ss)=(yh 1 ns&&yh 0 ss):=rfl
theorem zLH {ns ss ms ts:List Int} (h:zDR ns ss=zDR ms ts):ns=ms/\ss=ts:=by
 have q:=PyData.tuple.inj h;have q1:=PyData.list.inj (List.cons.inj q).1;have q2:=PyData.list.inj (List.cons.inj (List.cons.inj q).2).1;have inj:∀(l m:List Int),l.map PyData.int=m.map PyData.int->l=m:=λl m e=>(List.map_inj_right (λa b z=>PyData.int.inj z)).mp e
 exact ⟨inj _ _ q1,inj _ _ q2⟩
theorem zMl {H:Hp} {v:V} {d:PyData} (hd:yD H v d) (e:j9 d=true):∃(t a b:Addr) (ns ss:List Int),v= .ref t/\Zm H t a b ns ss/\d=zDR ns ss:=by
 cases hd with
 | tup ht hx=>
  rename_i t xs ds
  match ds,hx,e with
  | [x,y], .cons h1 (.cons h2 .nil),e=>
   change (yp 1 x&&yp 0 y)=true at e
   rw [qM] at e;obtain ⟨a,ns,rfl,ha,rfl,rn,n1,n2⟩:=jR h1 e.1;obtain ⟨b,ss,rfl,hb,rfl,rs,s1,s2⟩:=jR h2 e.2;exact ⟨t,a,b,ns,ss,rfl,⟨ht,ha,hb,⟨rn,rs,by omega,n2,s2⟩⟩,rfl⟩
  | [],_,e=>cases e
  | [_],_,e=>cases e
  | _::_::_::_,_,e=>cases e
 | _=>cases e
def zGS:Sp:=λvs H Q _=>∃(t a b:Addr) (ns ss:List Int),vs=[.ref t]/\Zm H t a b ns ss/\Wid ns/\Wid ss/\∀H',zC H H'->Q (.str (jm ns ss)) H'
def zIm (XT:Addr):Sp:=λvs H Q E=>∃(p:Addr) (ws:List Str),vs=[.ref p]/\H p=some (.lst (ws.map V.str))/\(∀w∈ws,w.length≤570)/\ws.length≤600/\
 (ws.all ya=false->∀H',zC H H'->E (.ref XT) none H')/\(ws.all ya=true->∀(l:Addr) (H':Hp),zC H H'->H l=none->H' l=some (.lst ((ws.map ZT).map V.int))->Q (.ref l) H')
def zMF (XT:Addr):Sp:=λvs H Q E=>∃z:Str,vs=[.str z]/\z.length≤570/\(Je z=none->E (.ref XT) none H)/\∀ws,Je z=some ws->∀(l:Addr) (H':Hp),zC H H'->H l=none->H' l=some (.lst (ws.map V.str))->Q (.ref l) H'
def zGF (XT:Addr):Sp:=λvs H Q E=>∃v d r,vs=[v]/\yD H v d/\ShD d/\RdD d r/\(r=none->∀H',zC H H'->E (.ref XT) none H')/\
 ∀ns ss,r=some (ns,ss)->∀(t a b:Addr) (H':Hp),zC H H'->H t=none->H a=none->H b=none->a≠b->Zm H' t a b ns ss->Q (.ref t) H'
section
variable {f g1 g2 g3 XP XT:Addr} {fd gd1 gd2 gd3:FuncData} {tF:Tok}
theorem zRz:zP ["word"] ["word"] (zF sWr):=ZA
theorem zQQ (F:zm K "is_written_number" "is_written_number" sWr f fd) (B:Bt2 mg) (mF:mg "FIGURES"=some (.str (Str.ofString "0123456789") tF)):zH P w K mg base zT 1 f fd ["word"] zKr:=by
 refine F.ok zRz (λvs H Q E h=>?_) (λcdv A outer s H vs Q E hr h=>?_)
 ·obtain ⟨z,rfl,_⟩:=h
  rfl
 obtain ⟨z,rfl,hz,q⟩:=h;refine ⟨_,(@zE _ _ _ _ _ (zy (PW.pt (Yd (zh ye (pv 0) zV (zk _)) (YC (Zn (Zf (zY (jv rfl) rfl B.all boot_all (zA (Za ["sign"] rfl (ZY (zF sWr) ["word"] rfl rfl (by decide +kernel)) (zJU (pv 0)) (λpins C fp s3 H3=>⟨(zp (i:=0) (show (Zo ["sign"] ["word"]).Nodup by decide +kernel) rfl (Or.inl rfl)),Zp,(Z4 zJG (pv 0) (zr (v:= .str (Str.ofString "0123456789")) rfl mF ⟨_,rfl⟩) rfl)⟩)) zB))))))) (@zG _ _ _ (zR yW)) zf) (@zG _ _ _ (zR (zMU (Z4 ye (pv 0) zV (zk _)) (Ya (zJs (yB QJ PySem.F.slot_str_startswith PySem.F.type_str_startswith zDX (pv 0) (zA zV zB)))))))),?_⟩;unfold ya at q;refine ⟨_,rfl,rfl,_,rfl,zq (λc=>?_) (λc=>?_)⟩
 ·have c':decide (z=Str.ofString "")=true:=by
   have:=of_decide_eq_true c;exact decide_eq_true (V.str.inj this)
  rw [c'] at q;exact q _ zC.rfl'
 have c':decide (z=Str.ofString "")=false:=decide_eq_false λy=>c (decide_eq_true (by rw [y]))
 rw [c'] at q;refine ⟨_,rfl,z,rfl,λD hD=>?_⟩;refine zDc (σ:=[some (.str z)]) (λ_=>true) (λi=> .bl (decide (z.cps.toList.getD i 0∈jf))) hD hz (λi H' hi g=>Z0) (λi H' hi _ g P hP=>?_) λH2 g2 e2=>?_
 ·exact ⟨_,rfl,_,_,rfl,rfl,hP _ zC.rfl'⟩
 refine ⟨D,(List.range z.cps.size).map λi=>decide (z.cps.toList.getD i 0∈jf),rfl,zQ.of (by rw [e2,Y3,qU]; rfl),_,rfl,?_⟩;have ea:((List.range z.cps.size).map λi=>decide (z.cps.toList.getD i 0∈jf)).all id=z.cps.toList.all λc=>decide (c∈jf):=by
  have h:=congrArg (List.map λc=>decide (c∈jf)) (rgD z.cps.toList 0);rw [qU,qJ] at h;rw [show ((List.range z.cps.size).map λi=>decide (z.cps.toList.getD i 0∈jf))=z.cps.toList.map λc=>decide (c∈jf) from h,List.all_map];rfl
 rw [ea];refine zq (λc2=>?_) (λc2=>?_)
 ·have e:(z.cps.toList.all λc=>decide (c∈jf))=false:=by simpa using c2
  rw [e] at q;exact q _ g2
 have e:(z.cps.toList.all λc=>decide (c∈jf))=true:=by simpa using c2
 rw [e] at q;refine ⟨_,rfl,rfl,_,rfl,zq (λc3=>?_) (λc3=>?_)⟩
 ·have c4:decide (z=Str.ofString "0")=true:=decide_eq_true (V.str.inj (of_decide_eq_true c3))
  rw [c4] at q;exact q _ g2
 have c4:decide (z=Str.ofString "0")=false:=decide_eq_false λy=>c3 (decide_eq_true (by rw [y]))
 rw [c4] at q;exact ⟨_,rfl,rfl,z,48,rfl,rfl,_,rfl,q _ g2⟩
theorem zKk:zP ["numbers"] ["numbers"] (zF sWb):=ZA
theorem zPl (F:zm K "with_blanks" "with_blanks" sWb f fd) (B:Bt2 mg):zH P w K mg base zT 1 f fd ["numbers"] zCP:=by
 refine F.ok zKk (λvs H Q E h=>?_) (λcdv A outer s H vs Q E hr h=>?_)
 ·obtain ⟨p,zs,rfl,_⟩:=h
  rfl
 obtain ⟨p,zs,rfl,hp,zb,zl,q⟩:=h;have zml:(zs.map V.int).length=zs.length:=qA _;refine ⟨_,(@zG _ _ _ (zR (yB QJ PySem.F.slot_str_join PySem.F.type_str_join zCu zV (zA (Za ["number"] rfl (ZY (zF sWb) ["numbers"] rfl rfl (by decide +kernel)) (ZM (pv 0)) (λpins C fp s3 H3=>⟨(zp (i:=0) (show (Zo ["number"] ["numbers"]).Nodup by decide +kernel) rfl (Or.inl rfl)),Zp,(Zu zDj rfl B.str boot_str (zA (pv 0) zB))⟩)) zB)))),?_⟩;refine ⟨rfl,_,rfl,p,rfl,⟨_,zQ.of hp⟩,λD hD=>?_⟩;refine yM (σ:=[some (.ref p)]) (xs:=zs.map V.int) (λ_=>true) (λi=> .str (ZF (zs.getD i 0))) (zQ.of hp) hD (by omega) (λi H' hi g=>Z0) (λi H' hi _ g P hP=>?_) λHE gE eE=>?_
 ·rw [zml] at hi
  rw [JI _ hi];refine ⟨_,rfl,zs.getD i 0,rfl,zb _ ?_,hP _ zC.rfl'⟩;rw [qC,qB hi];exact QF hi
 have et:(((List.range (zs.map V.int).length).filter λ_=>true).map λi=>V.str (ZF (zs.getD i 0)))=(zs.map ZF).map V.str:=by
  rw [Y3,zml,qU];have h:=congrArg (List.map λx=>V.str (ZF x)) (rgD zs 0);rw [qU] at h;exact h
 rw [et] at eE;exact ⟨_,D,zs.map ZF,rfl,rfl,zQ.of eE,zHH zb.len zl,q _ gE⟩
theorem zPg:zP ["plan"] ["plan"] (zF zER):=ZA
theorem zLX (F:zm K "show_plan" "show_plan" zER f fd) (B:Bt2 mg)
  (GC:zH P w K mg base zT 4 g1 gd1 ["plan"] jF) (bC:zL K gd1 ["plan"] []) (kC:ZC K g1) (mC:mg "check_plan"=some (.ref g1))
  (GW:zH P w K mg base zT 4 g2 gd2 ["numbers"] zCP) (bW:zL K gd2 ["numbers"] []) (kW:ZC K g2) (mW:mg "with_blanks"=some (.ref g2)):zH P w K mg base zT 5 f fd ["plan"] zGS:=by
 refine F.ok zPg (λvs H Q E h=>?_) (λcdv A outer s H vs Q E hr h=>?_)
 ·obtain ⟨t,a,b,ns,ss,rfl,_⟩:=h
  rfl
 obtain ⟨t,a,b,ns,ss,rfl,pl,hn,hs,q⟩:=h;refine ⟨_,(@zE _ _ _ _ _ (ZI (zU GC hr rfl mC kC bC .nil zO (zA (pv 0) zB))) (@zG _ _ _ (zR (zZ ZX (zZ ZX (zU GW hr rfl mW kW bW .nil zO (zA (zu Z3 (pv 0) zK (λ_ _=>rfl)) zB)) zV) (yB QJ PySem.F.slot_str_join PySem.F.type_str_join zCu zV (zA (Za ["number"] rfl (ZY (zF zER) ["plan"] rfl rfl (by decide +kernel)) (ZM (zu Z3 (pv 0) zK (λ_ _=>rfl))) (λpins C fp s3 H3=>⟨(zp (i:=0) (show (Zo ["number"] ["plan"]).Nodup by decide +kernel) rfl (Or.inl rfl)),Zp,(zZ ZX zV (Zu zDj rfl B.str boot_str (zA (pv 0) zB)))⟩)) zB)))))),?_⟩;refine ⟨_,rfl,t,a,b,ns,ss,rfl,pl,?_⟩;have l1:=zBA hn.len;have l2:=zIG hs.len;have n2:=pl.ok.n2;have s2:=pl.ok.s2;have sml:(ss.map V.int).length=ss.length:=qA _;refine ⟨_,rfl,t,_,0,_,rfl,rfl,Zd.of pl.t,rfl,a,ns,rfl,pl.a,hn,by omega,λH1 g1=>?_⟩;refine ⟨_,_,rfl,rfl,by show (Zk ns).length+1≤sizeLine; rw [sizeLine_eq]; omega,?_⟩;have pl1:=pl.same g1;refine ⟨rfl,_,rfl,t,_,1,_,rfl,rfl,Zd.of pl1.t,rfl,b,rfl,⟨_,zQ.of pl1.b⟩,λD hD=>?_⟩;refine yM (σ:=[some (.ref t)]) (xs:=ss.map V.int) (λ_=>true) (λi=> .str (Str.ofString " "++ZF (ss.getD i 0))) (zQ.of pl1.b) hD (by omega) (λi H' hi g=>Z0) (λi H' hi _ g P hP=>?_) λHE gE eE=>?_
 ·rw [sml] at hi
  rw [JI _ hi];have hm:ss.getD i 0∈ss:=by
   rw [qC,qB hi];exact QF hi
  refine ⟨_,rfl,ss.getD i 0,rfl,hs _ hm,_,_,rfl,rfl,?_,hP _ zC.rfl'⟩;have:=hs.len _ hm;show 1+(ZF (ss.getD i 0)).length≤sizeLine;rw [sizeLine_eq];omega
 have et:(((List.range (ss.map V.int).length).filter λ_=>true).map λi=>V.str (Str.ofString " "++ZF (ss.getD i 0)))=(ss.map λs=>Str.ofString " "++ZF s).map V.str:=by
  rw [Y3,sml,qU];have h:=congrArg (List.map λx=>V.str (Str.ofString " "++ZF x)) (rgD ss 0);rw [qU] at h;exact h
 rw [et] at eE;refine ⟨_,D,ss.map λs=>Str.ofString " "++ZF s,rfl,rfl,zQ.of eE,zFs hs.len (by omega),?_⟩;refine ⟨_,_,rfl,rfl,?_,q _ (g1.trans gE)⟩;have e:(Zk ns++Str.ofString ":").length=(Zk ns).length+1:=Ze _ _;show (Zk ns++Str.ofString ":").length+(yg ss).length≤sizeLine;rw [e,sizeLine_eq];omega
theorem zRP:zP ["words"] ["words"] (zF zEl):=ZA
theorem zNK (F:zm K "numbers_in" "numbers_in" zEl f fd) (B:Bt2 mg) (eXT:W.excIn K XT JJ "ValueError.__new__"=true) (mXT:mg "NoText"=some (.ref XT))
  (GW:zH P w K mg base zT 1 g1 gd1 ["word"] zKr) (bW:zL K gd1 ["word"] []) (kW:ZC K g1) (mW:mg "is_written_number"=some (.ref g1)):zH P w K mg base (Zv P w) 2 f fd ["words"] (zIm XT):=by
 refine F.ok1 zRP (λvs H Q E h=>?_) (λcdv A outer s H vs Q E hr h=>?_)
 ·obtain ⟨p,zs,rfl,_⟩:=h
  rfl
 obtain ⟨p,ws,rfl,hp,hw,wl,qe,q⟩:=h;have zml:(ws.map V.str).length=ws.length:=qA _;have gd:∀{i:Nat},i<ws.length->(ws.map V.str).getD i .non= .str (ws.getD i Str.empty)/\ws.getD i Str.empty∈ws:=λ{i} hi=>by
  constructor
  ·rw [qC,qR,qB hi,qC,qB hi]
   rfl
  ·rw [qC,qB hi]
   exact QF hi
 refine ⟨_,(@zE _ _ _ _ _ (zy (Zn (Zf (zY (jv rfl) rfl B.all boot_all (zA (PE.nox (Za ["word"] rfl (ZY (zF zEl) ["words"] rfl rfl (by decide +kernel)) (ZM (pv 0)) (λpins C fp s3 H3=>⟨(zp (i:=0) (show (Zo ["word"] ["words"]).Nodup by decide +kernel) rfl (Or.inl rfl)),Zp,(zU GW hr rfl mW kW bW .nil zO (zA (pv 0) zB))⟩))) zB)))) (@zG _ _ _ (Z7 yT rfl QC eXT rfl mXT (zA zV zB))) zf) (Yl.nox (@zG _ _ _ (zR (Za ["word"] rfl (ZY (zF zEl) ["words"] rfl rfl (by decide +kernel)) (ZM (pv 0)) (λpins C fp s3 H3=>⟨(zp (i:=0) (show (Zo ["word"] ["words"]).Nodup by decide +kernel) rfl (Or.inl rfl)),Zp,(Zu zAs rfl B.int PyProof.Rows.boot_int (zA (pv 0) zB))⟩)))))),?_⟩;refine ⟨_,rfl,p,rfl,⟨_,zQ.of hp⟩,λD hD=>?_⟩;refine yM (σ:=[some (.ref p)]) (xs:=ws.map V.str) (λ_=>true) (λi=> .bl (ya (ws.getD i Str.empty))) (zQ.of hp) hD (by omega) (λi H' hi g=>Z0) (λi H' hi _ g P hP=>?_) λH1 g1 e1=>?_
 ·rw [zml] at hi
  obtain ⟨e,hm⟩:=gd hi;rw [e];exact ⟨_,rfl,ws.getD i Str.empty,rfl,qK (hw _ hm) (by decide),λH2 g2=>hP _ g2⟩
 have et:((List.range ws.length).map λi=>ya (ws.getD i Str.empty)).all id=ws.all ya:=by
  have h:=congrArg (List.map ya) (rgD ws Str.empty);rw [qU] at h;rw [show ((List.range ws.length).map λi=>ya (ws.getD i Str.empty))=ws.map ya from h,List.all_map];rfl
 refine ⟨D,(List.range ws.length).map λi=>ya (ws.getD i Str.empty),rfl,zQ.of (by rw [e1,Y3,zml,qU]; rfl),_,rfl,?_⟩;rw [et];cases c:ws.all ya with
 | false=>exact yA ⟨by decide,qe c _ g1⟩
 | true=>
  refine yF ?_;have hp1:=g1 _ _ hp;refine ⟨_,rfl,p,rfl,⟨_,zQ.of hp1⟩,λD2 hD2=>?_⟩;refine yM (σ:=[some (.ref p)]) (xs:=ws.map V.str) (λ_=>true) (λi=> .int (ZT (ws.getD i Str.empty))) (zQ.of hp1) hD2 (by omega) (λi H' hi g=>Z0) (λi H' hi _ g P hP=>?_) λH3 g3 e3=>?_
  ·rw [zml] at hi
   obtain ⟨e,hm⟩:=gd hi;rw [e];have lw:=hw _ hm;exact ⟨_,rfl,_,ZT (ws.getD i Str.empty),rfl,zBu (QM.mp c _ hm) (by omega),by omega,hP _ zC.rfl'⟩
  refine q c D2 H3 (g1.trans g3) (zt g1 hD2) ?_;rw [e3,Y3,zml];have h:=congrArg (List.map λw=>V.int (ZT w)) (rgD ws Str.empty);rw [qU] at h;rw [qU];exact congrArg (λl=>some (HO.lst l)) h
theorem zRv:zP ["text"] ["text"] (zF sSw):=ZA
theorem zOC (F:zm K "sum_words" "sum_words" sSw f fd) (eXT:W.excIn K XT JJ "ValueError.__new__"=true) (mXT:mg "NoText"=some (.ref XT)):zH P w K mg base (Zv P w) 1 f fd ["text"] (zMF XT):=by
 refine F.ok1 zRv (λvs H Q E h=>?_) (λcdv A outer s H vs Q E hr h=>?_)
 ·obtain ⟨ss,rfl,_⟩:=h
  rfl
 obtain ⟨z,rfl,zl,qe,q⟩:=h;refine ⟨_,(@zE _ _ _ _ _ (zy (zh ye (pv 0) zV (zk _)) (@zG _ _ _ (zR (ZG zB))) zf) (@zE _ _ _ _ _ (zy (Zn (Zf (yB QJ PySem.F.slot_str_startswith PySem.F.type_str_startswith zDX (pv 0) (zA zV zB)))) (@zG _ _ _ (Z7 yT rfl QC eXT rfl mXT (zA zV zB))) zf) (@zG _ _ _ (zR (yB QJ xQ xR JN (YL JG (pv 0) (Yh zK) Yi) (zA zV zB)))))),?_⟩;unfold Je at qe q;refine ⟨_,rfl,rfl,_,rfl,zq (λc=>?_) (λc=>?_)⟩
 ·have e:z=Str.ofString "":=V.str.inj (of_decide_eq_true c)
  rw [if_pos e] at q;exact ⟨(by show 0≤sizeLine; decide),λl hl=>q [] rfl l _ (zC.new hl _) hl zD⟩
 have ne:z≠Str.ofString "":=λe=>c (decide_eq_true (by rw [e]))
 rw [if_neg ne] at q qe;refine ⟨_,rfl,rfl,z,32,rfl,rfl,_,rfl,?_⟩;by_cases h0:z.cps.toList[0]?=some 32
 ·rw [decide_eq_true h0]
  rw [if_pos h0] at q;refine yF ?_;have le:=zAf z;refine ⟨_,rfl,1,rfl,z,rfl,by rw [sizeLine_eq]; omega,?_⟩;exact ⟨rfl,_,32,rfl,rfl,by rw [sizeLine_eq]; omega,λl hl=>q _ rfl l _ (zC.new hl _) hl zD⟩
 ·rw [decide_eq_false h0]
  rw [if_neg h0] at qe;exact yA ⟨by decide,qe rfl⟩
theorem zFG:zP ["text","halves","plan"] ["text"] (zF zHT):=ZA
theorem zJv (F:zm K "read_plan" "read_plan" zHT f fd) (B:Bt2 mg) (eXT:W.excIn K XT JJ "ValueError.__new__"=true) (mXT:mg "NoText"=some (.ref XT))
  (GN:zH P w K mg base (Zv P w) 4 g1 gd1 ["words"] (zIm XT)) (bN:zL K gd1 ["words"] []) (kN:ZC K g1) (mN:mg "numbers_in"=some (.ref g1))
  (GS:zH P w K mg base (Zv P w) 4 g2 gd2 ["text"] (zMF XT)) (bS:zL K gd2 ["text"] []) (kS:ZC K g2) (mS:mg "sum_words"=some (.ref g2))
  (GP:zH P w K mg base zT 4 g3 gd3 ["thing"] zFI) (bP:zL K gd3 ["thing"] []) (kP:ZC K g3) (mP:mg "is_plan"=some (.ref g3)):zH P w K mg base (Zv P w) 5 f fd ["text"] (zGF XT):=by
 refine F.ok1 zFG (λvs H Q E h=>?_) (λcdv A outer s H vs Q E hr h=>?_)
 ·obtain ⟨v,d,r,rfl,_⟩:=h
  rfl
 obtain ⟨v,d,r,rfl,hd,sh,rd,qe,q⟩:=h;refine ⟨_,(@zE _ _ _ _ _ (zy (PW.pt (Yd (Zn (Zf (zY (Y5 "str") rfl B.isinstance boot_isinstance (zA (pv 0) (zA (jC (v:= .ty "str") rfl B.str boot_str rfl) zB))))) (YC (zh zJg zV (pv 0) rfl)))) (@zG _ _ _ (Z7 yT rfl QC eXT rfl mXT (zA zV zB))) zf) (@zE _ _ _ _ _ (za (i:=1) zFG.nd rfl (Or.inl rfl) (yB QJ xQ xR zId (pv 0) (zA zV (zA zK zB)))) (@zE _ _ _ _ _ (za (i:=2) zFG.nd rfl (Or.inl rfl) (yc (zA (zU GN hr rfl mN kN bN .nil y0 (zA (yB QJ xQ xR JN (zu ZE (pv 1) zK (λ_ _=>rfl)) (zA zV zB)) zB)) (zA (zU GN hr rfl mN kN bN .nil y0 (zA (zU GS hr rfl mS kS bS .nil y0 (zA (zu ZE (pv 1) zK (λ_ _=>rfl)) zB)) zB)) zB)))) (@zE _ _ _ _ _ (zy (Zn (Zf (zU GP hr rfl mP kP bP .nil zO (zA (pv 2) zB)))) (@zG _ _ _ (Z7 yT rfl QC eXT rfl mXT (zA zV zB))) zf) (@zG _ _ _ (zR (pv 2))))))),?_⟩;refine ⟨_,rfl,_,_,isS d,rfl,hd.ty,zMZ _ d,_,rfl,zq (λc=>?_) (λc=>?_)⟩
 ·have e:r=none:=by
   cases d <;> first | exact rd | cases c
  exact yA ⟨by decide,qe e _ zC.rfl'⟩
 cases hd with
 | str z=>
  have zl:=sh z rfl;have rd:RdT z r:=rd;refine ⟨_,rfl,z,58,rfl,rfl,_,rfl,?_⟩;rcases rd with ⟨nc,e⟩ | ⟨a,b,na,ez,e⟩
  ·rw [decide_eq_false nc]
   exact yA ⟨by decide,qe e _ zC.rfl'⟩
  have cin:58∈z.cps.toList:=by rw [ez]; exact qW _ qD
  rw [decide_eq_true cin];refine yF ?_;obtain ⟨la,lb⟩:=zNV ez;refine ⟨_,rfl,rfl,z,58,rfl,rfl,by rw [sizeLine_eq]; omega,λhv hhv=>?_⟩;rw [zHz na ez];have g1:=zC.new hhv (.lst ([a,b].map V.str));have e1:upd H hv (.lst ([a,b].map V.str)) hv=some (.lst [.str a, .str b]):=zD;generalize upd H hv (.lst ([a,b].map V.str))=H1 at g1 e1 ⊢;refine ⟨_,rfl,hv,_,0,_,rfl,rfl,zQ.of e1,rfl,rfl,a,32,rfl,rfl,by rw [sizeLine_eq]; omega,λw1 hw1=>?_⟩;have g2:=zC.new hw1 (.lst ((Txt.split a (zW 32)).map V.str));have e2:upd H1 w1 (.lst ((Txt.split a (zW 32)).map V.str)) w1=some (.lst ((Txt.split a (zW 32)).map V.str)):=zD;generalize upd H1 w1 (.lst ((Txt.split a (zW 32)).map V.str))=H2 at g2 e2 ⊢;have sl:=L2.zAh a 32;have g12:=g1.trans g2;unfold rd2 at e;refine ⟨w1,_,rfl,e2,λw hw=>qK (zBi hw) (by omega),by omega,λwn H' g'=>?_,λwa A1 H3 g3 nA eA=>?_⟩
  ·rw [if_neg (λy=>by rw [wn] at y; cases y)] at e
   exact qe e _ (g12.trans g')
  rw [if_pos wa] at e;have g13:=g12.trans g3;refine ⟨_,rfl,hv,_,1,_,rfl,rfl,zQ.of (g3 _ _ (g2 _ _ e1)),rfl,b,rfl,by omega,λsn=>?_,λvs hvs w2 H4 g4 nw2 ew2=>?_⟩
  ·rw [sn] at e
   exact qe e _ g13
  rw [hvs] at e;obtain ⟨vl,vc⟩:=zQy hvs;have g14:=g13.trans g4;refine ⟨w2,vs,rfl,ew2,λw hw=>qK (vl w hw) (by omega),by omega,λvn H' g'=>?_,λwv B1 H5 g5 nB eB=>?_⟩
  ·have e:r=(if vs.all ya=true then _ else none:Option (List Int×List Int)):=e
   rw [if_neg (λy=>by rw [vn] at y; cases y)] at e;exact qe e _ (g14.trans g')
  have e:r=(if vs.all ya=true then _ else none:Option (List Int×List Int)):=e;rw [if_pos wv] at e;have g15:=g14.trans g5;refine ⟨Z9,λt ht=>?_⟩;have g6:=zC.new ht (.tup [.ref A1, .ref B1]);have eA5:upd H5 t (.tup [.ref A1, .ref B1]) A1=some (.lst (((Txt.split a (zW 32)).map ZT).map V.int)):=g6 _ _ (g5 _ _ (g4 _ _ eA));have eB5:upd H5 t (.tup [.ref A1, .ref B1]) B1=some (.lst ((vs.map ZT).map V.int)):=g6 _ _ eB;have eT5:upd H5 t (.tup [.ref A1, .ref B1]) t=some (.tup [.ref A1, .ref B1]):=zD;have g16:=g15.trans g6;have nA0:H A1=none:=zt g12 nA;have nB0:H B1=none:=zt g14 nB;have nT0:H t=none:=zt g15 ht;have AB:A1≠B1:=zJ (g4 _ _ eA) nB;generalize upd H5 t (.tup [.ref A1, .ref B1])=H6 at eA5 eB5 eT5 g16 ⊢;have dt:yD H6 (.ref t) (zDR ((Txt.split a (zW 32)).map ZT) (vs.map ZT)):= .tup eT5 (.cons (.lst eA5 (ZK.ints _)) (.cons (.lst eB5 (ZK.ints _)) .nil));refine ⟨_,rfl,_,_,rfl,dt,_,rfl,?_⟩;cases c6:j9 (zDR ((Txt.split a (zW 32)).map ZT) (vs.map ZT)) with
  | false=>
   rw [zCo] at c6;rw [if_neg (λy=>by rw [c6] at y; cases y)] at e;exact yA ⟨by decide,qe e _ g16⟩
  | true=>
   obtain ⟨t',a',b',ns',ss',ev,pl,ed⟩:=zMl dt c6;cases ev;obtain ⟨e7,e8⟩:=zLH ed;rw [zCo] at c6;rw [if_pos c6] at e;have et:=pl.t;rw [eT5] at et;cases et;refine yF ?_;subst e7 e8;exact ⟨_,rfl,q _ _ e t A1 B1 H6 g16 nT0 nA0 nB0 AB pl⟩
 | _=>exact absurd rfl c
end
end Tt
abbrev zHu:Stmt:=top 83
abbrev zKd:Stmt:=top 84
abbrev zKa:Stmt:=top 85
abbrev zKB:Stmt:=top 86
abbrev zLF:Stmt:=top 87
abbrev zEk:Stmt:=top 88
abbrev zCy:Stmt:=top 89
abbrev zHr:Stmt:=top 90
abbrev zEw:Stmt:=top 91
abbrev zAp:Stmt:=top 92
abbrev zGy:Stmt:=top 93
abbrev zAo:Stmt:=top 94
abbrev jX:List Nat:=(Str.ofString "abcdefghijklmnopqrstuvwxyz").cps.toList
def smB (z:Str):Bool:= !decide (z=Str.ofString "")&&z.cps.toList.all λc=>decide (c∈jX)
def Jc (z:Str):Bool:=smB z&&decide (z.length≤8)
def snB (z:Str):Bool:=ya z&&decide (z.length≤9)
def J9 (b:Str->Bool):Sp:=λvs H Q _=>∃z:Str,vs=[.str z]/\z.length≤1000/\∀H',zC H H'->Q (.bl (b z)) H'
def zET:Sp:=λvs H Q _=>(vs=[.non]/\Q (.str (Str.ofString "none")) H)\/∃(p:Addr) (zs:List Int),vs=[.ref p]/\H p=some (.lst (zs.map V.int))/\Wid zs/\zs.length≤100/\∀H',zC H H'->Q (.str (Zk zs)) H'
def jz (T:List Int->List Int->Str->Prop):Sp:=λvs H Q _=>∃(t a b:Addr) (ns ss:List Int) (z:Str),vs=[.ref t]/\Zm H t a b ns ss/\T ns ss z/\∀H',zC H H'->Q (.str z) H'
def tlN (f:List Int->List Int->Nat) (ns ss:List Int) (z:Str):Prop:=f ns ss<10^30/\z=ZF (f ns ss:Nat)
def Shw (zs:List Int):Prop:=Wid zs/\zs.length≤100
def tlR (ring:Bool) (ns ss:List Int) (z:Str):Prop:=(zAU ns ss ring=false/\z=Str.ofString "none")\/(zAU ns ss ring=true/\Shw (zFN ns ss ring)/\z=Zk (zFN ns ss ring))
def tlL (ns ss:List Int) (z:Str):Prop:=Shw (Rh.zEW ns ss)/\z=Zk (Rh.zEW ns ss)
def tlC (ns ss:List Int) (z:Str):Prop:=(Ct.ji ns ss=none/\z=Str.ofString "none")\/(Ct.ji ns ss=some []/\z=Str.ofString "all")\/∃c,Ct.ji ns ss=some c/\c≠[]/\Shw c/\z=Zk c
def tlW (ns ss:List Int) (z:Str):Prop:=Wid ns/\Wid ss/\z=jm ns ss
section
variable {f g1 g2:Addr} {fd gd1 gd2:FuncData} {tk:Tok}
theorem zRM:zP ["word"] ["word"] (zF zHu):=ZA
theorem zOh (F:zm K "is_small_word" "is_small_word" zHu f fd) (B:Bt2 mg) (mS:mg "SMALL_LETTERS"=some (.str (Str.ofString "abcdefghijklmnopqrstuvwxyz") tk)):zH P w K mg base zT 1 f fd ["word"] (J9 smB):=by
 refine F.ok zRM (λvs H Q E h=>?_) (λcdv A outer s H vs Q E hr h=>?_)
 ·obtain ⟨z,rfl,_⟩:=h
  rfl
 obtain ⟨z,rfl,hz,q⟩:=h;refine ⟨_,(@zG _ _ _ (zR (Yv (Z4 zAH (pv 0) zV (zk _)) (Ya (zY (jv rfl) rfl B.all boot_all (zA (Za ["letter"] rfl (ZY (zF zHu) ["word"] rfl rfl (by decide +kernel)) (zJU (pv 0)) (λpins C fp s3 H3=>⟨(zp (i:=0) (show (Zo ["letter"] ["word"]).Nodup by decide +kernel) rfl (Or.inl rfl)),Zp,(Z4 zJG (pv 0) (zr (v:= .str (Str.ofString "abcdefghijklmnopqrstuvwxyz")) rfl mS ⟨_,rfl⟩) rfl)⟩)) zB)))))),?_⟩;unfold smB at q;refine ⟨_,rfl,rfl,_,rfl,zq (λc=>?_) (λc=>?_)⟩
 ·have c':decide (z=Str.ofString "")=false:=by
   rw [QQ,decide_eq_false_iff_not] at c;exact decide_eq_false λy=>c (by rw [y])
  rw [c',Bool.not_false,QL] at q;refine ⟨_,rfl,z,rfl,λD hD=>?_⟩;refine zDc (σ:=[some (.str z)]) (λ_=>true) (λi=> .bl (decide (z.cps.toList.getD i 0∈jX))) hD hz (λi H' hi g=>Z0) (λi H' hi _ g P hP=>?_) λH2 g2 e2=>?_
  ·exact ⟨_,rfl,_,_,rfl,rfl,hP _ zC.rfl'⟩
  have ea:((List.range z.cps.size).map λi=>decide (z.cps.toList.getD i 0∈jX)).all id=z.cps.toList.all λc=>decide (c∈jX):=by
   have h:=congrArg (List.map λc=>decide (c∈jX)) (rgD z.cps.toList 0);rw [qU,qJ] at h;rw [show ((List.range z.cps.size).map λi=>decide (z.cps.toList.getD i 0∈jX))=z.cps.toList.map λc=>decide (c∈jX) from h,List.all_map];rfl
  refine ⟨D,(List.range z.cps.size).map λi=>decide (z.cps.toList.getD i 0∈jX),rfl,zQ.of (by rw [e2,Y3,qU]; rfl),?_⟩;rw [ea];exact q _ g2
 ·have c':decide (z=Str.ofString "")=true:=by
   rw [QQ,decide_eq_false_iff_not,Decidable.not_not] at c;exact decide_eq_true (V.str.inj c)
  rw [c',Bool.not_true,QH] at q;exact q _ zC.rfl'
theorem zQh:zP ["word"] ["word"] (zF zKd):=ZA
theorem zPv (F:zm K "is_name" "is_name" zKd f fd) (B:Bt2 mg) (m8:mg "MOST_LETTERS"=some (.int 8 tk)) (GS:zH P w K mg base zT 1 g1 gd1 ["word"] (J9 smB)) (bS:zL K gd1 ["word"] []) (kS:ZC K g1) (mS:mg "is_small_word"=some (.ref g1)):zH P w K mg base zT 2 f fd ["word"] (J9 Jc):=by
 refine F.ok zQh (λvs H Q E h=>?_) (λcdv A outer s H vs Q E hr h=>?_)
 ·obtain ⟨z,rfl,_⟩:=h
  rfl
 obtain ⟨z,rfl,hz,q⟩:=h;refine ⟨_,(@zG _ _ _ (zR (Yv (zU GS hr rfl mS kS bS .nil zO (zA (pv 0) zB)) (Ya (Z4 JA (zY YX rfl B.len QB (zA (pv 0) zB)) (zr (v:= .int 8) rfl m8 ⟨_,rfl⟩) (zk _)))))),?_⟩;unfold Jc at q;refine ⟨_,rfl,z,rfl,hz,λH1 g1=>⟨_,rfl,zq (λc=>?_) (λc=>?_)⟩⟩
 ·rw [c,QL] at q
  refine ⟨_,rfl,z,rfl,by rw [sizeLine_eq]; omega,_,_,rfl,rfl,?_⟩;show Q (.bl (decide (((z.length:Nat):Int)≤8))) H1;rw [show decide (((z.length:Nat):Int)≤8)=decide (z.length≤8) from decide_eq_decide.mpr ⟨λh=>by omega,λh=>by omega⟩];exact q _ g1
 ·rw [QR.mpr c,QH] at q
  exact q _ g1
theorem zRo:zP ["word"] ["word"] (zF zKa):=ZA
theorem zOb (F:zm K "is_short_number" "is_short_number" zKa f fd) (B:Bt2 mg) (m9:mg "MOST_FIGURES"=some (.int 9 tk)) (GW:zH P w K mg base zT 1 g1 gd1 ["word"] Tt.zKr) (bW:zL K gd1 ["word"] []) (kW:ZC K g1) (mW:mg "is_written_number"=some (.ref g1)):zH P w K mg base zT 2 f fd ["word"] (J9 snB):=by
 refine F.ok zRo (λvs H Q E h=>?_) (λcdv A outer s H vs Q E hr h=>?_)
 ·obtain ⟨z,rfl,_⟩:=h
  rfl
 obtain ⟨z,rfl,hz,q⟩:=h;refine ⟨_,(@zG _ _ _ (zR (Yv (zU GW hr rfl mW kW bW .nil zO (zA (pv 0) zB)) (Ya (Z4 JA (zY YX rfl B.len QB (zA (pv 0) zB)) (zr (v:= .int 9) rfl m9 ⟨_,rfl⟩) (zk _)))))),?_⟩;unfold snB at q;refine ⟨_,rfl,z,rfl,hz,λH1 g1=>⟨_,rfl,zq (λc=>?_) (λc=>?_)⟩⟩
 ·rw [c,QL] at q
  refine ⟨_,rfl,z,rfl,by rw [sizeLine_eq]; omega,_,_,rfl,rfl,?_⟩;show Q (.bl (decide (((z.length:Nat):Int)≤9))) H1;rw [show decide (((z.length:Nat):Int)≤9)=decide (z.length≤9) from decide_eq_decide.mpr ⟨λh=>by omega,λh=>by omega⟩];exact q _ g1
 ·rw [QR.mpr c,QH] at q
  exact q _ g1
theorem zRQ:zP ["word"] ["word"] (zF zKB):=ZA
theorem zPE (F:zm K "is_any_text" "is_any_text" zKB f fd):zH P w K mg base zT 1 f fd ["word"] (J9 λ_=>true):=by
 refine F.ok zRQ (λvs H Q E h=>?_) (λcdv A outer s H vs Q E hr h=>?_)
 ·obtain ⟨z,rfl,_⟩:=h
  rfl
 obtain ⟨z,rfl,hz,q⟩:=h;exact ⟨_,(@zG _ _ _ (zR yW)),q _ zC.rfl'⟩
theorem zQd:zP ["numbers"] ["numbers"] (zF zLF):=ZA
theorem zPw (F:zm K "shown_or_none" "shown_or_none" zLF f fd) (mN:mg "NONE_THERE"=some (.str (Str.ofString "none") tk)) (GW:zH P w K mg base zT 1 g1 gd1 ["numbers"] Tt.zCP) (bW:zL K gd1 ["numbers"] []) (kW:ZC K g1) (mW:mg "with_blanks"=some (.ref g1)):zH P w K mg base zT 2 f fd ["numbers"] zET:=by
 refine F.ok zQd (λvs H Q E h=>?_) (λcdv A outer s H vs Q E hr h=>?_)
 ·rcases h with ⟨rfl,_⟩ | ⟨p,zs,rfl,_⟩ <;> rfl
 refine ⟨_,(@zG _ _ _ (zR (zAO (zh zIq (pv 0) jH (zk _)) (zr (v:= .str (Str.ofString "none")) rfl mN ⟨_,rfl⟩) (zU GW hr rfl mW kW bW .nil zO (zA (pv 0) zB))))),?_⟩;rcases h with ⟨rfl,q⟩ | ⟨p,zs,rfl,hp,wz,lz,q⟩
 ·exact ⟨_,rfl,rfl,_,rfl,yA q⟩
 ·exact ⟨_,rfl,rfl,_,rfl,yF ⟨_,rfl,p,zs,rfl,hp,wz,lz,q⟩⟩
theorem zMr:zP ["plan"] ["plan"] (zF zEk):=ZA
theorem zLK {n:List Int->List Int->Nat} (F:zm K "tell_rows" "tell_rows" zEk f fd) (B:Bt2 mg) (GC:zH P w K mg base zT 29 g1 gd1 ["plan"] (zBV n)) (bC:zL K gd1 ["plan"] []) (kC:ZC K g1) (mC:mg "count_rows"=some (.ref g1)):zH P w K mg base zT 30 f fd ["plan"] (jz (tlN n)):=by
 refine F.ok zMr (λvs H Q E h=>?_) (λcdv A outer s H vs Q E hr h=>?_)
 ·obtain ⟨t,a,b,ns,ss,z,rfl,_⟩:=h
  rfl
 obtain ⟨t,a,b,ns,ss,z,rfl,pl,⟨lt,rfl⟩,q⟩:=h;exact ⟨_,(@zG _ _ _ (zR (Zu zED rfl B.str boot_str (zA (zU GC hr rfl mC kC bC .nil zO (zA (pv 0) zB)) zB)))),_,rfl,t,a,b,ns,ss,rfl,pl,λH1 g1=>⟨_,rfl,by omega,q _ g1⟩⟩
theorem zLU:zP ["plan"] ["plan"] (zF zCy):=ZA
theorem zIi {n:List Int->List Int->Nat} (F:zm K "tell_rings" "tell_rings" zCy f fd) (B:Bt2 mg) (GC:zH P w K mg base zT 29 g1 gd1 ["plan"] (zBV n)) (bC:zL K gd1 ["plan"] []) (kC:ZC K g1) (mC:mg "count_rings"=some (.ref g1)):zH P w K mg base zT 30 f fd ["plan"] (jz (tlN n)):=by
 refine F.ok zLU (λvs H Q E h=>?_) (λcdv A outer s H vs Q E hr h=>?_)
 ·obtain ⟨t,a,b,ns,ss,z,rfl,_⟩:=h
  rfl
 obtain ⟨t,a,b,ns,ss,z,rfl,pl,⟨lt,rfl⟩,q⟩:=h;exact ⟨_,(@zG _ _ _ (zR (Zu zED rfl B.str boot_str (zA (zU GC hr rfl mC kC bC .nil zO (zA (pv 0) zB)) zB)))),_,rfl,t,a,b,ns,ss,rfl,pl,λH1 g1=>⟨_,rfl,by omega,q _ g1⟩⟩
theorem zPG:zP ["plan"] ["plan"] (zF zHr):=ZA
theorem zNi (F:zm K "tell_row" "tell_row" zHr f fd) (GC:zH P w K mg base zT 29 g1 gd1 ["plan"] (zCh false)) (bC:zL K gd1 ["plan"] []) (kC:ZC K g1) (mC:mg "first_row"=some (.ref g1))
  (GO:zH P w K mg base zT 29 g2 gd2 ["numbers"] zET) (bO:zL K gd2 ["numbers"] []) (kO:ZC K g2) (mO:mg "shown_or_none"=some (.ref g2)):zH P w K mg base zT 30 f fd ["plan"] (jz (tlR false)):=by
 refine F.ok zPG (λvs H Q E h=>?_) (λcdv A outer s H vs Q E hr h=>?_)
 ·obtain ⟨t,a,b,ns,ss,z,rfl,_⟩:=h
  rfl
 obtain ⟨t,a,b,ns,ss,z,rfl,pl,tl,q⟩:=h;refine ⟨_,(@zG _ _ _ (zR (zU GO hr rfl mO kO bO .nil zO (zA (zU GC hr rfl mC kC bC .nil zO (zA (pv 0) zB)) zB)))),_,rfl,t,a,b,ns,ss,rfl,pl,λc H1 g1=>?_,λc l H1 g1 hl el=>?_⟩
 ·rcases tl with ⟨_,rfl⟩ | ⟨c2,_⟩
  ·exact .inl ⟨rfl,q _ g1⟩
  ·rw [c] at c2; cases c2
 ·rcases tl with ⟨c2,_⟩ | ⟨_,⟨wz,lz⟩,rfl⟩
  ·rw [c] at c2; cases c2
  ·exact .inr ⟨l,_,rfl,el,wz,lz,λH2 g2=>q _ (g1.trans g2)⟩
theorem zNc:zP ["plan"] ["plan"] (zF zEw):=ZA
theorem zKi (F:zm K "tell_ring" "tell_ring" zEw f fd) (GC:zH P w K mg base zT 29 g1 gd1 ["plan"] (zCh true)) (bC:zL K gd1 ["plan"] []) (kC:ZC K g1) (mC:mg "first_ring"=some (.ref g1))
  (GO:zH P w K mg base zT 29 g2 gd2 ["numbers"] zET) (bO:zL K gd2 ["numbers"] []) (kO:ZC K g2) (mO:mg "shown_or_none"=some (.ref g2)):zH P w K mg base zT 30 f fd ["plan"] (jz (tlR true)):=by
 refine F.ok zNc (λvs H Q E h=>?_) (λcdv A outer s H vs Q E hr h=>?_)
 ·obtain ⟨t,a,b,ns,ss,z,rfl,_⟩:=h
  rfl
 obtain ⟨t,a,b,ns,ss,z,rfl,pl,tl,q⟩:=h;refine ⟨_,(@zG _ _ _ (zR (zU GO hr rfl mO kO bO .nil zO (zA (zU GC hr rfl mC kC bC .nil zO (zA (pv 0) zB)) zB)))),_,rfl,t,a,b,ns,ss,rfl,pl,λc H1 g1=>?_,λc l H1 g1 hl el=>?_⟩
 ·rcases tl with ⟨_,rfl⟩ | ⟨c2,_⟩
  ·exact .inl ⟨rfl,q _ g1⟩
  ·rw [c] at c2; cases c2
 ·rcases tl with ⟨c2,_⟩ | ⟨_,⟨wz,lz⟩,rfl⟩
  ·rw [c] at c2; cases c2
  ·exact .inr ⟨l,_,rfl,el,wz,lz,λH2 g2=>q _ (g1.trans g2)⟩
theorem zGj:zP ["plan"] ["plan"] (zF zAp):=ZA
theorem zFv (F:zm K "tell_longest" "tell_longest" zAp f fd) (GC:zH P w K mg base zT 29 g1 gd1 ["plan"] Rh.zLz) (bC:zL K gd1 ["plan"] []) (kC:ZC K g1) (mC:mg "longest_part"=some (.ref g1))
  (GO:zH P w K mg base zT 29 g2 gd2 ["numbers"] Tt.zCP) (bO:zL K gd2 ["numbers"] []) (kO:ZC K g2) (mO:mg "with_blanks"=some (.ref g2)):zH P w K mg base zT 30 f fd ["plan"] (jz tlL):=by
 refine F.ok zGj (λvs H Q E h=>?_) (λcdv A outer s H vs Q E hr h=>?_)
 ·obtain ⟨t,a,b,ns,ss,z,rfl,_⟩:=h
  rfl
 obtain ⟨t,a,b,ns,ss,z,rfl,pl,⟨⟨wz,lz⟩,rfl⟩,q⟩:=h;exact ⟨_,(@zG _ _ _ (zR (zU GO hr rfl mO kO bO .nil zO (zA (zU GC hr rfl mC kC bC .nil zO (zA (pv 0) zB)) zB)))),_,rfl,t,a,b,ns,ss,rfl,pl,λl H1 g1 hl el=>⟨l,_,rfl,el,wz,lz,λH2 g2=>q _ (g1.trans g2)⟩⟩
theorem zJR:zP ["plan","cut"] ["plan"] (zF zGy):=ZA
theorem zMj (F:zm K "tell_cut" "tell_cut" zGy f fd) (mA:mg "NONE_TAKEN"=some (.str (Str.ofString "all") tk)) (GC:zH P w K mg base zT 29 g1 gd1 ["plan"] Ct.zMG) (bC:zL K gd1 ["plan"] []) (kC:ZC K g1) (mC:mg "short_cut"=some (.ref g1))
  (GO:zH P w K mg base zT 29 g2 gd2 ["numbers"] zET) (bO:zL K gd2 ["numbers"] []) (kO:ZC K g2) (mO:mg "shown_or_none"=some (.ref g2)):zH P w K mg base zT 30 f fd ["plan"] (jz tlC):=by
 refine F.ok zJR (λvs H Q E h=>?_) (λcdv A outer s H vs Q E hr h=>?_)
 ·obtain ⟨t,a,b,ns,ss,z,rfl,_⟩:=h
  rfl
 obtain ⟨t,a,b,ns,ss,z,rfl,pl,tl,q⟩:=h;refine ⟨_,(@zE _ _ _ _ _ (za (i:=1) zJR.nd rfl (Or.inl rfl) (zU GC hr rfl mC kC bC .nil zO (zA (pv 0) zB))) (@zG _ _ _ (zR (zAO (zh (zPK hr.units) (pv 1) (ZG zB) (zk _)) (zr (v:= .str (Str.ofString "all")) rfl mA ⟨_,rfl⟩) (zU GO hr rfl mO kO bO .nil zO (zA (pv 1) zB)))))),?_⟩;refine ⟨_,rfl,t,a,b,ns,ss,rfl,pl,λH1 g1 c=>?_,λo c H1 g1 ho eo sc=>?_⟩
 ·refine ⟨_,rfl,(by show 0≤sizeLine; decide),λl hl=>?_⟩
  have g2:=zC.new hl (.lst []);refine .inl ⟨rfl,l,[],rfl,zQ.of zD,_,rfl,yF ⟨_,rfl, .inl ⟨rfl,?_⟩⟩⟩;rcases tl with ⟨_,rfl⟩ | ⟨c2,_⟩ | ⟨c',c2,_⟩
  ·exact q _ (g1.trans g2)
  ·rw [c] at c2; cases c2
  ·rw [c] at c2; cases c2
 ·refine ⟨_,rfl,(by show 0≤sizeLine; decide),λl hl=>?_⟩
  have g2:=zC.new hl (.lst []);refine .inr ⟨_,zDP (zQ.of (g2 _ _ eo)) (zQ.of zD),_,rfl,?_⟩;rcases tl with ⟨c2,_⟩ | ⟨c2,rfl⟩ | ⟨c',c2,ne,⟨wz,lz⟩,rfl⟩
  ·rw [sc] at c2; cases c2
  ·rw [sc] at c2
   cases c2;exact yA (q _ (g1.trans g2))
  ·rw [sc] at c2
   cases c2;have e:(c.map V.int).isEmpty=false:=by
    cases c with
    | nil=>exact absurd rfl ne
    | cons _ _=>rfl
   rw [e];exact yF ⟨_,rfl, .inr ⟨o,c,rfl,g2 _ _ eo,wz,lz,λH2 g3=>q _ (g1.trans (g2.trans g3))⟩⟩
theorem zHA:zP ["plan"] ["plan"] (zF zAo):=ZA
theorem zGA (F:zm K "tell_writing" "tell_writing" zAo f fd) (GC:zH P w K mg base zT 29 g1 gd1 ["plan"] Tt.zGS) (bC:zL K gd1 ["plan"] []) (kC:ZC K g1) (mC:mg "show_plan"=some (.ref g1)):zH P w K mg base zT 30 f fd ["plan"] (jz tlW):=by
 refine F.ok zHA (λvs H Q E h=>?_) (λcdv A outer s H vs Q E hr h=>?_)
 ·obtain ⟨t,a,b,ns,ss,z,rfl,_⟩:=h
  rfl
 obtain ⟨t,a,b,ns,ss,z,rfl,pl,⟨wn,ws,rfl⟩,q⟩:=h;exact ⟨_,(@zG _ _ _ (zR (zU GC hr rfl mC kC bC .nil zO (zA (pv 0) zB)))),_,rfl,t,a,b,ns,ss,rfl,pl,wn,ws,q⟩
end
abbrev sNc:Stmt:=top 95
abbrev sNg:Stmt:=top 96
abbrev zKL:Stmt:=top 97
abbrev zKZ:Stmt:=top 98
abbrev zKf:Stmt:=top 99
abbrev sCk:Stmt:=top 29
abbrev sPl:Stmt:=top 30
abbrev sFb:Stmt:=top 103
abbrev sWo:Stmt:=top 104
abbrev zGm:Stmt:=top 105
abbrev zLa:Stmt:=top 106
abbrev Yp:List Str:=["rows","rings","row","ring","longest","cut","show"].map Str.ofString
abbrev Yj:List Str:=["come","go","sum","unsum","nth"].map Str.ofString
def zAY:Nat->Str->Bool
 | 0=>Jc
 | 1=>smB
 | 2=>snB
 | _=>λ_=>true
def ZS (z:Str):Option (List Nat):=if z∈Yp then some [0] else if z∈Yj then some [0,2] else if z=Str.ofString "plan" then some [0,3] else if z=Str.ofString "kind" then some [0,1,2] else if z=Str.ofString "drop" then some [0] else none
def yY (ws:List Str):Bool:=match ZS (ws.getD 0 Str.empty) with
 | none=>false
 | some fs=>decide (ws.length=1+fs.length)&&(List.range fs.length).all λi=>zAY (fs.getD i 0) (ws.getD (1+i) Str.empty)
def Zb (z:Str):List Str:=if Txt.startswith z (Str.ofString "plan ")=true then Txt.splitMax z (zW 32) 2 else Txt.split z (zW 32)
def jW (z:Str):Bool:=yY (Zb z)
theorem zOj (z:Str):Zb z≠[]:=by
 unfold Zb
 split
 ·unfold Txt.splitMax
  split
  ·exact λh=>nomatch h
  ·split
   ·exact λh=>nomatch h
   ·rw [StrLaws.partsBetween_eq]
    intro h;have:=congrArg List.length h;rw [<-StrLaws.partsBetween_eq,length_partsBetween] at this;simp at this
 ·exact jZ z 32
theorem zFA (x:Str) (w:Nat):∀(cuts:List Nat) (i:Nat) (u:Str),u∈StrLaws.partsFrom x w i cuts->u.length≤x.length
 | [],i,u,h=>by
  have:u=Builtin.Str.strSub x i x.length:=by simpa [StrLaws.partsFrom] using h
  rw [this];show (Builtin.Str.strSub x i x.length).cps.size≤x.cps.size;rw [<-qJ,Yu,XM,xG,qJ];omega
 | c::r,i,u,h=>by
  rcases qG.mp (show u∈Builtin.Str.strSub x i c::StrLaws.partsFrom x w (c+w) r from h) with h | h
  ·rw [h]
   show (Builtin.Str.strSub x i c).cps.size≤x.cps.size;rw [<-qJ,Yu,XM,xG,qJ];omega
  ·exact zFA x w r _ u h
theorem zIX {z u:Str} (h:u∈Zb z):u.length≤z.length:=by
 unfold Zb at h
 split at h
 ·unfold Txt.splitMax at h
  split at h
  ·rw [qH.mp h]
   exact qE _
  ·split at h
   ·rw [qH.mp h]
    exact qE _
   ·rw [StrLaws.partsBetween_eq] at h
    exact zFA _ _ _ _ _ h
 ·exact zBi h
theorem zMq (z:Str):(Zb z).length≤z.length+2:=by
 unfold Zb
 split
 ·unfold Txt.splitMax
  split
  ·exact Nat.le_add_left 1 (z.length+1)
  ·split
   ·exact Nat.le_add_left 1 (z.length+1)
   ·rw [length_partsBetween]
    have:=StrLaws.occ_length_le_len z (zW 32) 0 z.length (limitOf z 2);omega
 ·exact Nat.le_succ_of_le (zAh z 32)
def zLs (C XL:Addr):Sp:=λvs H Q E=>∃(k dx a b:Addr) (ns ss:List Int) (num:Nat),vs=[.ref k, .int num]/\Kp H C k dx a b ns ss/\(num<YM ns ss false->Shw (zDV ns ss num)/\∀H',zC H H'->Q (.str (Zk (zDV ns ss num))) H')/\(¬num<YM ns ss false->∀H',zC H H'->E (.ref XL) none H')
def zIc (kvs:List (Str×Tok×Value)):PyData->Bool
 | .str z=>(valueAt (ZN kvs) (Sum.inr z)).isSome
 | _=>false
def zLn (kvs:List (Str×Tok×Value)) (XK:Addr):Sp:=λvs H Q E=>∃v d,vs=[v]/\yD H v d/\(zIc kvs d=true->Q .non H)/\(zIc kvs d=false->E (.ref XK) none H)
def zLq (kvs:List (Str×Tok×Value)) (XK XN:Addr):Sp:=λvs H _ E=>∃(z:Str) (n:Int),vs=[.str z, .int n]/\((valueAt (ZN kvs) (Sum.inr z)).isSome=false/\E (.ref XK) none H\/(valueAt (ZN kvs) (Sum.inr z)).isSome=true/\¬(1≤n/\n≤10)/\E (.ref XN) none H)
def zPI (K:W.Frag) (FA:Nat->Addr):Sp:=λvs H Q _=>∃z,vs=[.str z]/\(ZS z=none->Q .non H)/\∀fs,ZS z=some fs->∀t H',zC H H'->Zd K H' t (fs.map λi=>V.ref (FA i))->Q (.ref t) H'
def zOP:Sp:=λvs H Q _=>∃z:Str,vs=[.str z]/\z.length≤570/\∀D H',zC H H'->H' D=some (.lst ((Zb z).map V.str))->H D=none->Q (.ref D) H'
def zMb:Sp:=λvs H Q _=>∃(l:Addr) (ws:List Str),vs=[.ref l]/\H l=some (.lst (ws.map V.str))/\ws≠[]/\(∀u∈ws,u.length≤1000)/\ws.length≤1000/\∀H',zC H H'->Q (.bl (yY ws)) H'
def zBb (K:W.Frag) (H:Hp) (v:V):Prop:=∃t,YS K H v t/\W.kitOne K t (.type "str")=some false
def zMC (K:W.Frag) (XS:Addr):Sp:=λvs H Q E=>∃v,vs=[v]/\((zBb K H v/\E (.ref XS) none H)\/∃z:Str,v= .str z/\z.length≤570/\(jW z=false->∀H',zC H H'->E (.ref XS) none H')/\(jW z=true->∀D H',zC H H'->H' D=some (.lst ((Zb z).map V.str))->H D=none->Q (.ref D) H'))
def FmF (FA:Nat->Addr) (f:Addr) (sp:Sp):Prop:=∃i,i<4/\f=FA i/\sp=J9 (zAY i)
section
variable {f g1 g2 C XT XW XL XK XN XS c wh kd ka ks ko o1 o2 o3:Addr} {fd gd1 gd2 cd wd:FuncData} {tk t10 t3:Tok} {kvs kvA kvS kvO:List (Str×Tok×Value)} {FA:Nat->Addr}
theorem zSG:zP ["keeper","number"] ["keeper","number"] (zF sNc):=ZA
theorem zRZ (F:zm K "number_comes" "number_comes" sNc f fd) (T:KpT K C) (mD:mg "DONE"=some (.str (Str.ofString "ok") tk)) (mM:ZH K C "come" g1) (GM:zH P w K mg base (Zv P w) 29 g1 gd1 ["self","number"] (yZ C XT XW zBI)) (bM:zL K gd1 ["self","number"] []):zH P w K mg base (Zv P w) 30 f fd ["keeper","number"] (yZ C XT XW zBI):=by
 refine F.ok1 zSG (λvs H Q E h=>?_) (λcdv A outer s H vs Q E hr h=>?_)
 ·obtain ⟨k,dx,a,b,ns,ss,x,rfl,_⟩:=h
  rfl
 obtain ⟨k,dx,a,b,ns,ss,x,rfl,kp,q⟩:=h;exact ⟨_,(@zE _ _ _ _ _ (ZI (z0 (pv 0) T.cl mM GM hr bM .nil y0 (zA (pv 1) zB))) (@zG _ _ _ (zR (zr (v:= .str (Str.ofString "ok")) rfl mD ⟨_,rfl⟩)))),_,rfl,k,dx,_,rfl,kp.k,rfl,_,rfl,k,dx,a,b,ns,ss,x,rfl,kp,q⟩
theorem zRt:zP ["keeper","number"] ["keeper","number"] (zF sNg):=ZA
theorem zQp (F:zm K "number_goes" "number_goes" sNg f fd) (T:KpT K C) (mD:mg "DONE"=some (.str (Str.ofString "ok") tk)) (mM:ZH K C "go" g1) (GM:zH P w K mg base (Zv P w) 29 g1 gd1 ["self","number"] (yZ C XT XW zBJ)) (bM:zL K gd1 ["self","number"] []):zH P w K mg base (Zv P w) 30 f fd ["keeper","number"] (yZ C XT XW zBJ):=by
 refine F.ok1 zRt (λvs H Q E h=>?_) (λcdv A outer s H vs Q E hr h=>?_)
 ·obtain ⟨k,dx,a,b,ns,ss,x,rfl,_⟩:=h
  rfl
 obtain ⟨k,dx,a,b,ns,ss,x,rfl,kp,q⟩:=h;exact ⟨_,(@zE _ _ _ _ _ (ZI (z0 (pv 0) T.cl mM GM hr bM .nil y0 (zA (pv 1) zB))) (@zG _ _ _ (zR (zr (v:= .str (Str.ofString "ok")) rfl mD ⟨_,rfl⟩)))),_,rfl,k,dx,_,rfl,kp.k,rfl,_,rfl,k,dx,a,b,ns,ss,x,rfl,kp,q⟩
theorem zRp:zP ["keeper","number"] ["keeper","number"] (zF zKL):=ZA
theorem zOJ (F:zm K "sum_comes_to" "sum_comes_to" zKL f fd) (T:KpT K C) (mD:mg "DONE"=some (.str (Str.ofString "ok") tk)) (mM:ZH K C "sum_comes" g1) (GM:zH P w K mg base (Zv P w) 29 g1 gd1 ["self","number"] (yZ C XT XW zBL)) (bM:zL K gd1 ["self","number"] []):zH P w K mg base (Zv P w) 30 f fd ["keeper","number"] (yZ C XT XW zBL):=by
 refine F.ok1 zRp (λvs H Q E h=>?_) (λcdv A outer s H vs Q E hr h=>?_)
 ·obtain ⟨k,dx,a,b,ns,ss,x,rfl,_⟩:=h
  rfl
 obtain ⟨k,dx,a,b,ns,ss,x,rfl,kp,q⟩:=h;exact ⟨_,(@zE _ _ _ _ _ (ZI (z0 (pv 0) T.cl mM GM hr bM .nil y0 (zA (pv 1) zB))) (@zG _ _ _ (zR (zr (v:= .str (Str.ofString "ok")) rfl mD ⟨_,rfl⟩)))),_,rfl,k,dx,_,rfl,kp.k,rfl,_,rfl,k,dx,a,b,ns,ss,x,rfl,kp,q⟩
theorem zRm:zP ["keeper","number"] ["keeper","number"] (zF zKZ):=ZA
theorem zOD (F:zm K "sum_goes_from" "sum_goes_from" zKZ f fd) (T:KpT K C) (mD:mg "DONE"=some (.str (Str.ofString "ok") tk)) (mM:ZH K C "sum_goes" g1) (GM:zH P w K mg base (Zv P w) 29 g1 gd1 ["self","number"] (yZ C XT XW zBW)) (bM:zL K gd1 ["self","number"] []):zH P w K mg base (Zv P w) 30 f fd ["keeper","number"] (yZ C XT XW zBW):=by
 refine F.ok1 zRm (λvs H Q E h=>?_) (λcdv A outer s H vs Q E hr h=>?_)
 ·obtain ⟨k,dx,a,b,ns,ss,x,rfl,_⟩:=h
  rfl
 obtain ⟨k,dx,a,b,ns,ss,x,rfl,kp,q⟩:=h;exact ⟨_,(@zE _ _ _ _ _ (ZI (z0 (pv 0) T.cl mM GM hr bM .nil y0 (zA (pv 1) zB))) (@zG _ _ _ (zR (zr (v:= .str (Str.ofString "ok")) rfl mD ⟨_,rfl⟩)))),_,rfl,k,dx,_,rfl,kp.k,rfl,_,rfl,k,dx,a,b,ns,ss,x,rfl,kp,q⟩
theorem zQk:zP ["keeper","number"] ["keeper","number"] (zF zKf):=ZA
theorem zPF (F:zm K "tell_nth" "tell_nth" zKf f fd) (T:KpT K C) (mP:ZH K C "plan" g1) (GP:zH P w K mg base zT 29 g1 gd1 ["self"] (zHv C)) (bP:zL K gd1 ["self"] [])
  (GR:zH P w K mg base (Zv P w) 29 g2 gd2 ["plan","number"] (zLu XL)) (bR:zL K gd2 ["plan","number"] []) (kR:ZC K g2) (mR:mg "row_by"=some (.ref g2))
  (GW:zH P w K mg base zT 29 c cd ["numbers"] Tt.zCP) (bW:zL K cd ["numbers"] []) (kW:ZC K c) (mW:mg "with_blanks"=some (.ref c)):zH P w K mg base (Zv P w) 30 f fd ["keeper","number"] (zLs C XL):=by
 refine F.ok1 zQk (λvs H Q E h=>?_) (λcdv A outer s H vs Q E hr h=>?_)
 ·obtain ⟨k,dx,a,b,ns,ss,num,rfl,_⟩:=h
  rfl
 obtain ⟨k,dx,a,b,ns,ss,num,rfl,kp,q,qe⟩:=h;refine ⟨_,(@zG _ _ _ (zR (zU GW hr rfl mW kW bW .nil zO (zA (zU GR hr rfl mR kR bR .nil y0 (zA (YJ (pv 0) T.cl mP GP hr bP .nil zO) (zA (pv 1) zB))) zB)))),?_⟩;refine ⟨_,rfl,k,dx,_,rfl,kp.k,rfl,k,dx,a,b,ns,ss,rfl,kp,λt a' b' H1 g1 _ _ _ _ pl=>?_⟩;refine ⟨_,rfl,t,a',b',ns,ss,num,rfl,pl,λlt l H2 g2 hl el=>?_,λge H2 g2=>qe ge _ (g1.trans g2)⟩;obtain ⟨⟨wz,lz⟩,q⟩:=q lt;exact ⟨l,_,rfl,el,wz,lz,λH3 g3=>q _ (g1.trans (g2.trans g3))⟩
theorem zSM:zP ["kind"] ["kind"] (zF sCk):=ZA
theorem zPz (F:zm K "check_kind" "check_kind" sCk f fd) (B:Bt2 mg) (KD:yv K w kd kvs) (mK:mg "KINDS"=some (.ref kd)) (eXK:W.excIn K XK JJ "ValueError.__new__"=true) (mXK:mg "NoKind"=some (.ref XK)):zH P w K mg base (Zv P w) 1 f fd ["kind"] (zLn kvs XK):=by
 refine F.ok1 zSM (λvs H Q E h=>?_) (λcdv A outer s H vs Q E hr h=>?_)
 ·obtain ⟨v,d,rfl,_⟩:=h
  rfl
 obtain ⟨v,d,rfl,hd,q,qe⟩:=h;refine ⟨_,(@zG _ _ _ (zy (PW.pt (Yd (Zn (Zf (zY (Y5 "str") rfl B.isinstance boot_isinstance (zA (pv 0) (zA (jC (v:= .ty "str") rfl B.str boot_str rfl) zB))))) (YC (jt (zJe KD (pv 0) (zr (v:= .ref kd) rfl mK rfl)))))) (@zG _ _ _ (Z7 yT rfl QC eXK rfl mXK (zA zV zB))) zf)),?_⟩;refine ⟨_,rfl,_,_,isS d,rfl,hd.ty,zMZ _ d,_,rfl,?_⟩;cases c:isS d with
 | false=>
  refine yA (yA ⟨by decide,qe ?_⟩);cases d <;> first | rfl | cases c
 | true=>
  refine yF ?_;cases hd with
  | str z=>
   refine ⟨_,rfl,z,rfl,rfl,_,rfl,?_⟩;cases c2:(valueAt (ZN kvs) (Sum.inr z)).isSome with
   | true=>exact yF (q c2)
   | false=>exact yA ⟨by decide,qe c2⟩
  | _=>cases c
theorem zOu:zP ["kind","n","sums"] ["kind","n"] (zF sPl):=ZA
theorem zPO (F:zm K "plan_of" "plan_of" sPl f fd) (B:Bt2 mg) (KD:yv K w kd kvs) (mK:mg "KINDS"=some (.ref kd)) (m10:mg "MOST"=some (.int 10 t10)) (m3:mg "LEAST_SUM"=some (.int 3 t3))
  (eXN:W.excIn K XN JJ "ValueError.__new__"=true) (mXN:mg "NoNumber"=some (.ref XN))
  (GC:zH P w K mg base (Zv P w) 2 c cd ["kind"] (zLn kvs XK)) (bC:zL K cd ["kind"] []) (kC:ZC K c) (mC:mg "check_kind"=some (.ref c))
  (GW:zH P w K mg base zT 2 wh wd ["thing"] jg) (bW:zL K wd ["thing"] []) (kW:ZC K wh) (mW:mg "is_whole"=some (.ref wh)):zH P w K mg base (Zv P w) 3 f fd ["kind","n"] (zLq kvs XK XN):=by
 refine F.ok1 zOu (λvs H Q E h=>?_) (λcdv A outer s H vs Q E hr h=>?_)
 ·obtain ⟨z,n,rfl,_⟩:=h
  rfl
 obtain ⟨z,n,rfl,h⟩:=h;refine ⟨_,(@zE _ _ _ _ _ (ZI (zU GC hr rfl mC kC bC .nil y0 (zA (pv 0) zB))) (@zE _ _ _ _ _ (zy (PW.pt (Yd (Zn (Zf (zU GW hr rfl mW kW bW .nil zO (zA (pv 1) zB)))) (YC (Zn (zBs JA JA zK (pv 1) (zr (v:= .int 10) rfl m10 ⟨_,rfl⟩)))))) (@zG _ _ _ (Z7 yT rfl QC eXN rfl mXN (zA zV zB))) zf) (@zE _ _ _ _ _ (J8 ["value"] rfl (ZY (zF sPl) ["kind","n","sums"] rfl rfl (by decide +kernel)) (ZM (zAi (CX:=zT) (k:=2) (Fm:=λ_ _=>False) (λ_ _ h=>h.elim) hr zO (zDQ KD (zr (v:= .ref kd) rfl mK rfl) (pv 0) (λ_ _=>rfl)) (zA (zZ Yz (zZ zAA zK (pv 1)) zK) zB))) (λpins C fp s3 H3=>⟨(zp (i:=0) (show (Zo ["value"] ["kind","n","sums"]).Nodup by decide +kernel) rfl (Or.inl rfl)),(Ye (zh zCN (pv 0) (zr (v:= .int 3) rfl m3 ⟨_,rfl⟩) (zk _))),(pv 0)⟩) (j:=2) zOu.nd rfl (Or.inl rfl) rfl) (@zG _ _ _ (zR (yc (zA (zDF rfl rfl B.range rfl B.list (zA zK (zA (zZ YG (pv 1) zK) zB))) (zA (pv 2) zB)))))))),?_⟩;refine ⟨_,rfl,_,_,rfl, .str z,λc1=>?_,λc1=>?_⟩
 ·rcases h with ⟨c2,_⟩ | ⟨_,hn,q⟩
  ·exact absurd (show true=false from c1.symm.trans c2) (by decide)
  refine ⟨_,rfl,_,_,rfl, .int n,_,rfl,yF ?_⟩;refine ⟨_,rfl,_,_,rfl,rfl,_,rfl,zq (λa1=>?_) (λa1=>?_)⟩
  ·refine ⟨_,_,rfl,rfl,_,rfl,zq (λa2=>⟨by decide,q⟩) (λa2=>?_)⟩
   refine absurd (show 1≤n/\n≤10 from ⟨of_decide_eq_true a1,?_⟩) hn;cases e:decide (n≤10) with
   | true=>exact of_decide_eq_true e
   | false=>exact absurd (show (!decide (n≤10))=true by rw [e]; rfl) a2
  ·exact ⟨_,rfl,yA ⟨by decide,q⟩⟩
 ·rcases h with ⟨_,q⟩ | ⟨c2,_⟩
  ·exact q
  ·exact absurd (show false=true from c1.symm.trans c2) (by decide)
theorem zSI:zP ["verb"] ["verb"] (zF sFb):=ZA
theorem zRr (F:zm K "forms_behind" "forms_behind" sFb f fd) (KA:yv K w ka kvA) (mA:mg "ASKED"=some (.ref ka)) (KS:yv K w ks kvS) (mS:mg "SAID_WITH_NUMBER"=some (.ref ks)) (KO:yv K w ko kvO) (mO:mg "OTHER_FORMS"=some (.ref ko))
  (hA:∀z,(valueAt (ZN kvA) (Sum.inr z)).isSome=decide (z∈Yp)) (hS:∀z,(valueAt (ZN kvS) (Sum.inr z)).isSome=decide (z∈Yj)) (hO:∀z,valueAt (ZN kvO) (Sum.inr z)=if z=Str.ofString "plan" then some (.ref o1) else if z=Str.ofString "kind" then some (.ref o2) else if z=Str.ofString "drop" then some (.ref o3) else none)
  (h1:∀H,Zd K H o1 [.ref (FA 0), .ref (FA 3)]) (h2:∀H,Zd K H o2 [.ref (FA 0), .ref (FA 1), .ref (FA 2)]) (h3:∀H,Zd K H o3 [.ref (FA 0)]) (m0:mg "is_name"=some (.ref (FA 0))) (m2:mg "is_short_number"=some (.ref (FA 2))):zH P w K mg base zT 1 f fd ["verb"] (zPI K FA):=by
 refine F.ok zSI (λvs H Q E h=>?_) (λcdv A outer s H vs Q E hr h=>?_)
 ·obtain ⟨z,rfl,_⟩:=h
  rfl
 obtain ⟨z,rfl,q0,q⟩:=h;refine ⟨_,(@zE _ _ _ _ _ (zy (jt (zEq KA (pv 0) (zr (v:= .ref ka) rfl mA rfl))) (@zG _ _ _ (zR (yc (zA (zr (v:= .ref (FA 0)) rfl m0 rfl) zB)))) zf) (@zE _ _ _ _ _ (zy (jt (zEq KS (pv 0) (zr (v:= .ref ks) rfl mS rfl))) (@zG _ _ _ (zR (yc (zA (zr (v:= .ref (FA 0)) rfl m0 rfl) (zA (zr (v:= .ref (FA 2)) rfl m2 rfl) zB))))) zf) (@zG _ _ _ (zR (zKc KO (zr (v:= .ref ko) rfl mO rfl) (pv 0) ⟨rfl,rfl,rfl,rfl⟩))))),?_⟩;unfold ZS at q0 q;refine ⟨_,rfl,z,rfl,rfl,_,rfl,zq (λc=>?_) (λc=>?_)⟩
 ·rw [hA] at c
  have c':=of_decide_eq_true c;rw [if_pos c'] at q;exact ⟨Nat.le_of_ble_eq_true rfl,λt ht=>q _ rfl t _ (zC.new ht _) (Zd.of zD)⟩
 have c':¬z∈Yp:=λy=>c (by rw [hA]; exact decide_eq_true y)
 rw [if_neg c'] at q0 q;refine ⟨_,rfl,z,rfl,rfl,_,rfl,zq (λc=>?_) (λc=>?_)⟩
 ·rw [hS] at c
  have c':=of_decide_eq_true c;rw [if_pos c'] at q;exact ⟨Nat.le_of_ble_eq_true rfl,λt ht=>q _ rfl t _ (zC.new ht _) (Zd.of zD)⟩
 have c':¬z∈Yj:=λy=>c (by rw [hS]; exact decide_eq_true y)
 rw [if_neg c'] at q0 q;refine ⟨rfl,_,rfl,z,rfl,λe=>q0 ?_,λw' e=>?_⟩
 ·rw [hO] at e
  split at e
  ·cases e
  split at e
  ·cases e
  split at e
  ·cases e
  rw [if_neg ‹_›,if_neg ‹_›,if_neg ‹_›]
 ·rw [hO] at e
  split at e
  ·cases e
   rw [if_pos ‹_›] at q;exact ⟨.ref o1,rfl,q _ rfl _ _ zC.rfl' (h1 _)⟩
  rw [if_neg ‹_›] at q
  split at e
  ·cases e
   rw [if_pos ‹_›] at q;exact ⟨.ref o2,rfl,q _ rfl _ _ zC.rfl' (h2 _)⟩
  rw [if_neg ‹_›] at q
  split at e
  ·cases e
   rw [if_pos ‹_›] at q;exact ⟨.ref o3,rfl,q _ rfl _ _ zC.rfl' (h3 _)⟩
  ·cases e
theorem zSg:zP ["row"] ["row"] (zF sWo):=ZA
theorem zQq (F:zm K "words_of" "words_of" sWo f fd):zH P w K mg base zT 1 f fd ["row"] zOP:=by
 refine F.ok zSg (λvs H Q E h=>?_) (λcdv A outer s H vs Q E hr h=>?_)
 ·obtain ⟨z,rfl,_⟩:=h
  rfl
 obtain ⟨z,rfl,hz,q⟩:=h;refine ⟨_,(@zG _ _ _ (zR (zAO (Zf (yB QJ PySem.F.slot_str_startswith PySem.F.type_str_startswith zHN (pv 0) (zA zV zB))) (yB QJ xQ xR zIf (pv 0) (zA zV (zA zK zB))) (yB QJ xQ xR JN (pv 0) (zA zV zB))))),?_⟩;unfold Zb at q;refine ⟨_,rfl,rfl,z,_,rfl,rfl,_,rfl,zq (λc=>?_) (λc=>?_)⟩
 ·rw [if_pos (show Txt.startswith z (Str.ofString "plan ")=true from c)] at q
  exact ⟨_,rfl,rfl,z,32,2,rfl,rfl,⟨by decide,by decide⟩,by rw [sizeLine_eq]; omega,λD hD=>q D _ (zC.new hD _) zD hD⟩
 ·rw [if_neg (show ¬Txt.startswith z (Str.ofString "plan ")=true from c)] at q
  exact ⟨_,rfl,rfl,z,32,rfl,rfl,by rw [sizeLine_eq]; omega,λD hD=>q D _ (zC.new hD _) zD hD⟩
theorem zKt (fs:List Nat) {i:Nat} (h:i<fs.length):(fs.map λj=>V.ref (FA j)).getD i .non= .ref (FA (fs.getD i 0)):=by
 rw [qC,qR,qB h,qC,qB h];rfl
theorem zAD (ws:List Str) {i:Nat} (h:i<ws.length):(ws.map V.str).getD i .non= .str (ws.getD i Str.empty):=by
 rw [qC,qR,qB h,qC,qB h];rfl
theorem zIg (fs:List Nat) {i:Nat} (h:i<fs.length):fs.getD i 0∈fs:=by
 rw [qC,qB h];exact QF h
theorem zDn (ws:List Str) {i:Nat} (h:i<ws.length):ws.getD i Str.empty∈ws:=by
 rw [qC,qB h];exact QF h
theorem zKC {z:Str} {fs:List Nat} (h:ZS z=some fs):(∀i∈fs,i<4)/\fs.length≤3:=by
 unfold ZS at h
 split at h
 ·cases h; decide
 split at h
 ·cases h; decide
 split at h
 ·cases h; decide
 split at h
 ·cases h; decide
 split at h
 ·cases h; decide
 ·cases h
theorem zLv:zP ["words","forms"] ["words"] (zF zGm):=ZA
theorem zPB (F:zm K "is_saying" "is_saying" zGm f fd) (B:Bt4 mg) (GF:zH P w K mg base zT 3 g1 gd1 ["verb"] (zPI K FA)) (bF:zL K gd1 ["verb"] []) (kF:ZC K g1) (mF:mg "forms_behind"=some (.ref g1))
  (FF:∀f sp,FmF FA f sp->∃fd ps,zH P w K mg base zT 3 f fd ps sp/\ZC K f/\zL K fd ps []):zH P w K mg base zT 4 f fd ["words"] zMb:=by
 refine F.ok zLv (λvs H Q E h=>?_) (λcdv A outer s H vs Q E hr h=>?_)
 ·obtain ⟨l,ws,rfl,_⟩:=h
  rfl
 obtain ⟨l,ws,rfl,hl,ne,hw,hn,q⟩:=h;obtain ⟨w0,r,rfl⟩:=xO ne;refine ⟨_,(@zE _ _ _ _ _ (za (i:=1) zLv.nd rfl (Or.inl rfl) (zU GF hr rfl mF kF bF .nil zO (zA (zu ZE (pv 0) zK (λ_ _=>rfl)) zB))) (@zE _ _ _ _ _ (zy (PW.pt (Yd (zh zIq (pv 1) jH (zk _)) (YC (zh zAH (zY ZD rfl B.len QB (zA (pv 0) zB)) (zZ YG zK (zY ZD rfl B.len QB (zA (pv 1) zB))) (zk _))))) (@zG _ _ _ (zR yW)) zf) (@zG _ _ _ (zR (zY (jv rfl) rfl B.all boot_all (zA (Za ["form","word"] rfl (ZY (zF zGm) ["words","forms"] rfl rfl (by decide +kernel)) (zQi rfl B.zip (zA (pv 1) (zA (YL zGh (pv 0) (Yh zK) Yi) zB))) (λpins C fp s3 H3=>⟨(zGN (n:=2) K rfl (YZ (zp (i:=0) (show (Zo ["form","word"] ["words","forms"]).Nodup by decide +kernel) rfl (Or.inl rfl)) (YZ (zp (i:=1) (show (Zo ["form","word"] ["words","forms"]).Nodup by decide +kernel) rfl (Or.inl rfl)) zBK))),Zp,(zIn (Fm:=FmF FA) FF hr zO (pv 0) (zA (pv 1) zB))⟩)) zB)))))),?_⟩;unfold yY at q;refine ⟨_,rfl,l,_,0,_,rfl,rfl,zQ.of hl,Z2 (j:=0) rfl,w0,rfl,λe=>?_,λfs e t H1 g1 sq=>?_⟩
 ·rw [show ZS ((w0::r).getD 0 Str.empty)=none from e] at q
  exact ⟨_,rfl,rfl,_,rfl,yA (yA (q _ zC.rfl'))⟩
 rw [show ZS ((w0::r).getD 0 Str.empty)=some fs from e] at q;dsimp only at q;obtain ⟨f4,f3⟩:=zKC e;have hl1:=g1 _ _ hl;have lw:((w0::r).map V.str).length=r.length+1:=by rw [qA,qL]
 have lf:(fs.map λi=>V.ref (FA i)).length=fs.length:=qA _;refine ⟨_,rfl,rfl,_,rfl,yF ⟨_,rfl,l,_,rfl, .inl (zQ.of hl1),_,rfl,t,_,rfl, .inr sq,_,_,rfl,rfl,rfl,_,rfl,zq (λc=>?_) (λc=>?_)⟩⟩
 ·have c':¬(w0::r).length=1+fs.length:=λz=>by
   rw [QQ,decide_eq_false_iff_not] at c;exact c (by rw [lw,lf]; rw [qL] at z; congr 1; omega)
  rw [decide_eq_false c',QH] at q;exact q _ g1
 ·have c':(w0::r).length=1+fs.length:=by
   rw [QQ,decide_eq_false_iff_not,Decidable.not_not,lw,lf] at c;have:=V.int.inj c;rw [qL];omega
  rw [decide_eq_true c',QL] at q;have lr:r.length=fs.length:=by rw [qL] at c'; omega
  refine ⟨_,rfl,_,rfl,1,rfl,l,_,rfl,zQ.of hl1,λl2 hl2=>?_⟩;have ec:zAl ((w0::r).map V.str) (some 1) none=r.map V.str:=by
   unfold zAl;have e1:HT.jA ((w0::r).map V.str).length 0 (some ((1:Nat):Int))=1:=(HT.zGU _ _ 1).trans (by rw [lw]; omega);have e2:HT.jA ((w0::r).map V.str).length ((w0::r).map V.str).length none=((w0::r).map V.str).length:=rfl;rw [show (1:Int)=((1:Nat):Int) from rfl,e1,e2,<-List.map_drop,QO (by rw [qA,XM,qA]; exact qE _)];rfl
  rw [ec];have g2:=zC.new hl2 (.lst (r.map V.str));refine ⟨t,l2,_,_,rfl,g2.seqT sq,zD,λD hD=>?_⟩;refine zLN (σ:=[some (.ref l),some (.ref t)]) (n:=fs.length) (λ_=>true) (λi=> .bl (zAY (fs.getD i 0) (r.getD i Str.empty))) (g2.seqT sq) zD (by rw [lf,qA,lr,Nat.min_self]) hD (by omega) (λi H' hi g=>Z0) (λi H' hi _ g P hP=>?_) λH2 g3 e2=>?_
  ·rw [zKt fs hi,zAD r (by omega)]
   exact ⟨_,rfl,_,_,rfl,⟨_,f4 _ (zIg fs hi),rfl,rfl⟩,_,rfl,_,rfl,hw _ (qF _ (zDn r (by omega))),λH2 g2=>hP _ g2⟩
  refine ⟨D,(List.range fs.length).map λi=>zAY (fs.getD i 0) (r.getD i Str.empty),rfl,zQ.of (by rw [e2,Y3,qU]; rfl),?_⟩;rw [List.all_map];have ea:(List.range fs.length).all (λi=>zAY (fs.getD i 0) ((w0::r).getD (1+i) Str.empty))=(List.range fs.length).all (id ∘ λi=>zAY (fs.getD i 0) (r.getD i Str.empty)):=by
   congr 1
   funext i
   rw [Nat.add_comm 1 i];rfl
  rw [ea] at q;exact q _ (g1.trans (g2.trans g3))
theorem zRi:zP ["row"] ["row"] (zF zLa):=ZA
theorem zPq (F:zm K "said_words" "said_words" zLa f fd) (B:Bt2 mg) (eXS:W.excIn K XS JJ "ValueError.__new__"=true) (mXS:mg "NoSaying"=some (.ref XS))
  (GW:zH P w K mg base zT 4 g1 gd1 ["row"] zOP) (bW:zL K gd1 ["row"] []) (kW:ZC K g1) (mW:mg "words_of"=some (.ref g1))
  (GI:zH P w K mg base zT 4 g2 gd2 ["words"] zMb) (bI:zL K gd2 ["words"] []) (kI:ZC K g2) (mI:mg "is_saying"=some (.ref g2)):zH P w K mg base (Zv P w) 5 f fd ["row"] (zMC K XS):=by
 refine F.ok1 zRi (λvs H Q E h=>?_) (λcdv A outer s H vs Q E hr h=>?_)
 ·obtain ⟨v,rfl,_⟩:=h
  rfl
 obtain ⟨v,rfl,h⟩:=h;refine ⟨_,(@zE _ _ _ _ _ (zy (PW.pt (Yd (Zn (Zf (zY (Y5 "str") rfl B.isinstance boot_isinstance (zA (pv 0) (zA (jC (v:= .ty "str") rfl B.str boot_str rfl) zB))))) (YC (Zn (Zf (zU GI hr rfl mI kI bI .nil zO (zA (zU GW hr rfl mW kW bW .nil zO (zA (pv 0) zB)) zB))))))) (@zG _ _ _ (Z7 yT rfl QC eXS rfl mXS (zA zV zB))) zf) (@zG _ _ _ (zR (zU GW hr rfl mW kW bW .nil zO (zA (pv 0) zB))))),?_⟩;rcases h with ⟨⟨t,ty,kt⟩,q⟩ | ⟨z,rfl,hz,qe,q⟩
 ·exact ⟨_,rfl,_,t,false,rfl,ty,kt,_,rfl,yA (yA ⟨by decide,q⟩)⟩
 ·refine ⟨_,rfl,_,_,true,rfl,YS.str z,rfl,_,rfl,yF ?_⟩
  refine ⟨_,rfl,z,rfl,hz,λD H1 g1 e1 n1=>?_⟩;refine ⟨D,_,rfl,e1,zOj z,λu hu=>qK (zIX hu) (by omega),qK (zMq z) (by omega),λH2 g2=>⟨_,rfl,zq (λc=>?_) (λc=>?_)⟩⟩
  ·have c':jW z=false:=by
    cases e:jW z with
    | false=>rfl
    | true=>exact absurd (show (!jW z)=true from c) (by rw [e]; decide)
   exact ⟨by decide,qe c' _ (g1.trans g2)⟩
  ·have c':jW z=true:=by
    cases e:jW z with
    | true=>rfl
    | false=>exact absurd (show (!jW z)=true by rw [e]; rfl) c
   refine ⟨_,rfl,z,rfl,hz,λD2 H3 g3 e3 n3=>q c' D2 _ (g1.trans (g2.trans g3)) e3 ?_⟩;cases e:H D2 with
   | none=>rfl
   | some o=>rw [g2 _ _ (g1 _ _ e)] at n3; cases n3
end
abbrev zKn:Stmt:=ZJ (top 107) 0
abbrev zKj:Stmt:=ZJ (top 107) 1
abbrev zKu:Stmt:=ZJ (top 107) 2
abbrev zLI:Stmt:=ZJ (top 107) 3
abbrev zKD:Stmt:=ZJ (top 107) 5
structure DkT (K:W.Frag) (CD:Addr):Prop where
 cl:JV K CD
 nK:ZL K CD "keepers"
abbrev Ent:=Str×Addr×List Int×List Int
abbrev zAM:=Str×List Int×List Int
abbrev kvE (es:List Ent):List (ze×V):=es.map λe=>(Sum.inr e.1, .ref e.2.1)
abbrev Yw (es:List Ent):List zAM:=es.map λe=>(e.1,e.2.2)
structure Yx (H:Hp) (CD C d dx D:Addr) (es:List Ent):Prop where
 d:H d=some (.ins CD dx [("keepers", .ref D)])
 D:H D=some (.dK (kvE es))
 ks:∀e∈es,∃kx a b,Kp H C e.2.1 kx a b e.2.2.1 e.2.2.2
theorem Yx.same {H H':Hp} {CD C d dx D:Addr} {es:List Ent} (h:Yx H CD C d dx D es) (g:zC H H'):Yx H' CD C d dx D es:=⟨g _ _ h.d,g _ _ h.D,λe he=>by obtain ⟨kx,a,b,k⟩:=h.ks e he; exact ⟨kx,a,b,k.same g⟩⟩
def Y6 (ps:List zAM) (nm:Str):Option (List Int×List Int):=(ps.find? λe=>decide (e.1=nm)).map (·.2)
theorem zFY {nm:Str}:∀{es:List Ent},Y6 (Yw es) nm=none->ZP (kvE es) (Sum.inr nm)=none
 | [],_=>rfl
 | e::r,h=>by
  by_cases c:e.1=nm
  ·rw [Y6,Yw,qQ,QN,show decide ((e.1,e.2.2).1=nm)=true from decide_eq_true c] at h
   cases h
  ·rw [Y6,Yw,qQ,QN,show decide ((e.1,e.2.2).1=nm)=false from decide_eq_false c] at h
   show ZP ((Sum.inr e.1,V.ref e.2.1)::kvE r) _=none;rw [yJ (λz=>c (Sum.inr.inj z))];exact zFY h
theorem zFm {nm:Str} {p:List Int×List Int}:∀{es:List Ent},Y6 (Yw es) nm=some p->∃e∈es,e.2.2=p/\ZP (kvE es) (Sum.inr nm)=some (.ref e.2.1)
 | [],h=>by cases h
 | e::r,h=>by
  by_cases c:e.1=nm
  ·rw [Y6,Yw,qQ,QN,show decide ((e.1,e.2.2).1=nm)=true from decide_eq_true c] at h
   exact ⟨e,qD,Option.some.inj h,yX (p:=(Sum.inr e.1,V.ref e.2.1)) (by rw [c])⟩
  ·rw [Y6,Yw,qQ,QN,show decide ((e.1,e.2.2).1=nm)=false from decide_eq_false c] at h
   obtain ⟨e',m,h1,h2⟩:=zFm (es:=r) h;exact ⟨e',qF _ m,h1,by
    show ZP ((Sum.inr e.1,V.ref e.2.1)::kvE r) _=_;rw [yJ (λz=>c (Sum.inr.inj z))];exact h2⟩
def zHd (CD:Addr):Sp:=λvs H Q _=>∃(d dx:Addr),vs=[.ref d]/\H d=some (.ins CD dx [])/\∀(D:Addr) (H':Hp),Ex (·=d) H H'->H D=none->H' d=some (.ins CD dx [("keepers", .ref D)])->H' D=some (.dK [])->Q .non H'
def zMe (CD C:Addr):Sp:=λvs H Q _=>∃(d dx D:Addr) (es:List Ent),vs=[.ref d]/\Yx H CD C d dx D es/\es.length<64/\UpS (es.map (·.1))/\∀(l:Addr) (H':Hp),zC H H'->H l=none->H' l=some (.lst ((es.map (·.1)).map V.str))->Q (.ref l) H'
def zMP (CD C XN:Addr):Sp:=λvs H Q E=>∃(d dx D:Addr) (es:List Ent) (nm:Str),vs=[.ref d, .str nm]/\Yx H CD C d dx D es/\(Y6 (Yw es) nm=none->E (.ref XN) none H)/\∀p,Y6 (Yw es) nm=some p->∀k kx a b,Kp H C k kx a b p.1 p.2->Q (.ref k) H
def zLw (CD C:Addr):Sp:=λvs H Q _=>∃(d dx D t a b:Addr) (es:List Ent) (nm:Str) (ns ss:List Int),vs=[.ref d, .str nm, .ref t]/\Yx H CD C d dx D es/\Zm H t a b ns ss/\(∀e∈es,e.1≠nm)/\es.length<60/\∀(k:Addr) (H':Hp),Ex (·=D) H H'->Yx H' CD C d dx D (es++[(nm,k,ns,ss)])->Q (.str (Str.ofString "ok")) H'
section
variable {f g1 g2 C CD XN:Addr} {fd gd1 gd2:FuncData} {tk:Tok}
theorem zQU:zP ["self"] ["self"] (zF zKn):=ZA
theorem zQK (F:zm K "__init__" "Desk.__init__" zKn f fd) (T:DkT K CD):zH P w K mg base zT 1 f fd ["self"] (zHd CD):=by
 refine F.ok zQU (λvs H Q E h=>?_) (λcdv A outer s H vs Q E hr h=>?_)
 ·obtain ⟨d,dx,rfl,_⟩:=h
  rfl
 obtain ⟨d,dx,rfl,hd,q⟩:=h;refine ⟨_,(@zG _ _ _ (YW (pv 0) zEf rfl)),?_⟩;intro D hD;have dD:d≠D:=zJ hd hD;refine ⟨_,rfl,d,CD,dx,_,rfl,zC.new hD _ _ _ hd,T.cl,T.nK,(by show 0<1000; decide),?_⟩;refine q D _ (λc o hc h=>?_) hD ?_ ?_
 ·rw [zI hc]
  exact zC.new hD _ _ _ h
 ·rw [zD]
  rfl
 ·rw [zI (Ne.symm dD),zD]
theorem zQX:zP ["self"] ["self"] (zF zKj):=ZA
theorem zPT (F:zm K "names" "Desk.names" zKj f fd) (B:Bt2 mg) (T:DkT K CD):zH P w K mg base zT 1 f fd ["self"] (zMe CD C):=by
 refine F.ok zQX (λvs H Q E h=>?_) (λcdv A outer s H vs Q E hr h=>?_)
 ·obtain ⟨d,dx,D,es,rfl,_⟩:=h
  rfl
 obtain ⟨d,dx,D,es,rfl,dk,h64,up,q⟩:=h;refine ⟨_,(@zG _ _ _ (zR (zY (zBX rfl) rfl B.sorted boot_sorted (zA (ZB (pv 0) rfl) zB)))),?_⟩;exact ⟨_,rfl,d,CD,dx,_,_,rfl,dk.d,T.cl,T.nK,rfl,D,_,es.map (·.1),rfl,dk.D,by rw [qU,qU]; rfl,by rw [qA]; exact h64,up,λl hl=>q l _ (zC.new hl _) hl zD⟩
theorem zQS:zP ["self","name"] ["self","name"] (zF zKu):=ZA
theorem zOQ (F:zm K "keeper_by" "Desk.keeper_by" zKu f fd) (T:DkT K CD) (eXN:W.excIn K XN JJ "ValueError.__new__"=true) (mXN:mg "NoName"=some (.ref XN)):zH P w K mg base (Zv P w) 1 f fd ["self","name"] (zMP CD C XN):=by
 refine F.ok1 zQS (λvs H Q E h=>?_) (λcdv A outer s H vs Q E hr h=>?_)
 ·obtain ⟨d,dx,D,es,nm,rfl,_⟩:=h
  rfl
 obtain ⟨d,dx,D,es,nm,rfl,dk,qe,q⟩:=h;have hu:=zAZ hr;refine ⟨_,(@zE _ _ _ _ _ (zy (jt (Jh hu (pv 1) (ZB (pv 0) rfl))) (@zG _ _ _ (Z7 yT rfl QC eXN rfl mXN (zA zV zB))) zf) (@zG _ _ _ (zR (jd hu (ZB (pv 0) rfl) (pv 1) (λ_ _=>rfl))))),?_⟩;cases e:Y6 (Yw es) nm with
 | none=>exact ⟨_,rfl,_,rfl,d,CD,dx,_,_,rfl,dk.d,T.cl,T.nK,rfl,D,none,rfl, .inl ⟨_,Sum.inr nm, .inl dk.D,rfl,(zFY e).symm⟩,_,rfl,yA ⟨by decide,qe e⟩⟩
 | some p=>
  obtain ⟨e',m,rfl,hv⟩:=zFm e;obtain ⟨kx,a,b,kp⟩:=dk.ks e' m;refine ⟨_,rfl,_,rfl,d,CD,dx,_,_,rfl,dk.d,T.cl,T.nK,rfl,D,some _,rfl, .inl ⟨_,Sum.inr nm, .inl dk.D,rfl,hv.symm⟩,_,rfl,yF ?_⟩;exact ⟨_,rfl,d,CD,dx,_,_,rfl,dk.d,T.cl,T.nK,rfl,_,rfl,D,_,rfl, .inl ⟨_,Sum.inr nm, .inl dk.D,rfl,hv.symm⟩,q _ e _ kx a b kp⟩
theorem zRs:zP ["self","name","plan"] ["self","name","plan"] (zF zLI):=ZA
theorem zOx (F:zm K "put" "Desk.put" zLI f fd) (T:DkT K CD) (mD:mg "DONE"=some (.str (Str.ofString "ok") tk)) (MK:Mk K C g1) (GK:zH P w K mg base zT 5 g1 gd1 ["self","plan"] (zMV C)) (mK:mg "Keeper"=some (.ref C)) (bK:zL K gd1 ["self","plan"] []):zH P w K mg base zT 7 f fd ["self","name","plan"] (zLw CD C):=by
 refine F.ok zRs (λvs H Q E h=>?_) (λcdv A outer s H vs Q E hr h=>?_)
 ·obtain ⟨d,dx,D,t,a,b,es,nm,ns,ss,rfl,_⟩:=h
  rfl
 obtain ⟨d,dx,D,t,a,b,es,nm,ns,ss,rfl,dk,pl,hnew,hlen,q⟩:=h;have hu:=zAZ hr;refine ⟨_,(@zE _ _ _ _ _ (zBQ hu (ZB (pv 0) rfl) (pv 1) (Jy MK GK hr rfl mK bK .nil zO (zA (pv 2) zB)) rfl) (@zG _ _ _ (zR (zr (v:= .str (Str.ofString "ok")) rfl mD ⟨_,rfl⟩)))),?_⟩;refine ⟨_,rfl,λx kx hx hkx ne=>?_⟩;have g1:zC H (upd H kx (.own x)):=zC.new hkx _;have hx1:(upd H kx (.own x)) x=none:=by rw [zI (Ne.symm ne)]; exact hx
 have g2:zC H (upd (upd H kx (.own x)) x (.ins C kx [])):=g1.trans (zC.new hx1 _);refine ⟨x,kx,t,a,b,ns,ss,rfl,zD,⟨g2 _ _ pl.t,g2 _ _ pl.a,g2 _ _ pl.b,pl.ok⟩,λa' b' H1 ex kp na nb=>⟨rfl,?_⟩⟩;have st:∀{c:Addr} {o:HO},H c=some o->H1 c=some o:=λ{c o} h=>ex c o (zJ h hx) (g2 _ _ h)
 refine ⟨_,rfl,d,CD,dx,_,_,rfl,st dk.d,T.cl,T.nK,rfl,_,rfl,D,_,rfl, .inl ⟨_,Sum.inr nm,st dk.D,rfl,(by rw [qA,sizeLine_eq]; omega),rfl⟩,?_⟩;have np:Zj (kvE es) (Sum.inr nm) (.ref x)=kvE (es++[(nm,x,ns,ss)]):=by
  unfold Zj;rw [if_neg (λh=>by
   obtain ⟨kv,hm,hk⟩:=XO.mp h;obtain ⟨e,he,rfl⟩:=qY.mp hm;exact hnew e he (Sum.inr.inj (of_decide_eq_true hk)))]
  rw [show kvE (es++[(nm,x,ns,ss)])=kvE es++kvE [(nm,x,ns,ss)] from qS];rfl
 rw [np];have xD:x≠D:=Ne.symm (zJ dk.D hx);have nD:∀{c:Addr} {o:HO},H1 c=some o->(∀kvs,o≠ .dK kvs)->c≠D:=λ{c o} h n z=>by
  rw [z,st dk.D] at h;exact n _ (Option.some.inj h).symm
 have kpS:∀{k kx a b:Addr} {ns' ss':List Int},Kp H1 C k kx a b ns' ss'->Kp (upd H1 D (.dK (kvE (es++[(nm,x,ns,ss)])))) C k kx a b ns' ss':=λ{k kx a b ns' ss'} h=>⟨by rw [zI (nD h.k (λ_ z=>nomatch z))]; exact h.k,by rw [zI (nD h.a (λ_ z=>nomatch z))]; exact h.a,by rw [zI (nD h.b (λ_ z=>nomatch z))]; exact h.b,h.ok⟩
 refine q x _ (λc o hc h=>?_) ⟨?_,zD,λe he=>?_⟩
 ·rw [zI hc]
  exact st h
 ·rw [zI (nD (st dk.d) (λ_ z=>nomatch z))]
  exact st dk.d
 ·rcases qO.mp he with he | he
  ·obtain ⟨kx',a1,b1,k1⟩:=dk.ks e he
   exact ⟨kx',a1,b1,kpS ⟨st k1.k,st k1.a,st k1.b,k1.ok⟩⟩
  ·cases qH.mp he
   exact ⟨kx,a',b',kpS kp⟩
end
abbrev zGs:List Str:=["squares","threes","primes","powers"].map Str.ofString
def jn (a b k:Nat):Nat:=if k=1 then a else if k=2 then b else 0
def zKM (v:Str) (ns ss:List Int) (x:Int):Nat:=
 if v=Str.ofString "come" then jn 8 1 (zBI ns ss (.int x)) else if v=Str.ofString "go" then jn 8 1 (zBJ ns ss (.int x)) else if v=Str.ofString "sum" then jn 8 7 (zBL ns ss (.int x)) else if v=Str.ofString "unsum" then jn 8 7 (zBW ns ss (.int x)) else if x.toNat<YM ns ss false then 0 else 3
def jU (ps:List zAM) (ws:List Str):Nat:=
 if yY ws=false then 11
 else if ws.getD 0 Str.empty=Str.ofString "plan" then (if wrT (ws.getD 2 Str.empty)=true then 0 else 9)
 else if ws.getD 0 Str.empty=Str.ofString "kind" then (if ws.getD 2 Str.empty∈zGs then (if 1≤ZT (ws.getD 3 Str.empty)/\ZT (ws.getD 3 Str.empty)≤10 then 0 else 1) else 2)
 else match Y6 ps (ws.getD 1 Str.empty) with
  | none=>10
  | some p=>if ws.getD 0 Str.empty∈Yj then zKM (ws.getD 0 Str.empty) p.1 p.2 (ZT (ws.getD 2 Str.empty)) else 0
def js (v:Str):List Int->List Int->Str->Prop:=
 if v=Str.ofString "rows" then tlN (λns ss=>YM ns ss false) else if v=Str.ofString "rings" then tlN jN else if v=Str.ofString "row" then tlR false else if v=Str.ofString "ring" then tlR true else if v=Str.ofString "longest" then tlL else if v=Str.ofString "cut" then tlC else tlW
def YH (ps:List zAM) (ws:List Str) (ans:Str):Prop:=yY ws=true/\∃p,Y6 ps (ws.getD 1 Str.empty)=some p/\((ws.getD 0 Str.empty∈Yp/\js (ws.getD 0 Str.empty) p.1 p.2 ans)\/
 (ws.getD 0 Str.empty=Str.ofString "nth"/\(ZT (ws.getD 2 Str.empty)).toNat<YM p.1 p.2 false/\Shw (zDV p.1 p.2 (ZT (ws.getD 2 Str.empty)).toNat)/\ans=Zk (zDV p.1 p.2 (ZT (ws.getD 2 Str.empty)).toNat)))
def zEQ (K:W.Frag) (CD C:Addr) (XC:Nat->Addr):Sp:=λvs H Q E=>∃(d dx D:Addr) (es:List Ent) (v:V),vs=[.ref d,v]/\Yx H CD C d dx D es/\
 ((zBb K H v/\E (.ref (XC 11)) none H)\/∃z:Str,v= .str z/\z.length≤570/\
  ((jU (Yw es) (Zb z)≠0/\∀H',zC H H'->E (.ref (XC (jU (Yw es) (Zb z)))) none H')\/
  (∃ans,YH (Yw es) (Zb z) ans/\∀H',zC H H'->Q (.str ans) H')\/
  ∃(nm t:Str) (ns ss:List Int),Zb z=[Str.ofString "plan",nm,t]/\jW z=true/\RdT t (some (ns,ss))/\(∀e∈es,e.1≠nm)/\es.length<60/\∀(k:Addr) (H':Hp),Ex (·=D) H H'->Yx H' CD C d dx D (es++[(nm,k,ns,ss)])->Q (.str (Str.ofString "ok")) H'))
def FmS (kvS:List (Str×Tok×Value)) (C:Addr) (XC:Nat->Addr) (f:Addr) (sp:Sp):Prop:=
 (valueAt (ZN kvS) (Sum.inr (Str.ofString "come"))=some (.ref f)/\sp=yZ C (XC 8) (XC 1) zBI)\/(valueAt (ZN kvS) (Sum.inr (Str.ofString "go"))=some (.ref f)/\sp=yZ C (XC 8) (XC 1) zBJ)\/
 (valueAt (ZN kvS) (Sum.inr (Str.ofString "sum"))=some (.ref f)/\sp=yZ C (XC 8) (XC 7) zBL)\/(valueAt (ZN kvS) (Sum.inr (Str.ofString "unsum"))=some (.ref f)/\sp=yZ C (XC 8) (XC 7) zBW)\/
 (valueAt (ZN kvS) (Sum.inr (Str.ofString "nth"))=some (.ref f)/\sp=zLs C (XC 3))
def FmA (kvA:List (Str×Tok×Value)) (f:Addr) (sp:Sp):Prop:=∃v,v∈Yp/\valueAt (ZN kvA) (Sum.inr v)=some (.ref f)/\sp=jz (js v)
theorem Jg {ws:List Str} (h:yY ws=true):∃fs,ZS (ws.getD 0 Str.empty)=some fs/\ws.length=1+fs.length/\∀i<fs.length,zAY (fs.getD i 0) (ws.getD (1+i) Str.empty)=true:=by
 unfold yY at h;cases e:ZS (ws.getD 0 Str.empty) with
 | none=>rw [e] at h; cases h
 | some fs=>
  rw [e] at h;obtain ⟨h1,h2⟩:=qM _ _▸h;exact ⟨fs,rfl,of_decide_eq_true h1,λi hi=>QM.mp h2 i (QP.mpr hi)⟩
theorem zMY {z:Str} (h:snB z=true):ya z=true/\z.length≤9:=by
 unfold snB at h;obtain ⟨h1,h2⟩:=qM _ _▸h;exact ⟨h1,of_decide_eq_true h2⟩
theorem zBn {few:Int} {ns:List Int} (h:yh few ns=true):(∀x∈ns,0≤x)/\few≤ns.length:=by
 have e:yh few ns=(decide (few≤((ns.map PyData.int).length:Int))&&(decide ((ns.map PyData.int).length≤10)&&Zh (-1) (ns.map PyData.int))):=rfl;rw [e,qM,qM,decide_eq_true_eq,qA] at h;refine ⟨λx hx=>?_,h.1⟩;have:=(QT.mp ((zAI ns (-1)).mp h.2.2)).1 x hx;omega
theorem JR {z:Str} {ns ss:List Int} (h:RdT z (some (ns,ss))):(∀x∈ns,0≤x)/\(∀x∈ss,0≤x)/\ns≠[]:=by
 obtain ⟨h1,h2⟩:=qM _ _▸(zBF h).2;refine ⟨(zBn h1).1,(zBn h2).1,λe=>?_⟩;have:=(zBn h1).2;rw [e] at this;exact absurd this (by decide)
theorem zPA (w:Str):∃n:Nat,ZT w=(n:Int):=⟨_,rfl⟩
section
variable {f g1 g2 g3 g4 g5 g6 g7 C CD ka ks:Addr} {fd gd1 gd2 gd3 gd4 gd5 gd6 gd7:FuncData} {kvs kvA kvS:List (Str×Tok×Value)} {XC:Nat->Addr} {spD:Sp}
theorem zCl:zP ["self","row","words","verb","name","keeper"] ["self","row"] (zF zKD):=ZA
theorem zOU (F:zm K "say" "Desk.say" zKD f fd) (B:Bt2 mg) (T:DkT K CD) (T2:KpT K C) (KA:yv K w ka kvA) (mA:mg "ASKED"=some (.ref ka)) (KS:yv K w ks kvS) (mS:mg "SAID_WITH_NUMBER"=some (.ref ks))
  (hA:∀z,z∈Yp->∃f,valueAt (ZN kvA) (Sum.inr z)=some (.ref f)) (hS:∀z,(valueAt (ZN kvS) (Sum.inr z)).isSome=decide (z∈Yj)) (hS':∀z,z∈Yj->∃f,valueAt (ZN kvS) (Sum.inr z)=some (.ref f)) (hK:∀z,(valueAt (ZN kvs) (Sum.inr z)).isSome=decide (z∈zGs))
  (GW:zH P w K mg base (Zv P w) 31 g1 gd1 ["row"] (zMC K (XC 11))) (bW:zL K gd1 ["row"] []) (kW:ZC K g1) (mW:mg "said_words"=some (.ref g1))
  (GR:zH P w K mg base (Zv P w) 31 g2 gd2 ["text"] (Tt.zGF (XC 9))) (bR:zL K gd2 ["text"] []) (kR:ZC K g2) (mR:mg "read_plan"=some (.ref g2))
  (GP:zH P w K mg base (Zv P w) 31 g3 gd3 ["kind","n"] (zLq kvs (XC 2) (XC 1))) (bP:zL K gd3 ["kind","n"] []) (kP:ZC K g3) (mP:mg "plan_of"=some (.ref g3))
  (mU:ZH K CD "put" g4) (GU:zH P w K mg base zT 31 g4 gd4 ["self","name","plan"] (zLw CD C)) (bU:zL K gd4 ["self","name","plan"] [])
  (mB:ZH K CD "keeper_by" g5) (GB:zH P w K mg base (Zv P w) 31 g5 gd5 ["self","name"] (zMP CD C (XC 10))) (bB:zL K gd5 ["self","name"] [])
  (mD:ZH K CD "drop" g6) (GD:zH P w K mg base zT 31 g6 gd6 ["self","name"] spD) (bD:zL K gd6 ["self","name"] [])
  (mL:ZH K C "plan" g7) (GL:zH P w K mg base zT 31 g7 gd7 ["self"] (zHv C)) (bL:zL K gd7 ["self"] [])
  (FS:∀f sp,FmS kvS C XC f sp->∃fd ps,zH P w K mg base (Zv P w) 31 f fd ps sp/\ZC K f/\zL K fd ps [])
  (FQ:∀f sp,FmA kvA f sp->∃fd ps,zH P w K mg base zT 31 f fd ps sp/\ZC K f/\zL K fd ps []):zH P w K mg base (Zv P w) 32 f fd ["self","row"] (zEQ K CD C XC):=by
 refine F.ok1 zCl (λvs H Q E h=>?_) (λcdv A outer s H vs Q E hr h=>?_)
 ·obtain ⟨d,dx,D,es,v,rfl,_⟩:=h
  rfl
 obtain ⟨d,dx,D,es,v,rfl,dk,h⟩:=h;refine ⟨_,(@zE _ _ _ _ _ (za (i:=2) zCl.nd rfl (Or.inl rfl) (zU GW hr rfl mW kW bW .nil y0 (zA (pv 1) zB))) (@zE _ _ _ _ _ (za (i:=3) zCl.nd rfl (Or.inl rfl) (zu ZE (pv 2) zK (λ_ _=>rfl))) (@zE _ _ _ _ _ (za (i:=4) zCl.nd rfl (Or.inl rfl) (zu ZE (pv 2) zK (λ_ _=>rfl))) (@zE _ _ _ _ _ (zy (zh ye (pv 3) zV (zk _)) (@zG _ _ _ (zR (z0 (pv 0) T.cl mU GU hr bU .nil zO (zA (pv 4) (zA (zU GR hr rfl mR kR bR .nil y0 (zA (zu ZE (pv 2) zK (λ_ _=>rfl)) zB)) zB))))) zf) (@zE _ _ _ _ _ (zy (zh ye (pv 3) zV (zk _)) (@zG _ _ _ (zR (z0 (pv 0) T.cl mU GU hr bU .nil zO (zA (pv 4) (zA (zU GP hr rfl mP kP bP .nil y0 (zA (zu ZE (pv 2) zK (λ_ _=>rfl)) (zA (Zu zAs rfl B.int PyProof.Rows.boot_int (zA (zu ZE (pv 2) zK (λ_ _=>rfl)) zB)) zB))) zB))))) zf) (@zE _ _ _ _ _ (za (i:=5) zCl.nd rfl (Or.inl rfl) (z0 (pv 0) T.cl mB GB hr bB .nil y0 (zA (pv 4) zB))) (@zE _ _ _ _ _ (zy (zh ye (pv 3) zV (zk _)) (@zG _ _ _ (zR (z0 (pv 0) T.cl mD GD hr bD .nil zO (zA (pv 4) zB)))) zf) (@zE _ _ _ _ _ (zy (jt (zEq KS (pv 3) (zr (v:= .ref ks) rfl mS rfl))) (@zG _ _ _ (zR (zAi (Fm:=FmS kvS C XC) FS hr y0 (zDQ KS (zr (v:= .ref ks) rfl mS rfl) (pv 3) (λ_ _=>rfl)) (zA (pv 5) (zA (Zu zAs rfl B.int PyProof.Rows.boot_int (zA (zu ZE (pv 2) zK (λ_ _=>rfl)) zB)) zB))))) zf) (@zG _ _ _ (zR (zAi (Fm:=FmA kvA) FQ hr zO (zDQ KA (zr (v:= .ref ka) rfl mA rfl) (pv 3) (λ_ _=>rfl)) (zA (YJ (pv 5) T2.cl mL GL hr bL .nil zO) zB)))))))))))),?_⟩;rcases h with ⟨nt,q⟩ | ⟨z,rfl,hz,h⟩
 ·exact ⟨_,rfl,_,rfl, .inl ⟨nt,q⟩⟩
 refine ⟨_,rfl,_,rfl, .inr ⟨z,rfl,hz,λc H1 g1=>?_,λc Dl H1 g1 el nl=>?_⟩⟩
 ·have e:jU (Yw es) (Zb z)=11:=by
   unfold jU;rw [if_pos (show yY (Zb z)=false from c)]
  rcases h with ⟨_,q⟩ | ⟨ans,⟨c2,_⟩,_⟩ | ⟨_,_,_,_,_,c2,_⟩
  ·rw [e] at q
   exact q _ g1
  ·rw [show yY (Zb z)=false from c] at c2
   cases c2
  ·rw [c] at c2
   cases c2
 have c':¬yY (Zb z)=false:=λy=>by
  rw [show yY (Zb z)=true from c] at y;cases y
 obtain ⟨fs,efs,lfs,hfs⟩:=Jg c;have fl:1≤fs.length:=by
  unfold ZS at efs
  split at efs
  ·cases efs; decide
  split at efs
  ·cases efs; decide
  split at efs
  ·cases efs; decide
  split at efs
  ·cases efs; decide
  split at efs
  ·cases efs; decide
  ·cases efs
 have wl:∀u∈Zb z,u.length≤z.length:=λu=>zIX
 unfold jU at h;rw [if_neg c'] at h;generalize Zb z=ws at*;obtain ⟨w0,w1,r,rfl⟩:∃w0 w1 r,ws=w0::w1::r:=by
  match ws,lfs with
  | w0::w1::r,_=>exact ⟨w0,w1,r,rfl⟩
  | [x],lfs=>have:1=1+fs.length:=lfs; omega
  | [],lfs=>have:0=1+fs.length:=lfs; omega
 rw [show (w0::w1::r).getD 0 Str.empty=w0 from rfl] at efs h;refine ⟨_,rfl,Dl,_,0,_,rfl,rfl,zQ.of el,Z2 (j:=0) rfl,?_⟩;refine ⟨_,rfl,Dl,_,1,_,rfl,rfl,zQ.of el,Z2 (j:=1) rfl,?_⟩;have dk1:=dk.same g1;refine ⟨_,rfl,rfl,_,rfl,zq (λcp=>?_) (λcp=>?_)⟩
 ·-- plan
  have e0:w0=Str.ofString "plan":=V.str.inj (of_decide_eq_true cp);subst e0;have ef:fs=[0,3]:=by rw [show ZS (Str.ofString "plan")=some [0,3] from by decide +kernel] at efs; exact (Option.some.inj efs).symm
  subst ef;obtain ⟨w2,rfl⟩:∃w2,r=[w2]:=by
   match r,lfs with
   | [w2],_=>exact ⟨w2,rfl⟩
  refine ⟨_,rfl,d,dx,_,rfl,dk1.d,rfl,_,rfl,_,rfl,Dl,_,2,_,rfl,rfl,zQ.of el,Z2 (j:=2) rfl,?_⟩;obtain ⟨r2,hr2⟩:=zGi w2;have ew:=zGu hr2;have lw2:w2.length≤570:=qK (wl w2 (qF _ (qF _ qD))) hz;refine ⟨_,_,r2,rfl, .str w2,λy hy=>by cases hy; exact lw2,hr2,λen H2 g2=>?_,λns ss es2 t a b H2 g2 _ _ _ _ pl=>?_⟩
  ·subst en
   rw [if_pos rfl,show wrT ((Str.ofString "plan"::w1::[w2]).getD 2 Str.empty)=false from ew,if_neg (by decide)] at h;rcases h with ⟨_,q⟩ | ⟨ans,⟨_,p,_,(⟨c2,_⟩ | ⟨c2,_⟩)⟩,_⟩ | ⟨nm,t,ns,ss,ez,_,hr3,_⟩
   ·exact q _ (g1.trans g2)
   ·exact absurd (show Str.ofString "plan"∈Yp from c2) (by decide +kernel)
   ·exact absurd (show Str.ofString "plan"=Str.ofString "nth" from c2) (by decide +kernel)
   ·injection ez with _ ez
    injection ez with _ ez
    injection ez with ez _
    subst ez;have:=zGu hr3;rw [ew] at this;cases this
  ·subst es2
   rw [if_pos rfl,show wrT ((Str.ofString "plan"::w1::[w2]).getD 2 Str.empty)=true from ew,if_pos rfl] at h;rcases h with ⟨c2,_⟩ | ⟨ans,⟨_,p,_,(⟨c2,_⟩ | ⟨c2,_⟩)⟩,_⟩ | ⟨nm,t',ns',ss',ez,_,hr3,hnew,hlen,q⟩
   ·exact absurd rfl c2
   ·exact absurd (show Str.ofString "plan"∈Yp from c2) (by decide +kernel)
   ·exact absurd (show Str.ofString "plan"=Str.ofString "nth" from c2) (by decide +kernel)
   ·injection ez with _ ez
    injection ez with e1 ez
    injection ez with ez _
    subst ez e1;obtain ⟨b1,_⟩:=zBF hr2;obtain ⟨b2,_⟩:=zBF hr3;refine ⟨d,dx,D,t,a,b,es,w1,ns,ss,rfl,dk1.same g2,pl,hnew,hlen,λk H3 ex dk3=>?_⟩;obtain ⟨rfl,rfl⟩:ns=ns'/\ss=ss':=zDt (JR hr2).1 (JR hr3).1 (JR hr2).2.1 (JR hr3).2.1 (JR hr2).2.2 (JR hr3).2.2 (b1.trans b2.symm);exact q k H3 (λx o hx hh=>ex x o hx (g2 _ _ (g1 _ _ hh))) dk3
 have e0:¬w0=Str.ofString "plan":=λy=>cp (decide_eq_true (by rw [y]))
 rw [if_neg e0] at h;have hput:∀{X:Str->Str->List Int->List Int->Prop},(∃(nm t:Str) (ns ss:List Int),w0::w1::r=[Str.ofString "plan",nm,t]/\X nm t ns ss)->False:=λ{X} ⟨nm,t,ns,ss,ez,_⟩=>by
  injection ez with ez _
  exact e0 ez
 refine ⟨_,rfl,rfl,_,rfl,zq (λck=>?_) (λck=>?_)⟩
 ·-- kind
  have ek:w0=Str.ofString "kind":=V.str.inj (of_decide_eq_true ck);subst ek;have ef:fs=[0,1,2]:=by rw [show ZS (Str.ofString "kind")=some [0,1,2] from by decide +kernel] at efs; exact (Option.some.inj efs).symm
  subst ef;obtain ⟨w2,w3,rfl⟩:∃w2 w3,r=[w2,w3]:=by
   match r,lfs with
   | [w2,w3],_=>exact ⟨w2,w3,rfl⟩
  rw [if_pos rfl] at h;obtain ⟨hw,hl9⟩:=zMY (show snB w3=true from hfs 2 (by decide));refine ⟨_,rfl,d,dx,_,rfl,dk1.d,rfl,_,rfl,_,rfl,Dl,_,2,_,rfl,rfl,zQ.of el,Z2 (j:=2) rfl,_,rfl,Dl,_,3,_,rfl,rfl,zQ.of el,Z2 (j:=3) rfl,?_⟩;refine ⟨w3,_,rfl,zBu hw (by omega),by omega,w2,ZT w3,rfl,?_⟩;rw [show (Str.ofString "kind"::w1::[w2,w3]).getD 2 Str.empty=w2 from rfl,show (Str.ofString "kind"::w1::[w2,w3]).getD 3 Str.empty=w3 from rfl] at h;have dead:∀{X:Prop},(∃ans,YH (Yw es) (Str.ofString "kind"::w1::[w2,w3]) ans/\∀H',zC H H'->Q (.str ans) H')->X:=λ{X} ⟨ans,⟨_,p,_,hh⟩,_⟩=>by
   rcases hh with ⟨c2,_⟩ | ⟨c2,_⟩
   ·exact absurd (show Str.ofString "kind"∈Yp from c2) (by decide +kernel)
   ·exact absurd (show Str.ofString "kind"=Str.ofString "nth" from c2) (by decide +kernel)
  rw [hK];by_cases kw:w2∈zGs
  ·rw [if_pos kw] at h
   by_cases hn:1≤ZT w3/\ZT w3≤10
   ·rw [if_pos hn] at h
    rcases h with ⟨c2,_⟩ | h | h
    ·exact absurd rfl c2
    ·exact dead h
    ·exact (hput h).elim
   ·rw [if_neg hn] at h
    rcases h with ⟨_,q⟩ | h | h
    ·exact .inr ⟨decide_eq_true kw,hn,q _ g1⟩
    ·exact dead h
    ·exact (hput h).elim
  ·rw [if_neg kw] at h
   rcases h with ⟨_,q⟩ | h | h
   ·exact .inl ⟨decide_eq_false kw,q _ g1⟩
   ·exact dead h
   ·exact (hput h).elim
 have ek:¬w0=Str.ofString "kind":=λy=>ck (decide_eq_true (by rw [y]))
 rw [if_neg ek,show (w0::w1::r).getD 1 Str.empty=w1 from rfl] at h;refine ⟨_,rfl,d,dx,_,rfl,dk1.d,rfl,_,rfl,d,dx,D,es,w1,rfl,dk1,λen=>?_,λp ep k kx a b kp=>?_⟩
 ·rw [en] at h
  rcases h with ⟨_,q⟩ | ⟨ans,⟨_,p,ep,_⟩,_⟩ | h
  ·exact q _ g1
  ·rw [show (w0::w1::r).getD 1 Str.empty=w1 from rfl,en] at ep
   cases ep
  ·exact (hput h).elim
 rw [ep] at h;dsimp only at h;refine ⟨_,rfl,rfl,_,rfl,zq (λcd=>?_) (λcd=>?_)⟩
 ·have ed:w0=Str.ofString "drop":=V.str.inj (of_decide_eq_true cd)
  subst ed;rw [if_neg (by decide +kernel)] at h;rcases h with ⟨c2,_⟩ | ⟨ans,⟨_,p',_,(⟨c2,_⟩ | ⟨c2,_⟩)⟩,_⟩ | h
  ·exact absurd rfl c2
  ·exact absurd (show Str.ofString "drop"∈Yp from c2) (by decide +kernel)
  ·exact absurd (show Str.ofString "drop"=Str.ofString "nth" from c2) (by decide +kernel)
  ·exact (hput h).elim
 refine ⟨_,rfl,w0,rfl,rfl,_,rfl,zq (λcs=>?_) (λcs=>?_)⟩
 ·rw [hS] at cs
  have ms:w0∈Yj:=of_decide_eq_true cs;have na:¬w0∈Yp:=λy=>by
   have:∀u∈Yp,¬u∈Yj:=by decide +kernel
   exact this w0 y ms
  rw [if_pos ms] at h;have ef:fs=[0,2]:=by
   unfold ZS at efs;rw [if_neg na,if_pos ms] at efs;exact (Option.some.inj efs).symm
  subst ef;obtain ⟨w2,rfl⟩:∃w2,r=[w2]:=by
   match r,lfs with
   | [w2],_=>exact ⟨w2,rfl⟩
  obtain ⟨hw,hl9⟩:=zMY (show snB w2=true from hfs 1 (by decide));obtain ⟨n,en⟩:=zPA w2;have rdn:=zBu hw (by omega);rw [en] at rdn;obtain ⟨fa,hfa⟩:=hS' w0 ms;rw [show (w0::w1::[w2]).getD 2 Str.empty=w2 from rfl,en] at h;have dead:¬w0=Str.ofString "nth"->∀{X:Prop},(∃ans,YH (Yw es) (w0::w1::[w2]) ans/\∀H',zC H H'->Q (.str ans) H')->X:=λnn {X} ⟨ans,⟨_,p,_,hh⟩,_⟩=>by
   rcases hh with ⟨c2,_⟩ | ⟨c2,_⟩
   ·exact absurd c2 na
   ·exact absurd c2 nn
  have fin:∀{a b kk:Nat},(jn a b kk≠0/\∀H',zC H H'->E (.ref (XC (jn a b kk))) none H')->(kk=1/\E (.ref (XC a)) none H1)\/(kk=2/\E (.ref (XC b)) none H1):=λ{a b kk} ⟨c2,q⟩=>by
   unfold jn at c2 q;by_cases k1:kk=1
   ·rw [if_pos k1] at q
    exact .inl ⟨k1,q _ g1⟩
   ·rw [if_neg k1] at c2 q
    by_cases k2:kk=2
    ·rw [if_pos k2] at q
     exact .inr ⟨k2,q _ g1⟩
    ·rw [if_neg k2] at c2
     exact absurd rfl c2
  suffices hsp:∃sp:Sp,FmS kvS C XC fa sp/\sp [.ref k, .int n] H1 Q E by
   obtain ⟨sp,hm,hq⟩:=hsp;exact ⟨_,rfl,w0,_, .ref fa,rfl,rfl,hfa,rfl,fa,sp,rfl,hm,_,rfl,_,rfl,Dl,_,2,_,rfl,rfl,zQ.of el,Z2 (j:=2) rfl,w2,n,rfl,rdn,by omega,hq⟩
  unfold zKM at h;by_cases v1:w0=Str.ofString "come"
  ·rw [if_pos v1] at h
   rcases h with h | h | h
   ·exact ⟨_, .inl ⟨by rw [<-v1]; exact hfa,rfl⟩,⟨k,kx,a,b,p.1,p.2,n,rfl,kp,fin h⟩⟩
   ·exact dead (by rw [v1]; decide +kernel) h
   ·exact (hput h).elim
  rw [if_neg v1] at h;by_cases v2:w0=Str.ofString "go"
  ·rw [if_pos v2] at h
   rcases h with h | h | h
   ·exact ⟨_, .inr (.inl ⟨by rw [<-v2]; exact hfa,rfl⟩),⟨k,kx,a,b,p.1,p.2,n,rfl,kp,fin h⟩⟩
   ·exact dead (by rw [v2]; decide +kernel) h
   ·exact (hput h).elim
  rw [if_neg v2] at h;by_cases v3:w0=Str.ofString "sum"
  ·rw [if_pos v3] at h
   rcases h with h | h | h
   ·exact ⟨_, .inr (.inr (.inl ⟨by rw [<-v3]; exact hfa,rfl⟩)),⟨k,kx,a,b,p.1,p.2,n,rfl,kp,fin h⟩⟩
   ·exact dead (by rw [v3]; decide +kernel) h
   ·exact (hput h).elim
  rw [if_neg v3] at h;by_cases v4:w0=Str.ofString "unsum"
  ·rw [if_pos v4] at h
   rcases h with h | h | h
   ·exact ⟨_, .inr (.inr (.inr (.inl ⟨by rw [<-v4]; exact hfa,rfl⟩))),⟨k,kx,a,b,p.1,p.2,n,rfl,kp,fin h⟩⟩
   ·exact dead (by rw [v4]; decide +kernel) h
   ·exact (hput h).elim
  rw [if_neg v4,xE] at h;have v5:w0=Str.ofString "nth":=by
   simp only [Yj,qQ,List.map_nil,qG,QZ,or_false] at ms;rcases ms with y | y | y | y | y
   ·exact absurd y v1
   ·exact absurd y v2
   ·exact absurd y v3
   ·exact absurd y v4
   ·exact y
  refine ⟨_, .inr (.inr (.inr (.inr ⟨by rw [<-v5]; exact hfa,rfl⟩))),⟨k,kx,a,b,p.1,p.2,n,rfl,kp,λlt=>?_,λge H2 g2=>?_⟩⟩
  ·rw [if_pos lt] at h
   rcases h with ⟨c2,_⟩ | ⟨ans,⟨_,p',ep',hh⟩,q⟩ | h
   ·exact absurd rfl c2
   ·rw [show (w0::w1::[w2]).getD 1 Str.empty=w1 from rfl,ep] at ep'
    cases ep';rcases hh with ⟨c2,_⟩ | ⟨_,_,sh,rfl⟩
    ·exact absurd c2 na
    ·rw [show (w0::w1::[w2]).getD 2 Str.empty=w2 from rfl,en,xE] at sh q
     exact ⟨sh,λH2 g2=>q _ (g1.trans g2)⟩
   ·exact (hput h).elim
  ·rw [if_neg ge] at h
   rcases h with ⟨_,q⟩ | ⟨ans,⟨_,p',ep',hh⟩,_⟩ | h
   ·exact q _ (g1.trans g2)
   ·rw [show (w0::w1::[w2]).getD 1 Str.empty=w1 from rfl,ep] at ep'
    cases ep';rcases hh with ⟨c2,_⟩ | ⟨_,lt,_⟩
    ·exact absurd c2 na
    ·rw [show (w0::w1::[w2]).getD 2 Str.empty=w2 from rfl,en,xE] at lt
     exact absurd lt ge
   ·exact (hput h).elim
 ·have ns:¬w0∈Yj:=λy=>cs (by rw [hS]; exact decide_eq_true y)
  rw [if_neg ns] at h;rcases h with ⟨c2,_⟩ | ⟨ans,⟨_,p',ep',hh⟩,q⟩ | h
  ·exact absurd rfl c2
  ·rw [show (w0::w1::r).getD 1 Str.empty=w1 from rfl,ep] at ep'
   cases ep';rcases hh with ⟨ma,tl⟩ | ⟨c2,_⟩
   ·obtain ⟨fa,hfa⟩:=hA w0 ma
    exact ⟨_,rfl,w0,_, .ref fa,rfl,rfl,hfa,rfl,fa,_,rfl,⟨w0,ma,hfa,rfl⟩,_,rfl,k,kx,_,rfl,kp.k,rfl,k,kx,a,b,p.1,p.2,rfl,kp,λt a' b' H2 g2 _ _ _ _ pl=>⟨t,a',b',_,_,ans,rfl,pl,tl,λH3 g3=>q _ (g1.trans (g2.trans g3))⟩⟩
   ·exact absurd (show w0∈Yj by rw [show w0=_ from c2]; decide +kernel) ns
  ·exact (hput h).elim
end
abbrev zGp:Stmt:=top 110
theorem zCe:bootBuiltins "ValueError"=some (.type "ValueError"):=by decide +kernel
structure ExT (mg:Str->Option Value) (x0 x1 x2 x3 x4 x5 x6 x7 x8 x9 x10 x11 XS:Addr):Prop where
 m0:mg "NoPlan"=some (.ref x0)
 m1:mg "NoNumber"=some (.ref x1)
 m2:mg "NoKind"=some (.ref x2)
 m3:mg "NoPlace"=some (.ref x3)
 m4:mg "NoRow"=some (.ref x4)
 m5:mg "NoCut"=some (.ref x5)
 m6:mg "NoPart"=some (.ref x6)
 m7:mg "NoSum"=some (.ref x7)
 m8:mg "TooMany"=some (.ref x8)
 m9:mg "NoText"=some (.ref x9)
 m10:mg "NoName"=some (.ref x10)
 m11:mg "NoSaying"=some (.ref x11)
 mS:mg "SumError"=some (.ref XS)
 mV:mg "ValueError"=none
structure ExD (K:W.Frag) (xs:List Addr) (XS D:Addr) (n:Int):Prop where
 k:xs.map (λx=>W.kitOne K (.ref D) (.ref x))=(List.range 12).map λi:Nat=>some (decide ((i:Int)=n))
 v:W.kitOne K (.ref D) (.type "ValueError")=some true
 c:jr K D
 e:W.exmOne K (.ref D) (.ref XS)=some true
 i:W.excIn K D JJ "ValueError.__new__"=true
 lt:n<12
theorem zDx:∀{xs:List Addr} {us:List Value},zi (xs.map V.ref) us->us=xs.map Value.ref
 | [],_, .nil=>rfl
 | _::_,_, .cons r rs=>by cases r; rw [qQ,zDx rs]
theorem zOv {K:W.Frag} {S:Addr} {j:Nat} {tb:XK->TS} {th:TS} {D:Ym} {σ:L2.St} {H:Hp} (R:Value->Hp->Prop)
  (h1:∀C H',R C H'->W.exmOne K C (.ref S)=some true/\∀ea:Addr,H' ea=none->th {nx:=λσ' H''=>D.nx (σ'.set j none) H'',rt:=λ_ _=>False} (σ.set j (some (.ref ea))) (upd H' ea (.ext (Y1 ea C))))
  (h2:∀E:XK,(∀C H',R C H'->E C none H')->tb E D σ H):zMT K S j tb th D σ H:=h2 _ h1
abbrev yO:List Nat:=[2,10,1,3,11,7,9,8]
abbrev zBt:List Str:=["kind","name","number","place","saying","sum","text","many"].map Str.ofString
def yz (n:Nat):Str:=zBt.getD (yO.idxOf n) Str.empty
theorem zPM (ps:List zAM) (ws:List Str) (h:jU ps ws≠0):jU ps ws∈yO:=by
 have cd:∀a b k,a∈yO->b∈yO->jn a b k≠0->jn a b k∈yO:=λa b k ha hb hh=>by
  unfold jn at hh ⊢
  split
  ·exact ha
  ·split
   ·exact hb
   ·rename_i c1 c2
    rw [if_neg c1,if_neg c2] at hh;exact absurd rfl hh
 unfold jU at h ⊢
 split
 ·decide
 rename_i c1
 rw [if_neg c1] at h
 split
 ·rename_i c2
  rw [if_pos c2] at h
  split
  ·rename_i c3
   rw [if_pos c3] at h;exact absurd rfl h
  ·decide
 rename_i c2
 rw [if_neg c2] at h
 split
 ·rename_i c3
  rw [if_pos c3] at h
  split
  ·rename_i c4
   rw [if_pos c4] at h
   split
   ·rename_i c5
    rw [if_pos c5] at h;exact absurd rfl h
   ·decide
  ·decide
 rename_i c3
 rw [if_neg c3] at h;cases e:Y6 ps (ws.getD 1 Str.empty) with
 | none=>
  show 10∈yO;decide
 | some p=>
  rw [e] at h;dsimp only at h ⊢
  split
  ·rename_i c4
   rw [if_pos c4] at h;unfold zKM at h ⊢
   split
   ·rename_i c5
    rw [if_pos c5] at h;exact cd _ _ _ (by decide) (by decide) h
   rename_i c5
   rw [if_neg c5] at h
   split
   ·rename_i c6
    rw [if_pos c6] at h;exact cd _ _ _ (by decide) (by decide) h
   rename_i c6
   rw [if_neg c6] at h
   split
   ·rename_i c7
    rw [if_pos c7] at h;exact cd _ _ _ (by decide) (by decide) h
   rename_i c7
   rw [if_neg c7] at h
   split
   ·rename_i c8
    rw [if_pos c8] at h;exact cd _ _ _ (by decide) (by decide) h
   rename_i c8
   rw [if_neg c8] at h
   split
   ·rename_i c9
    rw [if_pos c9] at h;exact absurd rfl h
   ·decide
  ·rename_i c4
   rw [if_neg c4] at h;exact absurd rfl h
def zIH (K:W.Frag) (H:Hp) (ps:List zAM) (v:V) (n:Nat):Prop:=(zBb K H v/\n=11)\/∃z:Str,v= .str z/\z.length≤570/\jU ps (Zb z)=n/\n≠0
theorem zBb.same {K:W.Frag} {H H':Hp} {v:V} (h:zBb K H v) (g:zC H H'):zBb K H' v:=by
 obtain ⟨t,ty,k⟩:=h;refine ⟨t,?_,k⟩;cases ty with
 | non=>exact .non
 | bl b=>exact .bl b
 | int i=>exact .int i
 | str x=>exact .str x
 | flt x=>exact .flt x
 | lst e=>exact .lst (g _ _ e)
 | frz e=>exact .frz (g _ _ e)
 | tup e=>exact .tup (g _ _ e)
 | dK e=>exact .dK (g _ _ e)
 | dT e=>exact .dT (g _ _ e)
 | ins e cl ha hn htk hm=>exact .ins (g _ _ e) cl ha hn htk hm
def zIu (K:W.Frag) (CD C:Addr):Sp:=λvs H Q _=>∃(d dx D:Addr) (es:List Ent) (v:V) (n:Nat),vs=[.ref d,v]/\Yx H CD C d dx D es/\zIH K H (Yw es) v n/\∀(l:Addr) (H':Hp),zC H H'->H' l=some (.lst [.bl true, .str (yz n)])->Q (.ref l) H'
section
variable {f g1 C CD x0 x1 x2 x3 x4 x5 x6 x7 x8 x9 x10 x11 XS:Addr} {fd gd1:FuncData}
theorem Yy:zP ["desk","row","found","kinds","others","words","e"] ["desk","row"] (zF zGp):=ZA
abbrev zCB (x0 x1 x2 x3 x4 x5 x6 x7 x8 x9 x10 x11:Addr):List Addr:=[x0,x1,x2,x3,x4,x5,x6,x7,x8,x9,x10,x11]
set_option maxHeartbeats 0 in
theorem zMw (F:zm K "_law_said" "_law_said" zGp f fd) (B:Bt2 mg) (T:ExT mg x0 x1 x2 x3 x4 x5 x6 x7 x8 x9 x10 x11 XS) (mXS:mg "SumError"=some (.ref XS)) (T1:DkT K CD)
  (ex:∀n∈yO,ExD K (zCB x0 x1 x2 x3 x4 x5 x6 x7 x8 x9 x10 x11) XS ((zCB x0 x1 x2 x3 x4 x5 x6 x7 x8 x9 x10 x11).getD n x0) n)
  (mY:ZH K CD "say" g1) (GY:zH P w K mg base (Zv P w) 32 g1 gd1 ["self","row"] (zEQ K CD C λn=>(zCB x0 x1 x2 x3 x4 x5 x6 x7 x8 x9 x10 x11).getD n x0)) (bY:zL K gd1 ["self","row"] []):zH P w K mg base zT 33 f fd ["desk","row"] (zIu K CD C):=by
 refine F.ok Yy (λvs H Q E h=>?_) (λcdv A outer s H vs Q E hr h=>?_)
 ·obtain ⟨d,dx,D,es,v,n,rfl,_⟩:=h
  rfl
 obtain ⟨d,dx,D,es,v,n,rfl,dk,rv,q⟩:=h;have nin:n∈yO:=by
  rcases rv with ⟨_,rfl⟩ | ⟨z,_,_,e,ne⟩
  ·decide
  ·rw [<-e] at ne ⊢
   exact zPM _ _ ne
 have en:=ex n nin
 clear ex
 refine ⟨_,(@zE _ _ _ _ _ (za (i:=2) Yy.nd rfl (Or.inl rfl) (ZG (zA yW (zA jH zB)))) (@zE _ _ _ _ _ (zNM (S:=XS) (j:=6) (zMi (λ_ _ z=>z) (pv 0) T1.cl mY GY hr bY .nil (zA (pv 1) zB) (Ja (pv 2) zK Y4)) (λve=>(@zE _ _ _ _ _ (za (i:=3) Yy.nd rfl (Or.inl rfl) (ZG (zA (zY (yf K) rfl B.isinstance boot_isinstance (zA (pv 6) (zA (zr (v:= .ref x2) rfl T.m2 rfl) zB))) (zA (zY (yf K) rfl B.isinstance boot_isinstance (zA (pv 6) (zA (zr (v:= .ref x10) rfl T.m10 rfl) zB))) (zA (zY (yf K) rfl B.isinstance boot_isinstance (zA (pv 6) (zA (zr (v:= .ref x1) rfl T.m1 rfl) zB))) (zA (zY (yf K) rfl B.isinstance boot_isinstance (zA (pv 6) (zA (zr (v:= .ref x3) rfl T.m3 rfl) zB))) zB)))))) (@zE _ _ _ _ _ (za (i:=3) Yy.nd rfl (Or.inl rfl) (zZ zo (pv 3) (ZG (zA (zY (yf K) rfl B.isinstance boot_isinstance (zA (pv 6) (zA (zr (v:= .ref x11) rfl T.m11 rfl) zB))) (zA (zY (yf K) rfl B.isinstance boot_isinstance (zA (pv 6) (zA (zr (v:= .ref x7) rfl T.m7 rfl) zB))) zB))))) (@zE _ _ _ _ _ (za (i:=3) Yy.nd rfl (Or.inl rfl) (zZ zo (pv 3) (ZG (zA (zY (yf K) rfl B.isinstance boot_isinstance (zA (pv 6) (zA (zr (v:= .ref x9) rfl T.m9 rfl) zB))) (zA (zY (yf K) rfl B.isinstance boot_isinstance (zA (pv 6) (zA (zr (v:= .ref x8) rfl T.m8 rfl) zB))) zB))))) (@zE _ _ _ _ _ (za (i:=4) Yy.nd rfl (Or.inl rfl) (zY (zHI K) rfl B.isinstance boot_isinstance (zA (pv 6) (zA (yc (zA (zr (v:= .ref x5) rfl T.m5 rfl) (zA (zr (v:= .ref x6) rfl T.m6 rfl) (zA (zr (v:= .ref x0) rfl T.m0 rfl) (zA (zr (v:= .ref x4) rfl T.m4 rfl) zB))))) zB)))) (@zE _ _ _ _ _ (za (i:=2) Yy.nd rfl (Or.inl rfl) (ZG (zA yW (zA zV zB)))) (@zG _ _ _ (zy (PW.pt (zAC (Zf (zY (yf K) rfl B.isinstance boot_isinstance (zA (pv 6) (zA (jC (v:= .ty "ValueError") rfl T.mV zCe rfl) zB)))) (zAC (Zn (Zf (pv 4))) (zBR (zh ye (zFJ K QK PySem.F.slot_list_count PySem.F.type_list_count zJQ (pv 3) (zA yW zB)) zK (zk _)))))) (@zE _ _ _ _ _ (za (i:=5) Yy.nd rfl (Or.inl rfl) (ZG (zA zV (zA zV (zA zV (zA zV (zA zV (zA zV (zA zV (zA zV zB)))))))))) (@zG _ _ _ (za (i:=2) Yy.nd rfl (Or.inl rfl) (ZG (zA yW (zA (zu (zBr K) (pv 5) (zFJ K QK PySem.F.slot_list_index PySem.F.type_list_index zJH (pv 3) (zA yW zB)) (λ_ _=>rfl)) zB)))))) zf)))))))) rfl rfl rfl Yy.nd rfl mXS rfl rfl) (@zG _ _ _ (zR (pv 2))))),?_⟩;refine ⟨Z9,λl hl=>?_⟩;have g1:=zC.new hl (.lst [.bl false, .non]);generalize upd H l (.lst [.bl false, .non])=H1 at g1 ⊢;dsimp only [Zi];generalize hX:(zCB x0 x1 x2 x3 x4 x5 x6 x7 x8 x9 x10 x11).getD n x0=XD at en;refine zOv (λC H'=>C= .ref XD/\zC H1 H') ?_ ?_
 ·rintro C H2 ⟨rfl,g2⟩
  refine ⟨en.e,λea hea=>?_⟩;have g3:=zC.new hea (.ext (Y1 ea (.ref XD)));have he:upd H2 ea (.ext (Y1 ea (.ref XD))) ea=some (.ext (Y1 ea (.ref XD))):=zD;generalize upd H2 ea (.ext (Y1 ea (.ref XD)))=H3 at g3 he ⊢;have kk:∀(i:Nat) (x:Addr),(zCB x0 x1 x2 x3 x4 x5 x6 x7 x8 x9 x10 x11)[i]?=some x->W.kitOne K (.ref XD) (.ref x)=some (decide ((i:Int)=n)):=λi x hx=>by
   have hk:=congrArg (λl:List (Option Bool)=>l[i]?) en.k;simp only [qR,hx,XF] at hk;have hi:i<12:=(qZ.mp hx).1;rw [List.getElem?_range hi] at hk;exact Option.some.inj hk
  have no:∀(i:Nat) (x:Addr),(zCB x0 x1 x2 x3 x4 x5 x6 x7 x8 x9 x10 x11)[i]?=some x->i∉yO->W.kitOne K (.ref XD) (.ref x)=some false:=λi x hx h=>by
   rw [kk i x hx];exact congrArg some (decide_eq_false λz=>h (by rw [show i=n by omega]; exact nin))
  refine ⟨_,rfl,ea,XD,_,_,_,rfl,he,en.c,λ_ z=>z,kk 2 _ rfl,_,rfl,ea,XD,_,_,_,rfl,he,en.c,λ_ z=>z,kk 10 _ rfl,_,rfl,ea,XD,_,_,_,rfl,he,en.c,λ_ z=>z,kk 1 _ rfl,_,rfl,ea,XD,_,_,_,rfl,he,en.c,λ_ z=>z,kk 3 _ rfl,(by show 4≤sizeLine; decide),λk0 hk0=>?_⟩;have g4:=zC.new hk0 (.lst ([2,10,1,3].map λi:Nat=>V.bl (decide ((i:Int)=n))));have e4:upd H3 k0 (.lst ([2,10,1,3].map λi:Nat=>V.bl (decide ((i:Int)=n)))) k0=some (.lst ([2,10,1,3].map λi:Nat=>V.bl (decide ((i:Int)=n)))):=zD;show jK _ _ _ _ (upd H3 k0 (.lst ([2,10,1,3].map λi:Nat=>V.bl (decide ((i:Int)=n)))));generalize upd H3 k0 (.lst ([2,10,1,3].map λi:Nat=>V.bl (decide ((i:Int)=n))))=H4 at g4 e4 ⊢;have he4:=g4 _ _ he;refine ⟨_,rfl,_,rfl,ea,XD,_,_,_,rfl,he4,en.c,λ_ z=>z,kk 11 _ rfl,_,rfl,ea,XD,_,_,_,rfl,he4,en.c,λ_ z=>z,kk 7 _ rfl,Z9,λk1 hk1=>?_⟩;refine ⟨k0,k1,_,_,rfl,rfl,zC.new hk1 _ _ _ e4,zD,(by show 6≤sizeLine; decide),λk2 hk2=>?_⟩;have g5:zC H4 (upd (upd H4 k1 (.lst ([11,7].map λi:Nat=>V.bl (decide ((i:Int)=n))))) k2 (.lst ([2,10,1,3,11,7].map λi:Nat=>V.bl (decide ((i:Int)=n))))):=(zC.new hk1 _).trans (zC.new hk2 _);have e5:upd (upd H4 k1 (.lst ([11,7].map λi:Nat=>V.bl (decide ((i:Int)=n))))) k2 (.lst ([2,10,1,3,11,7].map λi:Nat=>V.bl (decide ((i:Int)=n)))) k2=some (.lst ([2,10,1,3,11,7].map λi:Nat=>V.bl (decide ((i:Int)=n)))):=zD;show jK _ _ _ _ (upd (upd H4 k1 (.lst ([11,7].map λi:Nat=>V.bl (decide ((i:Int)=n))))) k2 (.lst ([2,10,1,3,11,7].map λi:Nat=>V.bl (decide ((i:Int)=n)))));generalize upd (upd H4 k1 (.lst ([11,7].map λi:Nat=>V.bl (decide ((i:Int)=n))))) k2 (.lst ([2,10,1,3,11,7].map λi:Nat=>V.bl (decide ((i:Int)=n))))=H5 at g5 e5 ⊢;have he5:=g5 _ _ he4;refine ⟨_,rfl,_,rfl,ea,XD,_,_,_,rfl,he5,en.c,λ_ z=>z,kk 9 _ rfl,_,rfl,ea,XD,_,_,_,rfl,he5,en.c,λ_ z=>z,kk 8 _ rfl,Z9,λk3 hk3=>?_⟩;refine ⟨k2,k3,_,_,rfl,rfl,zC.new hk3 _ _ _ e5,zD,(by show 8≤sizeLine; decide),λk4 hk4=>?_⟩;have g6:zC H5 (upd (upd H5 k3 (.lst ([9,8].map λi:Nat=>V.bl (decide ((i:Int)=n))))) k4 (.lst (yO.map λi:Nat=>V.bl (decide ((i:Int)=n))))):=(zC.new hk3 _).trans (zC.new hk4 _);have e6:upd (upd H5 k3 (.lst ([9,8].map λi:Nat=>V.bl (decide ((i:Int)=n))))) k4 (.lst (yO.map λi:Nat=>V.bl (decide ((i:Int)=n)))) k4=some (.lst (yO.map λi:Nat=>V.bl (decide ((i:Int)=n)))):=zD;show jK _ _ _ _ (upd (upd H5 k3 (.lst ([9,8].map λi:Nat=>V.bl (decide ((i:Int)=n))))) k4 (.lst (yO.map λi:Nat=>V.bl (decide ((i:Int)=n)))));generalize upd (upd H5 k3 (.lst ([9,8].map λi:Nat=>V.bl (decide ((i:Int)=n))))) k4 (.lst (yO.map λi:Nat=>V.bl (decide ((i:Int)=n))))=H6 at g6 e6 ⊢;have he6:=g6 _ _ he5;refine ⟨_,rfl,(by show 4≤sizeLine; decide),λt1 ht1=>?_⟩;have g7:=zC.new ht1 (.tup [.ref x5, .ref x6, .ref x0, .ref x4]);have et1:upd H6 t1 (.tup [.ref x5, .ref x6, .ref x0, .ref x4]) t1=some (.tup [.ref x5, .ref x6, .ref x0, .ref x4]):=zD;refine ⟨ea,XD,t1,_,_,false,rfl,g7 _ _ he6,en.c,et1,λus hv=>zDx (xs:=[x5,x6,x0,x4]) hv,?_,?_⟩
  ·simp only [qQ,List.map_nil,W.kitAny,no 5 _ rfl (by decide),no 6 _ rfl (by decide),no 0 _ rfl (by decide),no 4 _ rfl (by decide)]
  have he7:=g7 _ _ he6;have e7:=g7 _ _ e6
  clear et1
  generalize upd H6 t1 (.tup [.ref x5, .ref x6, .ref x0, .ref x4])=H7 at g7 e7 he7 ⊢;refine ⟨Z9,λf1 hf1=>?_⟩;have g8:=zC.new hf1 (.lst [.bl true, .str "other"]);generalize upd H7 f1 (.lst [.bl true, .str "other"])=H8 at g8 ⊢;have e8:=g8 _ _ e7;have he8:=g8 _ _ he7;have e8':H8 k4=some (.lst ((yO.map λi:Nat=>decide ((i:Int)=n)).map V.bl)):=by rw [qU]; exact e8
  have yE:((yO.map λi:Nat=>decide ((i:Int)=n)).countP id)=1:=by
   have:∀n∈yO,((yO.map λi:Nat=>decide ((i:Int)=(n:Int))).countP id)=1:=by decide
   exact this n nin
  refine ⟨_,rfl,ea,XD,_,_,_,rfl,he8,en.c,λ_ z=>z,en.v,_,rfl,yA ?_⟩;refine ⟨_,rfl,_,rfl,yA ?_⟩;refine ⟨_,rfl, .inl ⟨rfl,_,zQ.of e8⟩,k4,_,rfl,rfl,e8',rfl,_,rfl,?_⟩;rw [yE];refine yA ?_;refine ⟨(by show 8≤sizeLine; decide),λtl htl=>?_⟩;have g9:=zC.new htl (.lst (zBt.map V.str));have e9:upd H8 tl (.lst (zBt.map V.str)) tl=some (.lst (zBt.map V.str)):=zD;show jK _ _ _ _ (upd H8 tl (.lst (zBt.map V.str)));generalize upd H8 tl (.lst (zBt.map V.str))=H9 at g9 e9 ⊢;have ix:∀n∈yO,(yO.map λi:Nat=>decide ((i:Int)=(n:Int)))[yO.idxOf n]?=some true/\(∀m<yO.idxOf n,(yO.map λi:Nat=>decide ((i:Int)=(n:Int)))[m]?=some false)/\zBt[yO.idxOf n]?=some (yz n):=by decide +kernel
  obtain ⟨i1,i2,i3⟩:=ix n nin;refine ⟨_,rfl,_,rfl, .inl ⟨rfl,_,zQ.of (g9 _ _ e8)⟩,k4,_,yO.idxOf n,rfl,rfl,g9 _ _ e8',i1,i2,(by rw [qA]; decide),tl,_,_,_,rfl,rfl,zQ.of e9,Z2 (by rw [qR,i3]; rfl),Z9,λfl hfl=>?_⟩;have g10:=zC.new hfl (.lst [.bl true, .str (yz n)]);exact ⟨_,rfl,q fl _ (g1.trans (g2.trans (g3.trans (g4.trans (g5.trans (g6.trans (g7.trans (g8.trans (g9.trans g10))))))))) zD⟩
 ·intro E' hE
  refine ⟨_,rfl,d,dx,_,rfl,(dk.same g1).d,rfl,_,rfl,d,dx,D,es,v,rfl,dk.same g1,?_⟩;rcases rv with ⟨nt,rfl⟩ | ⟨z,rfl,hz,e,ne⟩
  ·exact .inl ⟨nt.same g1,hE _ _ ⟨congrArg Value.ref hX,zC.rfl'⟩⟩
  ·refine .inr ⟨z,rfl,hz, .inl ⟨by rw [e]; exact ne,λH' g'=>hE _ _ ⟨?_,g'⟩⟩⟩
   rw [e];exact congrArg Value.ref hX
end
abbrev zHw:Stmt:=top 111
theorem zg {t u:TS} {D:Ym} {σ:L2.St} {H:Hp} (R:L2.St->Hp->Prop) (ht:∀N:L2.St->Hp->Prop,(∀σ' H',R σ' H'->N σ' H')->t {D with nx:=N} σ H) (hu:∀σ' H',R σ' H'->u D σ' H'):jK t u D σ H:=ht _ hu
structure QE (X:Cx) (e:Expr) (t:TE):Prop where
 h:PE X e t
structure QA (X:Cx) (es:List Expr) (t:TA):Prop where
 h:PA X es t
structure QS (X:Cx) (st:Stmt) (t:TS):Prop where
 h:PS X st t
structure QSs (X:Cx) (st:List Stmt) (t:TS):Prop where
 h:Yl X st t
section
variable {X:Cx} {e tg:Expr} {es:List Expr} {te:TE} {t:TA} {pos:Pos} {st:Stmt} {rest:List Stmt} {u v:TS}
theorem zS:QA X [] Jp:=⟨zB⟩
theorem zd (ha:QE X e te) (hr:QA X es t) (hs:starEach (e::es) X.env=(false,eval e X.env)::starEach es X.env:=by rfl):QA X (e::es) (yU te t):=⟨zA ha.h hr.h hs⟩
theorem zv (h:QA X es t):QE X (.List es pos) (zCD t):=⟨ZG h.h⟩
theorem zx {x1} (h:QA X es t):QE X (.Tuple es x1 pos) (zHV t):=⟨yc h.h⟩
theorem zz {a b:Expr} {op:Operator} {ta tb:TE} {r:R2} (hr:yN X (binaryOp op) r) (ha:QE X a ta) (hb:QE X b tb):QE X (.BinOp a op b pos) (tOp r ta tb):=⟨zZ hr ha.h hb.h⟩
theorem zw {i:Nat} {x:Str} {pos':Pos} (hN:X.N.Nodup) (hi:X.N[i]?=some x) (hx:Loc X.env.scope x) (he:QE X e te) (hs:swapsWith e (some (.Name x pos')) pos.line X.env=pure false:=by rfl) (hf:X.fn x=true\/X.env.scope.names.lookup x=some .local:=by first | exact .inl rfl | exact .inr rfl | assumption):
  QS X (.Assign [.Name x pos'] e pos) (zBg te (Zi i)):=⟨za hN hi hx he.h hs hf⟩
theorem zX (h1:QS X st u) (h2:QSs X rest v):QSs X (st::rest) (jK u v):=⟨zE h1.h h2.h⟩
theorem zBU (h1:QS X st u):QSs X [st] u:=⟨zG h1.h⟩
end
theorem zM {X:Cx} {es:List Expr} {t:TA} {z:Str} {j pos} (hr:QA X es t) (hs:starEach (.Constant (.str z) j pos::es) X.env=(false,eval (.Constant (.str z) j pos) X.env)::starEach es X.env:=by rfl):QA X (.Constant (.str z) j pos::es) (yU (tC (.str z)) t):=zd (QE.mk zV) hr hs
abbrev yK:List zAM:=[("a",[1,2,3],[3,5]),("abcdefgh",[1,2,3,4,5,6,7,8,9,10],[2,4,6,8,10,12,14,16,18,20]),("b",[7],[])]
def gdB (z d:Str):Bool:=decide (z.length≤570)&&(decide (jU yK (Zb z)≠0)&&decide (d=yz (jU yK (Zb z))))
def Yq (K:W.Frag) (H:Hp) (v:V):Prop:=∃(a:Addr) (u:V) (n:Nat),v= .ref a/\H a=some (.tup [u, .str (yz n)])/\zIH K H yK u n
theorem Yq.same {K:W.Frag} {H H':Hp} {v:V} (h:Yq K H v) (g:zC H H'):Yq K H' v:=by
 obtain ⟨a,u,n,e,ha,r⟩:=h;refine ⟨a,u,n,e,g _ _ ha,?_⟩;rcases r with ⟨nt,h⟩ | h
 ·exact .inl ⟨nt.same g,h⟩
 ·exact .inr h
theorem zOs {K:W.Frag} {H:Hp} {z d:Str} (h:gdB z d=true):zIH K H yK (.str z) (jU yK (Zb z))/\d=yz (jU yK (Zb z)):=by
 unfold gdB at h;rw [qM,qM,decide_eq_true_eq,decide_eq_true_eq,decide_eq_true_eq] at h;exact ⟨.inr ⟨z,rfl,h.1,rfl,h.2.1⟩,h.2.2⟩
theorem zBG {K:W.Frag} {H:Hp} {t:Addr} {z d:Str} (h:gdB z d=true):Yq K (upd H t (.tup [.str z, .str d])) (.ref t):=by
 obtain ⟨r,e⟩:=zOs (K:=K) (H:=upd H t (.tup [.str z, .str d])) h;exact ⟨t, .str z,_,rfl,by rw [zD,<-e],r⟩
def nn0:List Str:=[""," ","plan","plan a","plan A 1:","plan a1 1:"]
def nn1:List Str:=nn0++(["plan abcdefghi 1:","plan  1:"," plan a 1:","Plan a 1:","plans a 1:"]:List Str)
def nn2:List Str:=nn1++(["kind","kind a","kind a squares","kind a squares 01"]:List Str)
def nn3:List Str:=nn2++(["kind a squares x","kind a Squares 3","kind a s2 3","kind  squares 3"]:List Str)
def nn4:List Str:=nn3++(["kind A squares 3","kind a squares 3 4","kind a squares -3"]:List Str)
def nn5:List Str:=nn4++(["kind a squares 3 ","kind a  3","kind a squares 1000000000"]:List Str)
def nn6:List Str:=nn5++(["come","come a","come a x","come a 01","come a -1"]:List Str)
def nn7:List Str:=nn6++(["come a +1","come a 1 2","come a 1 ","come A 1","come  1"]:List Str)
def nn8:List Str:=nn7++(["come a 1000000000","come a 1_0","come a 1\n","come a \t1","go"]:List Str)
def nn9:List Str:=nn8++(["go a","go a 00","go a 1.0","go A 1","go a 1 1"]:List Str)
def zOg:List Str:=nn9++(["sum","sum a","sum a 01","sum A 3","sum a 3 5","unsum a"]:List Str)
def zPk:List Str:=zOg++(["unsum A 3","unsum a 03","unsum","drop","drop a b","drop A"]:List Str)
def zOZ:List Str:=zPk++(["drop a ","rows","rows a b","rows A","rows a ","rings a 1","rings"]:List Str)
def zPS:List Str:=zOZ++(["rings A","row","row a 1","row A","row a ","ring"]:List Str)
def zQN:List Str:=zPS++(["ring A","ring a b","longest","longest a 1","longest A","cut"]:List Str)
def zOR:List Str:=zQN++(["cut a 1","cut A","nth","nth a","nth a x","nth a 01"]:List Str)
def zOz:List Str:=zOR++(["nth A 0","nth a 0 1","nth a -1","show","show a b","show A","show a "]:List Str)
def zPo:List Str:=zOz++(["names","all","-"," rows a","ROWS a","row\ta"]:List Str)
def zOy:List Str:=zPo++(["come zz 01","plan A x","kind zz S 3","nth zz x","sum zz"]:List Str)
def zQP:List Str:=zOy++(["rows zz ","come abcdefghi 1","go abcdefghi 1","show abcdefghi"]:List Str)
def zPU:List Str:=zQP++(["kind abcdefghi squares 3","nth abcdefghi 0","drop abcdefghi"]:List Str)
def zSO:List Str:=zPU++(["cut abcdefghi","unsum abcdefghi 3","row abcdefghi"]:List Str)
abbrev zHo:List Str:=zSO
theorem zMx:∀z∈zHo,gdB z "saying"=true:=by decide +kernel
theorem zFg:zHo.length=110:=by decide +kernel
def zIQ:Sp:=λvs H Q _=>vs=[]/\∀(l:Addr) (H':Hp),zC H H'->H l=none->H' l=some (.lst (zHo.map V.str))->Q (.ref l) H'
def zCa (K:W.Frag):Sp:=λvs H Q _=>vs=[]/\∀(l:Addr) (xs:List V) (H':Hp),zC H H'->H l=none->H' l=some (.lst xs)->xs.length≤200->(∀v∈xs,Yq K H' v)->Q (.ref l) H'
theorem zDE {σ:L2.St} {H H1:Hp} {l:Addr} {xs ys zs:List Str} {i:Nat} {ta:TA} {N:V->Hp->Prop} (g:zC H H1) (hl:H1 l=some (.lst (xs.map V.str))) (hz:xs.length+ys.length≤sizeLine) (hy:(ys.map V.str).length≤sizeLine) (ez:zs=xs++ys)
  (hN:∀(k:Addr) (H':Hp),zC H H'->H k=none->H' k=some (.lst (zs.map V.str))->N (.ref k) H') (hs:σ[i]?=some (some (.ref l)):=by rfl) (ha:∀R,R (ys.map V.str) H1->ta σ H1 R:=by exact λ_ h=>h):tOp zFq (zCE i) (zCD ta) σ H1 N:=by
 refine ⟨_,hs,ha _ ⟨hy,λk1 hk1=>?_⟩⟩;refine ⟨l,k1,_,_,rfl,rfl,zC.new hk1 _ _ _ hl,zD,by rw [qA,qA]; exact hz,λk2 hk2=>?_⟩;have g2:=g.trans ((zC.new hk1 (.lst (ys.map V.str))).trans (zC.new hk2 (.lst (xs.map V.str++ys.map V.str))));refine hN k2 _ g2 ?_ (by rw [zD,ez,qS]);cases e:H k2 with
 | none=>rfl
 | some o=>rw [zC.new hk1 _ _ _ (g _ _ e)] at hk2; cases hk2
abbrev SN (ρ:L2.St) (H:Hp) (n:List Str) (σ':L2.St) (H':Hp):Prop:=∃l,σ'=some (.ref l)::ρ/\zC H H'/\H l=none/\H' l=some (.lst (n.map V.str))
theorem yo {u:TS} {D:Ym} {σ ρ:L2.St} {H H1:Hp} {xs ys:List Str} {ta:TA} (zs:List Str) (h:SN ρ H xs σ H1) (ez:zs=xs++ys) (hz:xs.length+ys.length≤sizeLine) (hu:∀σ' H',SN ρ H zs σ' H'->u D σ' H') (ha:∀σ R H,R (ys.map V.str) H->ta σ H R:=by exact λ_ _ _ h=>h):jK (zBg (tOp zFq (zCE 0) (zCD ta)) (Zi 0)) u D σ H1:=by
 obtain ⟨l,rfl,g,nl,hl⟩:=h;refine zg (SN ρ H zs) (λN hN=>?_) hu;exact zDE (ys:=ys) g hl hz (by rw [qA]; omega) ez (λk2 H2 g2 n2 h2=>hN _ _ ⟨k2,rfl,g2,n2,h2⟩) rfl (λR h=>ha _ R _ h)
section
variable {f:Addr} {fd:FuncData}
theorem Zs:zP ["some"] [] (zF zHw):=ZA
set_option maxHeartbeats 0 in
theorem zNx (F:zm K "_law_none" "_law_none" zHw f fd):zH P w K mg base zT 1 f fd [] zIQ:=by
 refine F.ok Zs (λvs H Q E h=>?_) (λcdv A outer s H vs Q E hr h=>?_)
 ·obtain ⟨rfl,_⟩:=h
  rfl
 obtain ⟨rfl,q⟩:=h;refine ⟨_,(QSs.h (zX (zw (i:=0) Zs.nd rfl (Or.inl rfl) (zv (zM (zM (zM (zM (zM (zM zS)))))))) (zX (zw (i:=0) Zs.nd rfl (Or.inl rfl) (zz zo (QE.mk (pv 0)) (zv (zM (zM (zM (zM (zM zS)))))))) (zX (zw (i:=0) Zs.nd rfl (Or.inl rfl) (zz zo (QE.mk (pv 0)) (zv (zM (zM (zM (zM zS))))))) (zX (zw (i:=0) Zs.nd rfl (Or.inl rfl) (zz zo (QE.mk (pv 0)) (zv (zM (zM (zM (zM zS))))))) (zX (zw (i:=0) Zs.nd rfl (Or.inl rfl) (zz zo (QE.mk (pv 0)) (zv (zM (zM (zM zS)))))) (zX (zw (i:=0) Zs.nd rfl (Or.inl rfl) (zz zo (QE.mk (pv 0)) (zv (zM (zM (zM zS)))))) (zX (zw (i:=0) Zs.nd rfl (Or.inl rfl) (zz zo (QE.mk (pv 0)) (zv (zM (zM (zM (zM (zM zS)))))))) (zX (zw (i:=0) Zs.nd rfl (Or.inl rfl) (zz zo (QE.mk (pv 0)) (zv (zM (zM (zM (zM (zM zS)))))))) (zX (zw (i:=0) Zs.nd rfl (Or.inl rfl) (zz zo (QE.mk (pv 0)) (zv (zM (zM (zM (zM (zM zS)))))))) (zX (zw (i:=0) Zs.nd rfl (Or.inl rfl) (zz zo (QE.mk (pv 0)) (zv (zM (zM (zM (zM (zM zS)))))))) (zX (zw (i:=0) Zs.nd rfl (Or.inl rfl) (zz zo (QE.mk (pv 0)) (zv (zM (zM (zM (zM (zM (zM zS))))))))) (zX (zw (i:=0) Zs.nd rfl (Or.inl rfl) (zz zo (QE.mk (pv 0)) (zv (zM (zM (zM (zM (zM (zM zS))))))))) (zX (zw (i:=0) Zs.nd rfl (Or.inl rfl) (zz zo (QE.mk (pv 0)) (zv (zM (zM (zM (zM (zM (zM (zM zS)))))))))) (zX (zw (i:=0) Zs.nd rfl (Or.inl rfl) (zz zo (QE.mk (pv 0)) (zv (zM (zM (zM (zM (zM (zM zS))))))))) (zX (zw (i:=0) Zs.nd rfl (Or.inl rfl) (zz zo (QE.mk (pv 0)) (zv (zM (zM (zM (zM (zM (zM zS))))))))) (zX (zw (i:=0) Zs.nd rfl (Or.inl rfl) (zz zo (QE.mk (pv 0)) (zv (zM (zM (zM (zM (zM (zM zS))))))))) (zX (zw (i:=0) Zs.nd rfl (Or.inl rfl) (zz zo (QE.mk (pv 0)) (zv (zM (zM (zM (zM (zM (zM (zM zS)))))))))) (zX (zw (i:=0) Zs.nd rfl (Or.inl rfl) (zz zo (QE.mk (pv 0)) (zv (zM (zM (zM (zM (zM (zM zS))))))))) (zX (zw (i:=0) Zs.nd rfl (Or.inl rfl) (zz zo (QE.mk (pv 0)) (zv (zM (zM (zM (zM (zM zS)))))))) (zX (zw (i:=0) Zs.nd rfl (Or.inl rfl) (zz zo (QE.mk (pv 0)) (zv (zM (zM (zM (zM zS))))))) (zX (zw (i:=0) Zs.nd rfl (Or.inl rfl) (zz zo (QE.mk (pv 0)) (zv (zM (zM (zM zS)))))) (zBU (QS.mk (zR (zZ zo (pv 0) (ZG (QA.h (zM (zM (zM zS))))))))))))))))))))))))))))))),?_⟩;refine zg (SN [] H nn0) (λN hN=>?_) ?_
 ·exact ⟨(by show 6≤sizeLine; decide),λk hk=>hN _ _ ⟨k,rfl,zC.new hk _,hk,zD⟩⟩
 intro σ1 H1 h;refine yo nn1 h rfl (by decide) λσ1 H1 h=>?_
 refine yo nn2 h rfl (by decide) λσ1 H1 h=>?_
 refine yo nn3 h rfl (by decide) λσ1 H1 h=>?_
 refine yo nn4 h rfl (by decide) λσ1 H1 h=>?_
 refine yo nn5 h rfl (by decide) λσ1 H1 h=>?_
 refine yo nn6 h rfl (by decide) λσ1 H1 h=>?_
 refine yo nn7 h rfl (by decide) λσ1 H1 h=>?_
 refine yo nn8 h rfl (by decide) λσ1 H1 h=>?_
 refine yo nn9 h rfl (by decide) λσ1 H1 h=>?_
 refine yo zOg h rfl (by decide) λσ1 H1 h=>?_
 refine yo zPk h rfl (by decide) λσ1 H1 h=>?_
 refine yo zOZ h rfl (by decide) λσ1 H1 h=>?_
 refine yo zPS h rfl (by decide) λσ1 H1 h=>?_
 refine yo zQN h rfl (by decide) λσ1 H1 h=>?_
 refine yo zOR h rfl (by decide) λσ1 H1 h=>?_
 refine yo zOz h rfl (by decide) λσ1 H1 h=>?_
 refine yo zPo h rfl (by decide) λσ1 H1 h=>?_
 refine yo zOy h rfl (by decide) λσ1 H1 h=>?_
 refine yo zQP h rfl (by decide) λσ1 H1 h=>?_
 refine yo zPU h rfl (by decide) λσ1 H1 h=>?_
 obtain ⟨l,rfl,g,nl,hl⟩:=h;exact zDE g hl (by decide) (by show 3≤sizeLine; decide) rfl q
end
abbrev zLE:Stmt:=top 112
abbrev zEx:Stmt:=top 114
abbrev zQo:R2:=λx y H Q=>∃i j,x= .str i/\y= .str j/\i.length+j.length≤sizeLine/\Q (.str (i++j)) H
theorem zFD {K:W.Frag} {H:Hp} {l:Addr} {xs ys:List V} {v:V} {t:Value} (hl:H l=some (.lst xs)) (ty:YS K H v t):YS K (upd H l (.lst ys)) v t:=by
 have ne:∀{a:Addr} {o:HO},H a=some o->(∀zs,o≠ .lst zs)->upd H l (.lst ys) a=some o:=λ{a o} h n=>by
  rw [zI (λz=>by rw [z,hl] at h; exact n _ (Option.some.inj h).symm)];exact h
 cases ty with
 | non=>exact .non
 | bl b=>exact .bl b
 | int i=>exact .int i
 | str x=>exact .str x
 | flt x=>exact .flt x
 | @lst a zs e=>
  by_cases c:a=l
  ·rw [c]
   exact .lst zD
  ·exact .lst (xs:=zs) (by rw [zI c]; exact e)
 | frz e=>exact .frz (ne e (λ_ z=>nomatch z))
 | tup e=>exact .tup (ne e (λ_ z=>nomatch z))
 | dK e=>exact .dK (ne e (λ_ z=>nomatch z))
 | dT e=>exact .dT (ne e (λ_ z=>nomatch z))
 | ins e cl ha hn htk hm=>exact .ins (ne e (λ_ z=>nomatch z)) cl ha hn htk hm
theorem Yq.upd {K:W.Frag} {H:Hp} {l:Addr} {xs ys:List V} {v:V} (h:Yq K H v) (hl:H l=some (.lst xs)):Yq K (L2.upd H l (.lst ys)) v:=by
 obtain ⟨a,u,n,e,ha,r⟩:=h;refine ⟨a,u,n,e,by rw [zI (Zc ha hl (λz=>nomatch z))]; exact ha,?_⟩;rcases r with ⟨⟨t,ty,k⟩,h⟩ | h
 ·exact .inl ⟨⟨t,zFD hl ty,k⟩,h⟩
 ·exact .inr h
theorem Zg {n:Nat} (h:n≤1000):n≤sizeLine:=xK (ZW h)
def MkT:List (Str×Str)->TA
 | []=>Jp
 | x::r=>yU (zHV (yU (tC (.str x.1)) (yU (tC (.str x.2)) Jp))) (MkT r)
theorem zEj {K:W.Frag} {σ:L2.St}:∀{ds:List (Str×Str)} {H:Hp} {R:List V->Hp->Prop},(∀x∈ds,gdB x.1 x.2=true)->(∀vs H',zC H H'->vs.length=ds.length->(∀v∈vs,Yq K H' v)->R vs H')->MkT ds σ H R
 | [],H,R,_,h=>h [] H zC.rfl' rfl (λ_ z=>nomatch z)
 | x::r,H,R,hd,h=>by
  refine ⟨Z9,λt ht=>?_⟩;have i1:=zBG (K:=K) (H:=H) (t:=t) (hd x qD);have s1:=zC.new ht (.tup [.str x.1, .str x.2]);refine zEj (K:=K) (λy hy=>hd y (qF _ hy)) λvs H' g l hv=>h _ H' (s1.trans g) (by rw [qL,l,qL]) λv hv'=>?_
  rcases qG.mp hv' with rfl | hv'
  ·exact i1.same g
  ·exact hv v hv'
theorem zOq {K:W.Frag} {σ:L2.St} {H H1:Hp} {l:Addr} {xs:List V} {i:Nat} {ta:TA} {N:V->Hp->Prop} (ds:List (Str×Str)) (hd:∀x∈ds,gdB x.1 x.2=true) (g:zC H H1) (hl:H1 l=some (.lst xs)) (hx:∀v∈xs,Yq K H1 v) (hz:xs.length+ds.length≤1000)
  (hN:∀(k:Addr) (ys:List V) (H':Hp),zC H H'->H k=none->H' k=some (.lst ys)->ys.length=xs.length+ds.length->(∀v∈ys,Yq K H' v)->N (.ref k) H') (hs:σ[i]?=some (some (.ref l)):=by rfl) (ha:ta=MkT ds:=by rfl):tOp zFq (zCE i) (zCD ta) σ H1 N:=by
 subst ha;refine ⟨_,hs,zEj (K:=K) hd λvs H2 g2 lv hv=>⟨Zg (by omega),λk1 hk1=>?_⟩⟩;have s1:=zC.new hk1 (.lst vs);refine ⟨l,k1,_,_,rfl,rfl,s1 _ _ (g2 _ _ hl),zD,Zg (by omega),λk2 hk2=>?_⟩;have s2:=zC.new hk2 (.lst (xs++vs));refine hN k2 _ _ (g.trans (g2.trans (s1.trans s2))) ?_ zD (by rw [qI,lv]) λv hv'=>?_
 ·cases e:H k2 with
  | none=>rfl
  | some o=>rw [s1 _ _ (g2 _ _ (g _ _ e))] at hk2; cases hk2
 ·rcases qO.mp hv' with h | h
  ·exact ((hx v h).same g2).same (s1.trans s2)
  ·exact (hv v h).same (s1.trans s2)
abbrev SI (K:W.Frag) (H:Hp) (n:Nat) (σ':L2.St) (H':Hp):Prop:=∃l xs,σ'=[some (.ref l)]/\zC H H'/\H l=none/\H' l=some (.lst xs)/\xs.length=n/\∀v∈xs,Yq K H' v
theorem Y9 {K:W.Frag} {u:TS} {D:Ym} {σ:L2.St} {H H1:Hp} {ta:TA} {n:Nat} (m:Nat) (ds:List (Str×Str)) (h:SI K H n σ H1) (hd:∀x∈ds,gdB x.1 x.2=true) (hu:∀σ' H',SI K H m σ' H'->u D σ' H') (hm:n+ds.length=m:=by rfl) (hz:m≤1000:=by decide) (ha:ta=MkT ds:=by rfl):jK (zBg (tOp zFq (zCE 0) (zCD ta)) (Zi 0)) u D σ H1:=by
 obtain ⟨l,xs,rfl,g,nl,hl,ll,ix⟩:=h;refine zg (SI K H m) (λN hN=>?_) hu;exact zOq (K:=K) ds hd g hl ix (by omega) (λk2 ys H2 g2 n2 h2 l2 i2=>hN _ _ ⟨k2,ys,rfl,g2,n2,h2,by omega,i2⟩) rfl ha
theorem zAr {K:W.Frag} {a:Addr} {ws:List Str} {te:TE} {D:Addr} {Q:Hp->Prop} {σ:L2.St} {H1:Hp} (hS:zQ K H1 a (ws.map V.str)) (hD:H1 D=none) (hn:ws.length≤1000)
  (he:∀(x:Str) (H':Hp) (P:VK),x∈ws->zC H1 H'->(∀(o:Addr) (H2:Hp),zC H' H2->H' o=none->Yq K H2 (.ref o)->P (.ref o) H2)->te (some (.str x)::σ) H' P)
  (hq:∀(xs:List V) (H':Hp),zC H1 H'->H' D=some (.lst xs)->xs.length=ws.length->(∀v∈xs,Yq K H' v)->Q H'):YN (Itl K a) (Zi 0) zBO te D Q (none::σ) (upd H1 D (.lst [])):=by
 refine yi (n:=ws.length) (λi σ' H'=>∃(x:Option V) (us:List V),σ'=x::σ/\zC H1 H'/\H' D=some (.lst us)/\us.length=i/\∀v∈us,Yq K H' v)
  ⟨none,[],rfl,zC.new hD _,zD,rfl,(λ_ h=>nomatch h)⟩ ?_ ?_
 ·rintro i σ' H' hi ⟨x,us,rfl,g,hl,ul,rows⟩
  have ex:(ws.map V.str)[i]?=some (.str ws[i]):=by rw [qR,qB hi]; rfl
  refine ⟨⟨_,_,g.seq hS,ex⟩,λy H7 hy=>?_⟩;obtain ⟨rfl,hy⟩:=hy;have ey:=hy _ (g.seq hS);rw [ex] at ey;cases ey;refine he ws[i] H7 _ (QF hi) g λo H2 g2 no io=>?_
  have hl3:=g2 _ _ hl;refine ⟨_,hl3,ZW (by omega),some (.str ws[i]),us++[.ref o],rfl,λc' o' hc'=>?_,zD,by rw [qI,ul]; rfl,λv hv=>?_⟩
  ·rw [zI (λe=>by rw [e,hD] at hc'; cases hc')]
   exact g2 _ _ (g _ _ hc')
  ·rcases qO.mp hv with h | h
   ·exact ((rows v h).same g2).upd hl3
   ·rw [qH.mp h]
    exact io.upd hl3
 ·rintro σ' H' ⟨x,us,rfl,g,hl,ul,rows⟩
  exact ⟨⟨_,g.seq hS,by rw [qA]; exact qE _⟩,hq us H' g hl ul rows⟩
def tx0:List Str:=["1","1 2 3","01: 3","1: 03","1 2: 3\n","1 2:3","2 1: 3"]
def tx1:List Str:=tx0++(["1 1: 2","1 2: 3 3","1 2: 3 2","1 2: -3","1  2: 3","1 2 : 3"]:List Str)
def tx2:List Str:=tx1++(["1 2 3 4 5 6 7 8 9 10 11: 3","1: 1 2 3 4 5 6 7 8 9 10 11","1_0: 3","1 2;",":"]:List Str)
def tx3:List Str:=tx2++(["1:: 3","1 2: 3:","`","1 2: 3  5"]:List Str)
theorem zMK:∀z∈tx3,gdB (Str.ofString "plan zz "++z) "text"=true/\gdB (Str.ofString "plan a "++z) "text"=true:=by decide +kernel
theorem zEr:tx3.length=22:=by decide +kernel
section
variable {f:Addr} {fd:FuncData}
theorem yx:zP ["some"] [] (zF zLE):=ZA
set_option maxHeartbeats 0 in
theorem zPb (F:zm K "_law_others" "_law_others" zLE f fd):zH P w K mg base zT 1 f fd [] (zCa K):=by
 refine F.ok yx (λvs H Q E h=>?_) (λcdv A outer s H vs Q E hr h=>?_)
 ·obtain ⟨rfl,_⟩:=h
  rfl
 obtain ⟨rfl,q⟩:=h;refine ⟨_,(QSs.h (zX (zw (i:=0) yx.nd rfl (Or.inl rfl) (zv (zd (zx (zM (zM zS))) (zd (zx (zM (zM zS))) (zd (zx (zM (zM zS))) zS))))) (zX (zw (i:=0) yx.nd rfl (Or.inl rfl) (zz zo (QE.mk (pv 0)) (zv (zd (zx (zM (zM zS))) (zd (zx (zM (zM zS))) (zd (zx (zM (zM zS))) zS)))))) (zX (zw (i:=0) yx.nd rfl (Or.inl rfl) (zz zo (QE.mk (pv 0)) (zv (zd (zx (zM (zM zS))) (zd (zx (zM (zM zS))) (zd (zx (zM (zM zS))) zS)))))) (zX (zw (i:=0) yx.nd rfl (Or.inl rfl) (zz zo (QE.mk (pv 0)) (zv (zd (zx (zM (zM zS))) (zd (zx (zM (zM zS))) (zd (zx (zM (zM zS))) zS)))))) (zX (zw (i:=0) yx.nd rfl (Or.inl rfl) (zz zo (QE.mk (pv 0)) (zv (zd (zx (zM (zM zS))) (zd (zx (zM (zM zS))) (zd (zx (zM (zM zS))) zS)))))) (zX (zw (i:=0) yx.nd rfl (Or.inl rfl) (zz zo (QE.mk (pv 0)) (zv (zd (zx (zM (zM zS))) (zd (zx (zM (zM zS))) (zd (zx (zM (zM zS))) zS)))))) (zX (zw (i:=0) yx.nd rfl (Or.inl rfl) (zz zo (QE.mk (pv 0)) (zv (zd (zx (zM (zM zS))) (zd (zx (zM (zM zS))) (zd (zx (zM (zM zS))) zS)))))) (zX (zw (i:=0) yx.nd rfl (Or.inl rfl) (zz zo (QE.mk (pv 0)) (zv (zd (zx (zM (zM zS))) (zd (zx (zM (zM zS))) zS))))) (zX (zw (i:=0) yx.nd rfl (Or.inl rfl) (zz zo (QE.mk (pv 0)) (zv (zd (zx (zM (zM zS))) (zd (zx (zM (zM zS))) zS))))) (zX (zw (i:=0) yx.nd rfl (Or.inl rfl) (zz zo (QE.mk (pv 0)) (zv (zd (zx (zM (zM zS))) (zd (zx (zM (zM zS))) zS))))) (zX (QS.mk (ZI (yB QK QW QX yk (pv 0) (QA.h (zd (zx (zM (zM zS))) zS))))) (zX (zw (i:=0) yx.nd rfl (Or.inl rfl) (zz zo (QE.mk (pv 0)) (zv (zd (zx (zM (zM zS))) (zd (zx (zM (zM zS))) zS))))) (zX (zw (i:=0) yx.nd rfl (Or.inl rfl) (zz zo (QE.mk (pv 0)) (zv (zd (zx (zM (zM zS))) (zd (zx (zM (zM zS))) zS))))) (zX (zw (i:=0) yx.nd rfl (Or.inl rfl) (zz zo (QE.mk (pv 0)) (zv (zd (zx (zM (zM zS))) (zd (zx (zM (zM zS))) (zd (zx (zM (zM zS))) zS)))))) (zX (zw (i:=0) yx.nd rfl (Or.inl rfl) (zz zo (QE.mk (pv 0)) (zv (zd (zx (zM (zM zS))) (zd (zx (zM (zM zS))) (zd (zx (zM (zM zS))) zS)))))) (zX (zw (i:=0) yx.nd rfl (Or.inl rfl) (zz zo (QE.mk (pv 0)) (zv (zd (zx (zM (zM zS))) (zd (zx (zM (zM zS))) (zd (zx (zM (zM zS))) zS)))))) (zX (zw (i:=0) yx.nd rfl (Or.inl rfl) (zz zo (QE.mk (pv 0)) (zv (zd (zx (zM (zM zS))) (zd (zx (zM (zM zS))) (zd (zx (zM (zM zS))) zS)))))) (zBU (QS.mk (zR (zZ zo (pv 0) (ZG (QA.h (zd (zx (zM (zM zS))) (zd (zx (zM (zM zS))) zS)))))))))))))))))))))))))),?_⟩;refine zg (SI K H 3) (λN hN=>?_) ?_
 ·refine zEj (K:=K) (ds:=[("come zz 1","name"),("go zz 1","name"),("sum zz 3","name")]) (by decide +kernel) λvs H2 g2 lv hv=>⟨Zg (n:=vs.length) (by rw [lv]; decide),λk hk=>hN _ _ ⟨k,_,rfl,g2.trans (zC.new hk _),?_,zD,lv,λv h=>(hv v h).same (zC.new hk _)⟩⟩
  cases e:H k with
  | none=>rfl
  | some o=>rw [g2 _ _ e] at hk; cases hk
 intro σ1 H1 h;refine Y9 6 [("unsum zz 3","name"),("drop zz","name"),("rows zz","name")] h (by decide +kernel) λσ1 H1 h=>?_
 refine Y9 9 [("rings zz","name"),("row zz","name"),("ring zz","name")] h (by decide +kernel) λσ1 H1 h=>?_
 refine Y9 12 [("longest zz","name"),("cut zz","name"),("nth zz 99","name")] h (by decide +kernel) λσ1 H1 h=>?_
 refine Y9 15 [("show zz","name"),("plan a ","text"),("plan b x","text")] h (by decide +kernel) λσ1 H1 h=>?_
 refine Y9 18 [("plan zz 1 1:","text"),("plan a 1: ","text"),("plan a  1:","text")] h (by decide +kernel) λσ1 H1 h=>?_
 refine Y9 21 [("kind zz square 3","kind"),("kind a squaresandthrees 3","kind"),("kind b q 3","kind")] h (by decide +kernel) λσ1 H1 h=>?_
 refine Y9 23 [("kind zz abcdefghijklmnopqrstuvwxyz 0","kind"),("kind a sums 0","kind")] h (by decide +kernel) λσ1 H1 h=>?_
 refine Y9 25 [("kind a primes 0","number"),("kind zz powers 11","number")] h (by decide +kernel) λσ1 H1 h=>?_
 refine Y9 27 [("kind a threes 99","number"),("kind zz squares 999999999","number")] h (by decide +kernel) λσ1 H1 h=>?_
 obtain ⟨l,xs,rfl,g,nl,hl,ll,ix⟩:=h;refine zg (SI K H 28) (λN hN=>?_) ?_
 ·refine ⟨_,rfl, .inl ⟨rfl,_,zQ.of hl⟩,Z9,λt ht=>?_⟩
  have i1:=zBG (K:=K) (H:=H1) (t:=t) (z:="kind a powers 100") (d:="number") (by decide +kernel);have s1:=zC.new ht (.tup [.str "kind a powers 100", .str "number"]);have hl2:=s1 _ _ hl;refine ⟨l,xs,_,rfl,rfl,hl2,ZW (by omega),hN _ _ ⟨l,_,rfl,λb o hb=>?_,nl,zD,by rw [qI,ll]; rfl,λv hv=>?_⟩⟩
  ·rw [zI (zJ hb nl)]
   exact s1 _ _ (g _ _ hb)
  ·rcases qO.mp hv with h | h
   ·exact ((ix v h).same s1).upd hl2
   ·rw [qH.mp h]
    exact i1.upd hl2
 intro σ1 H1 h;refine Y9 30 [("come a 2","number"),("go a 9","number")] h (by decide +kernel) λσ1 H1 h=>?_
 refine Y9 32 [("go b 7","number"),("go b 8","number")] h (by decide +kernel) λσ1 H1 h=>?_
 refine Y9 35 [("sum a 3","sum"),("unsum a 4","sum"),("unsum b 0","sum")] h (by decide +kernel) λσ1 H1 h=>?_
 refine Y9 38 [("nth a 2","place"),("nth a 999999999","place"),("go a 999999999","number")] h (by decide +kernel) λσ1 H1 h=>?_
 refine Y9 41 [("unsum a 100000000","sum"),("nth a 99","place"),("nth b 1","place")] h (by decide +kernel) λσ1 H1 h=>?_
 refine Y9 44 [("come abcdefgh 11","many"),("come abcdefgh 1","many"),("sum abcdefgh 99","many")] h (by decide +kernel) λσ1 H1 h=>?_
 obtain ⟨l,xs,rfl,g,nl,hl,ll,ix⟩:=h;exact zOq (K:=K) [("sum abcdefgh 2","many"),("nth abcdefgh 0","place")] (by decide +kernel) g hl ix (by rw [ll]; decide) (λk2 ys H2 g2 n2 h2 l2 i2=>q k2 ys H2 g2 n2 h2 (by rw [l2,ll]; decide) i2)
theorem zBP:zP ["some","found"] [] (zF zEx):=ZA
set_option maxHeartbeats 0 in
theorem zQM (F:zm K "_law_texts" "_law_texts" zEx f fd):zH P w K mg base zT 1 f fd [] (zCa K):=by
 refine F.ok zBP (λvs H Q E h=>?_) (λcdv A outer s H vs Q E hr h=>?_)
 ·obtain ⟨rfl,_⟩:=h
  rfl
 obtain ⟨rfl,q⟩:=h;refine ⟨_,(QSs.h (zX (zw (i:=0) zBP.nd rfl (Or.inl rfl) (zv (zM (zM (zM (zM (zM (zM (zM zS))))))))) (zX (zw (i:=0) zBP.nd rfl (Or.inl rfl) (zz zo (QE.mk (pv 0)) (zv (zM (zM (zM (zM (zM (zM zS))))))))) (zX (zw (i:=0) zBP.nd rfl (Or.inl rfl) (zz zo (QE.mk (pv 0)) (zv (zM (zM (zM (zM (zM zS)))))))) (zX (zw (i:=0) zBP.nd rfl (Or.inl rfl) (zz zo (QE.mk (pv 0)) (zv (zM (zM (zM (zM zS))))))) (zX (QS.mk (J8 ["text"] rfl (ZY (zF zEx) ["some","found"] rfl rfl (by decide +kernel)) (ZM (pv 0)) (λpins C fp s3 H3=>⟨(zp (i:=0) (show (Zo ["text"] ["some","found"]).Nodup by decide +kernel) rfl (Or.inl rfl)),Zp,(yc (QA.h (zd (zz ZX (QE.mk zV) (QE.mk (pv 0))) (zM zS))))⟩) (j:=1) zBP.nd rfl (Or.inl rfl) rfl)) (zBU (QS.mk (zR (zZ zo (pv 1) (Za ["text"] rfl (ZY (zF zEx) ["some","found"] rfl rfl (by decide +kernel)) (ZM (pv 0)) (λpins C fp s3 H3=>⟨(zp (i:=0) (show (Zo ["text"] ["some","found"]).Nodup by decide +kernel) rfl (Or.inl rfl)),Zp,(yc (QA.h (zd (zz ZX (QE.mk zV) (QE.mk (pv 0))) (zM zS))))⟩)))))))))))),?_⟩;refine zg (SN [none] H tx0) (λN hN=>?_) ?_
 ·exact ⟨(by show 7≤sizeLine; decide),λk hk=>hN _ _ ⟨k,rfl,zC.new hk _,hk,zD⟩⟩
 intro σ1 H1 h;refine yo tx1 h rfl (by decide) λσ1 H1 h=>?_
 refine yo tx2 h rfl (by decide) λσ1 H1 h=>?_
 refine yo tx3 h rfl (by decide) λσ1 H1 h=>?_
 obtain ⟨l,rfl,g,nl,hl⟩:=h;have each:∀{σ:L2.St} (p:Str),(∀z∈tx3,gdB (p++z) "text"=true)->∀(x:Str) (H':Hp) (P:VK),x∈tx3->(∀(o:Addr) (H2:Hp),zC H' H2->H' o=none->Yq K H2 (.ref o)->P (.ref o) H2)->zHV (yU (tOp zQo (tC (.str p)) (zCE 0)) (yU (tC (.str "text")) Jp)) (some (.str x)::σ) H' P:=λp hp x H' P hx hP=>by
  have hg:=hp x hx;have hlen:(p++x).length≤570:=by
   unfold gdB at hg;rw [qM,decide_eq_true_eq] at hg;exact hg.1
  rw [Ze] at hlen;exact ⟨_,rfl,_,_,rfl,rfl,Zg (by omega),Z9,λt ht=>hP t _ (zC.new ht _) ht (zBG hg)⟩
 refine ⟨_,rfl,l,rfl,⟨_,zQ.of hl⟩,λD hD=>?_⟩;refine zAr (σ:=[some (.ref l),none]) (zQ.of hl) hD (by rw [zEr]; decide) (λx H' P hx g' hP=>each _ (λz hz=>(zMK z hz).1) x H' P hx hP) λxs H2 g2 h2 l2 i2=>?_
 refine ⟨_,rfl,_,rfl,l,rfl,⟨_,zQ.of (g2 _ _ hl)⟩,λD2 hD2=>?_⟩;refine zAr (σ:=[some (.ref l),some (.ref D)]) (zQ.of (g2 _ _ hl)) hD2 (by rw [zEr]; decide) (λx H' P hx g' hP=>each _ (λz hz=>(zMK z hz).2) x H' P hx hP) λys H3 g3 h3 l3 i3=>?_
 rw [zEr] at l2 l3;refine ⟨D,D2,_,_,rfl,rfl,g3 _ _ h2,h3,Zg (by omega),λk hk=>q k _ _ (g.trans (g2.trans (g3.trans (zC.new hk _)))) ?_ zD (by rw [qI]; omega) λv hv=>?_⟩
 ·cases e:H k with
  | none=>rfl
  | some o=>rw [g3 _ _ (g2 _ _ (g _ _ e))] at hk; cases hk
 ·rcases qO.mp hv with h | h
  ·exact ((i2 v h).same g3).same (zC.new hk _)
  ·exact (i3 v h).same (zC.new hk _)
end
theorem zCK {z:Str} {fs:List Nat} (h:ZS z=some fs):fs.getD 0 9=0/\1≤fs.length:=by
 unfold ZS at h
 split at h
 ·cases h; decide
 split at h
 ·cases h; decide
 split at h
 ·cases h; decide
 split at h
 ·cases h; decide
 split at h
 ·cases h; decide
 ·cases h
theorem zBq {ws:List Str} (h:Jc (ws.getD 1 Str.empty)=false):yY ws=false:=by
 cases e:yY ws with
 | false=>rfl
 | true=>
  obtain ⟨fs,e1,_,hf⟩:=Jg e;obtain ⟨f0,f1⟩:=zCK e1;have:=hf 0 f1;rw [show fs.getD 0 0=0 by
   cases fs with
   | nil=>rfl
   | cons x r=>exact f0] at this
  exact absurd (show Jc (ws.getD 1 Str.empty)=true from this) (by rw [h]; decide)
theorem zCG {ws:List Str} (h:ZS (ws.getD 0 Str.empty)=none):yY ws=false:=by
 unfold yY;rw [h]
abbrev y6:List Str:=["come","go","sum","unsum","nth","kind","drop","rows","rings","row","ring","longest","cut","show","plan"].map Str.ofString
theorem zCY {z:Str} (h:z∉y6):ZS z=none:=by
 have n:∀u∈y6,z≠u:=λu hu e=>h (e▸hu)
 have a:¬z∈Yp:=λy=>by
  have:∀u∈Yp,u∈y6:=by decide +kernel
  exact h (this z y)
 have b:¬z∈Yj:=λy=>by
  have:∀u∈Yj,u∈y6:=by decide +kernel
  exact h (this z y)
 unfold ZS;rw [if_neg a,if_neg b,if_neg (n _ (by decide +kernel)),if_neg (n _ (by decide +kernel)),if_neg (n _ (by decide +kernel))]
theorem zGw:∀u∈y6,ZS (u++u)=none/\32∉(u++u).cps.toList/\(u++u).length≤16:=by decide +kernel
def zLP (ws:List Str):Prop:=∀u∈ws,32∉u.cps.toList
def Bad (ws:List Str):Prop:=zLP ws/\((ws.getD 0 Str.empty≠Str.ofString "plan"/\ws≠[]/\yY ws=false)\/∃nm t,ws=[Str.ofString "plan",nm,t]/\Jc nm=false)
theorem zFw {z y:Str} (h:Txt.startswith z y=true):∃v,z.cps.toList=y.cps.toList++v:=by
 unfold Txt.startswith Builtin.Str.subAt at h;rw [qM,decide_eq_true_eq,Nat.zero_add] at h;have h2:z.cps.extract 0 y.length=y.cps:=eq_of_beq h.2;refine ⟨z.cps.toList.drop y.length,?_⟩;have h3:=congrArg Array.toList h2;rw [Array.toList_extract,List.extract_eq_drop_take,List.drop_zero,Nat.sub_zero] at h3;rw [<-h3,List.take_append_drop]
theorem zJO {z y:Str} {v:List Nat} (h:z.cps.toList=y.cps.toList++v):Txt.startswith z y=true:=by
 unfold Txt.startswith Builtin.Str.subAt;have l:y.length≤z.length:=by
  show y.cps.size≤z.cps.size;rw [<-qJ,<-qJ,h,qI];omega
 rw [qM,decide_eq_true_eq,Nat.zero_add];refine ⟨l,beq_iff_eq.mpr (Array.toList_inj.mp ?_)⟩;rw [Array.toList_extract,List.extract_eq_drop_take,List.drop_zero,Nat.sub_zero,h];exact List.take_left' (qJ ..)
theorem zDw:(Str.ofString "plan ").cps.toList=(Str.ofString "plan").cps.toList++[32]:=by decide +kernel
theorem zDs:32∉(Str.ofString "plan").cps.toList:=by decide +kernel
theorem zEL (x y:Str) (k:Int):Str.join y (Txt.splitMax x y k)=x:=by
 have one:Str.join y [x]=x:=rfl;unfold Txt.splitMax
 split
 ·exact one
 ·split
  ·exact one
  ·obtain ⟨f,hf⟩:=StrLaws.occ_chain x y (limitOf x k)
   rw [StrLaws.partsBetween_eq,StrLaws.join_partsFrom x y _ 0 f hf];refine Zl ?_;rw [Yu,List.drop_zero,QO (by rw [qJ]; exact qE _)]
theorem zGx:∀u∈y6,32∉u.cps.toList:=by decide +kernel
theorem zNk {z:Str} {fs:List Nat} (h:ZS z=some fs):z∈y6:=by
 by_cases c:z∈y6
 ·exact c
 ·rw [zCY c] at h
  cases h
theorem zMm {z:Str} (h:smB z=true):32∉z.cps.toList:=λy=>by
 unfold smB at h;rw [qM] at h;exact absurd (QM.mp h.2 32 y) (by decide +kernel)
theorem zQm {z:Str} (h:Jc z=true):smB z=true:=by
 unfold Jc at h;rw [qM] at h;exact h.1
theorem zNj {ws:List Str} (h:Bad ws):jW (Str.join (zW 32) ws)=false:=by
 obtain ⟨fr,⟨np,ne,sw⟩ | ⟨nm,t,rfl,hn⟩⟩:=h
 ·have ns:¬Txt.startswith (Str.join (zW 32) ws) (Str.ofString "plan ")=true:=λst=>by
   obtain ⟨v,hv⟩:=zFw st;rw [zDw,xS] at hv;obtain ⟨w0,r,rfl⟩:=xO ne;have f0:=fr w0 qD;cases r with
   | nil=>
    rw [show Str.join (zW 32) [w0]=w0 from rfl] at hv;exact f0 (by rw [hv]; exact qW _ qD)
   | cons w1 r=>
    rw [ZZ] at hv;exact np (Zl (jD f0 zDs hv).1)
  unfold jW Zb;rw [if_neg ns,JF fr ne];exact sw
 ·have fn:=fr nm (qF _ qD)
  have zl:(Str.join (zW 32) [Str.ofString "plan",nm,t]).cps.toList=(Str.ofString "plan").cps.toList++32::(nm.cps.toList++32::t.cps.toList):=by
   rw [ZZ,ZZ];rfl
  have st:Txt.startswith (Str.join (zW 32) [Str.ofString "plan",nm,t]) (Str.ofString "plan ")=true:=zJO (v:=nm.cps.toList++32::t.cps.toList) (by rw [zl,zDw,xS]; rfl);unfold jW Zb;rw [if_pos st];cases e:yY (Txt.splitMax (Str.join (zW 32) [Str.ofString "plan",nm,t]) (zW 32) 2) with
  | false=>rfl
  | true=>
   have ej:=zEL (Str.join (zW 32) [Str.ofString "plan",nm,t]) (zW 32) 2;generalize Txt.splitMax (Str.join (zW 32) [Str.ofString "plan",nm,t]) (zW 32) 2=us at e ej;obtain ⟨fs,e1,el,hf⟩:=Jg e;obtain ⟨f0,f1⟩:=zCK e1;obtain ⟨u0,u1,r,rfl⟩:∃u0 u1 r,us=u0::u1::r:=by
    match us,el with
    | u0::u1::r,_=>exact ⟨u0,u1,r,rfl⟩
    | [x],el=>have:1=1+fs.length:=el; omega
    | [],el=>have:0=1+fs.length:=el; omega
   have n1:Jc u1=true:=by
    have:=hf 0 f1;rw [show fs.getD 0 0=0 by
     cases fs with
     | nil=>rfl
     | cons x r=>exact f0] at this
    exact this
   have uf:32∉u0.cps.toList:=zGx u0 (zNk e1);have u1f:=zMm (zQm n1);have ez:=congrArg (λz:Str=>z.cps.toList) ej;rw [ZZ,zl] at ez;obtain ⟨_,e2⟩:=jD uf zDs ez;cases r with
   | nil=>
    rw [show Str.join (zW 32) [u1]=u1 from rfl] at e2;exact absurd (by rw [e2]; exact qW _ qD) u1f
   | cons u2 r=>
    rw [ZZ] at e2;have:=Zl (jD u1f fn e2).1;rw [this,hn] at n1;cases n1
abbrev Jj:List Str:=["come abcdefgh 99","go abcdefgh 1","sum abcdefgh 99","unsum abcdefgh 2","nth abcdefgh 0","kind abcdefgh squares 3","drop abcdefgh","rows abcdefgh","rings abcdefgh","row abcdefgh","ring abcdefgh","longest abcdefgh","cut abcdefgh","show abcdefgh","plan abcdefgh 1:"].map Str.ofString
def Zq (i:Nat):List Str:=Txt.split (Jj.getD i Str.empty) (zW 32)
abbrev zAR:List Str:=["1000000000","-1","","01","00","x","+1","1_","1.0","1\n","\t1","10x"].map Str.ofString
abbrev Jf:List Nat:=(Str.ofString "!\"\\#$&'()*+,-./0123456789:;<=>?@ABCDEFGHIJKLMNOPQRSTUVWXYZ[]^_`{|}~\t\n").cps.toList
theorem zCT:∀i<15,(∀u∈Zq i,32∉u.cps.toList/\u.length≤10)/\2≤(Zq i).length/\(Zq i).length≤4/\(Zq i).getD 0 Str.empty=y6.getD i Str.empty/\(Zq i).getD 1 Str.empty=Str.ofString "abcdefgh"/\((Zq i).getD 0 Str.empty=Str.ofString "plan"->(Zq i).length=3):=by decide +kernel
def S1 (ws:List Str):Prop:=(∀u∈ws,32∉u.cps.toList/\u.length≤30)/\2≤ws.length/\ws.length≤4/\
 ((Jc (ws.getD 1 Str.empty)=false/\(ws.getD 0 Str.empty=Str.ofString "plan"->ws.length=3))\/ZS (ws.getD 0 Str.empty)=none\/∃i j,i<6/\j<12/\ws=(Zq i).dropLast++[zAR.getD j Str.empty])
theorem zEM:∀i<6,∀j<12,(λws:List Str=>ws.getD 0 Str.empty≠Str.ofString "plan"/\yY ws=false/\yY (ws++[Str.ofString "1"])=false/\yY (ws.dropLast++[Str.ofString "",Str.ofString "4"])=false) ((Zq i).dropLast++[zAR.getD j Str.empty]):=by decide +kernel
theorem zDy {z:Str} (h:ZS z=none):z≠Str.ofString "plan":=λe=>by
 rw [e,show ZS (Str.ofString "plan")=some [0,3] from by decide +kernel] at h;cases h
theorem S1.bad {ws:List Str} (h:S1 ws):Bad ws:=by
 obtain ⟨hf,l2,l4,h⟩:=h;have ne:ws≠[]:=λe=>by rw [e] at l2; cases l2
 have fr:zLP ws:=λu hu=>(hf u hu).1
 rcases h with ⟨hn,hp⟩ | hv | ⟨i,j,hi,hj,rfl⟩
 ·by_cases c:ws.getD 0 Str.empty=Str.ofString "plan"
  ·refine ⟨fr, .inr ?_⟩
   have:=hp c
   match ws,this with
   | [a,b,d],_=>exact ⟨b,d,by rw [show a=Str.ofString "plan" from c],hn⟩
  ·exact ⟨fr, .inl ⟨c,ne,zBq hn⟩⟩
 ·exact ⟨fr, .inl ⟨zDy hv,ne,zCG hv⟩⟩
 ·obtain ⟨a,b,_⟩:=zEM i hi j hj
  exact ⟨fr, .inl ⟨a,ne,b⟩⟩
theorem JH {ws vs:List Str} {k:Nat} (h:k<ws.length):(ws++vs).getD k Str.empty=ws.getD k Str.empty:=by
 rw [qC,xT h,qC]
theorem S1.more {ws:List Str} (h:S1 ws) (np:ws.getD 0 Str.empty≠Str.ofString "plan"):Bad (ws++[Str.ofString "1"]):=by
 obtain ⟨hf,l2,l4,h⟩:=h;have fr:zLP (ws++[Str.ofString "1"]):=λu hu=>by
  rcases qO.mp hu with h | h
  ·exact (hf u h).1
  ·rw [qH.mp h]
   decide +kernel
 have e0:=JH (ws:=ws) (vs:=[Str.ofString "1"]) (k:=0) (by omega);have e1:=JH (ws:=ws) (vs:=[Str.ofString "1"]) (k:=1) (by omega);refine ⟨fr, .inl ⟨by rw [e0]; exact np,by simp,?_⟩⟩;rcases h with ⟨hn,_⟩ | hv | ⟨i,j,hi,hj,rfl⟩
 ·exact zBq (by rw [e1]; exact hn)
 ·exact zCG (by rw [e0]; exact hv)
 ·exact (zEM i hi j hj).2.2.1
theorem S1.last {ws:List Str} (h:S1 ws) (l3:2<ws.length) (np:ws.getD 0 Str.empty≠Str.ofString "plan"):∃vs,Bad vs/\Str.join (zW 32) (ws.dropLast++[Str.ofString " 4"])=Str.join (zW 32) vs:=by
 obtain ⟨hf,l2,l4,h⟩:=h;have ld:ws.dropLast.length=ws.length - 1:=List.length_dropLast;have ed:∀{k:Nat},k<ws.length - 1->ws.dropLast.getD k Str.empty=ws.getD k Str.empty:=λ{k} hk=>by
  rw [qC,List.getElem?_dropLast,if_pos hk,qC]
 refine ⟨ws.dropLast++[Str.ofString "",Str.ofString "4"],⟨λu hu=>?_, .inl ⟨?_,by simp,?_⟩⟩,?_⟩
 ·rcases qO.mp hu with h | h
  ·exact (hf u (List.dropLast_subset _ h)).1
  ·have:∀u∈[Str.ofString "",Str.ofString "4"],32∉u.cps.toList:=by decide +kernel
   exact this u h
 ·rw [JH (by omega),ed (by omega)]
  exact np
 ·rcases h with ⟨hn,_⟩ | hv | ⟨i,j,hi,hj,rfl⟩
  ·exact zBq (by rw [JH (by omega),ed (by omega)]; exact hn)
  ·exact zCG (by rw [JH (by omega),ed (by omega)]; exact hv)
  ·exact (zEM i hi j hj).2.2.2
 ·have key:∀vs:List Str,vs≠[]->(Str.join (zW 32) (vs++[Str.ofString " 4"])).cps.toList=(Str.join (zW 32) (vs++[Str.ofString "",Str.ofString "4"])).cps.toList:=by
   intro vs
   induction vs with
   | nil=>intro h; exact absurd rfl h
   | cons x r ih=>
    intro _;cases r with
    | nil=>
     rw [List.singleton_append,List.singleton_append,ZZ,ZZ,ZZ];show _=_++32::((Str.ofString "").cps.toList++32::(Str.ofString "4").cps.toList);have:(Str.join (zW 32) [Str.ofString " 4"]).cps.toList=(Str.ofString "").cps.toList++32::(Str.ofString "4").cps.toList:=by decide +kernel
     rw [this]
    | cons y r=>
     have e1:(x::y::r)++[Str.ofString " 4"]=x::y::(r++[Str.ofString " 4"]):=rfl;have e2:(x::y::r)++[Str.ofString "",Str.ofString "4"]=x::y::(r++[Str.ofString "",Str.ofString "4"]):=rfl;rw [e1,e2,ZZ,ZZ];have:=ih (λh=>nomatch h);rw [List.cons_append,List.cons_append] at this;rw [this]
  exact Zl (key _ (λe=>by rw [e] at ld; simp at ld; omega))
theorem S1.name {ws:List Str} (h:S1 ws) {x:Str} (hx:32∉x.cps.toList/\x.length≤30) (hn:Jc x=false) (hp:ws.getD 0 Str.empty=Str.ofString "plan"->ws.length=3):S1 (ws.set 1 x):=by
 obtain ⟨hf,l2,l4,h⟩:=h;refine ⟨λu hu=>?_,by rw [xU]; exact l2,by rw [xU]; exact l4, .inl ⟨?_,λe=>?_⟩⟩
 ·rcases List.mem_or_eq_of_mem_set hu with h | rfl
  ·exact hf u h
  ·exact hx
 ·rw [qC,xP (by omega)]
  exact hn
 ·rw [xU]
  refine hp ?_;rw [qC,XQ (by decide)] at e;rw [qC];exact e
theorem S1.plan3 {ws:List Str} (h:S1 ws):ws.getD 0 Str.empty=Str.ofString "plan"->ws.length=3:=by
 obtain ⟨hf,l2,l4,⟨_,h⟩ | hv | ⟨i,j,hi,hj,rfl⟩⟩:=h
 ·exact h
 ·exact λe=>absurd e (zDy hv)
 ·exact λe=>absurd e (zEM i hi j hj).1
theorem zEi {a b:Str} {c:Nat} (h:c∈Jf) (ha:32∉a.cps.toList) (hb:32∉b.cps.toList):smB (a++zW c++b)=false/\Jc (a++zW c++b)=false/\32∉(a++zW c++b).cps.toList:=by
 have el:(a++zW c++b).cps.toList=a.cps.toList++c::b.cps.toList:=by
  show ((a.cps++#[c])++b.cps).toList=_;simp
 have hc:∀c∈Jf,c∉jX/\c≠32:=by decide +kernel
 have s:smB (a++zW c++b)=false:=by
  unfold smB;rw [el,List.all_append,List.all_cons,decide_eq_false (hc c h).1,QH,XU,XU]
 refine ⟨s,by unfold Jc; rw [s]; rfl,?_⟩;rw [el];intro z;rcases qO.mp z with z | z
 ·exact ha z
 ·rcases qG.mp z with z | z
  ·exact (hc c h).2 z.symm
  ·exact hb z
abbrev zID:Stmt:=top 113
theorem Yg {x:Str} {lo hi:Option Int} (h:32∉x.cps.toList):32∉(Txt.slice x lo hi).cps.toList:=by
 unfold Txt.slice
 split
 ·exact h
 ·intro z
  obtain ⟨i,_,hi⟩:=List.mem_filterMap.mp (show 32∈List.filterMap _ _ from z);exact h (xA (by rw [Array.getElem?_toList]; exact hi))
theorem zFS (x:Str):∀xs:List Str,inV (.str x) (xs.map V.str)=decide (x∈xs)
 | []=>rfl
 | y::r=>by
  have ih:=zFS x r;unfold inV at ih ⊢;rw [qQ,XI,ih];have e1:eqV (.str y) (.str x)=(y==x):=rfl;rw [e1];by_cases h:y=x
  ·rw [show (y==x)=true from beq_iff_eq.mpr h,Bool.true_or,decide_eq_true (by rw [h]; exact qD)]
  ·rw [show (y==x)=false from beq_eq_false_iff_ne.mpr h,Bool.false_or]
   exact decide_eq_decide.mpr ⟨λm=>qF _ m,λm=>(qG.mp m).resolve_left λz=>h z.symm⟩
theorem zJr (xs:List Str):(xs.map V.str).all jq=true:=by
 rw [List.all_map];exact QM.mpr λ_ _=>rfl
theorem zDG {α:Type} {xs:List α} {i:Int} (h0:0≤i) (h1:i<xs.length):∃v,YB xs i=some v/\v∈xs/\xs[i.toNat]?=some v:=by
 obtain ⟨k,rfl⟩:∃k:Nat,i=k:=⟨i.toNat,by omega⟩;have hk:k<xs.length:=by omega
 exact ⟨xs[k],Z2 (qB hk),QF hk,qB hk⟩
def rr0:List Str:=[(Str.ofString "come abcdefgh 99"),(Str.ofString "go abcdefgh 1"),(Str.ofString "sum abcdefgh 99")]
def rr1:List Str:=rr0++[(Str.ofString "unsum abcdefgh 2"),(Str.ofString "nth abcdefgh 0"),(Str.ofString "kind abcdefgh squares 3")]
def rr2:List Str:=rr1++[(Str.ofString "drop abcdefgh"),(Str.ofString "rows abcdefgh"),(Str.ofString "rings abcdefgh")]
def rr3:List Str:=rr2++[(Str.ofString "row abcdefgh"),(Str.ofString "ring abcdefgh"),(Str.ofString "longest abcdefgh")]
def rr4:List Str:=rr3++[(Str.ofString "cut abcdefgh"),(Str.ofString "show abcdefgh"),(Str.ofString "plan abcdefgh 1:")]
theorem zRF:rr4=Jj:=by decide +kernel
def zMd:Sp:=λvs H Q _=>∃c:Int,vs=[.int c]/\0≤c/\∀(z:Str) (H':Hp),zC H H'->z.length≤570->jW z=false->Q (.str z) H'
structure jY (H H':Hp) (R l:Addr) (ws:List Str):Prop where
 g:zC H H'
 nl:H l=none
 rr:H' R=some (.lst (Jj.map V.str))
 ll:H' l=some (.lst (ws.map V.str))
 ne:l≠R
theorem jY.set {H H':Hp} {R l:Addr} {ws:List Str} (w:jY H H' R l ws) (vs:List Str):jY H (upd H' l (.lst (vs.map V.str))) R l vs:=by
 refine ⟨λb o hb=>?_,w.nl,?_,zD,w.ne⟩
 ·rw [zI (zJ hb w.nl)]
  exact w.g _ _ hb
 ·rw [zI (Ne.symm w.ne)]
  exact w.rr
theorem jY.same {H H' H2:Hp} {R l:Addr} {ws:List Str} (w:jY H H' R l ws) (g:zC H' H2):jY H H2 R l ws:=⟨w.g.trans g,w.nl,g _ _ w.rr,g _ _ w.ll,w.ne⟩
abbrev Yr:Str:=Str.ofString "abcdefghijklmnopqrstuvwxyz"
abbrev Z5:Str:=Str.ofString "!\"\\#$&'()*+,-./0123456789:;<=>?@ABCDEFGHIJKLMNOPQRSTUVWXYZ[]^_`{|}~\t\n"
theorem zAV:Z5.length=Jf.length/\(Jf.length:Int)=69:=by decide +kernel
theorem zAn {ws:List Str} {k:Nat} (h:k<ws.length):YB (ws.map V.str) (k:Int)=some (.str (ws.getD k Str.empty)):=Z2 (by rw [qR,qB h,qC,qB h]; rfl)
theorem zIB {ws:List Str} {k:Nat} (h:k<ws.length):J5 (ws.map V.str).length (k:Int)=some k:=by
 unfold J5;rw [qA,if_pos (by omega),if_pos (by omega),xE]
theorem zGK {ws:List Str} (h:0<ws.length):J5 (ws.map V.str).length (-1)=some (ws.length - 1):=by
 unfold J5;rw [qA,if_neg (by omega),if_pos (by omega)]
 congr 1
 omega
theorem zEA {ws:List Str} (h:0<ws.length) (x:Str):ws.set (ws.length - 1) x=ws.dropLast++[x]:=by
 obtain ⟨r,y,rfl⟩:∃r y,ws=r++[y]:=⟨ws.dropLast,ws.getLast (λe=>by rw [e] at h; cases h),(List.dropLast_concat_getLast _).symm⟩;rw [List.dropLast_concat,qI,XB,Nat.add_sub_cancel,List.set_append_right _ _ (qE _),Nat.sub_self];rfl
theorem zFc {x:Str} {c:Nat} {a b:Option Int} (hx:32∉x.cps.toList) (hl:x.length≤10) (hc:c≠32):32∉(Txt.slice x none a++zW c++Txt.slice x b none).cps.toList/\(Txt.slice x none a++zW c++Txt.slice x b none).length≤21:=by
 have el:(Txt.slice x none a++zW c++Txt.slice x b none).cps.toList=(Txt.slice x none a).cps.toList++c::(Txt.slice x b none).cps.toList:=by
  show (((Txt.slice x none a).cps++#[c])++(Txt.slice x b none).cps).toList=_;simp
 constructor
 ·rw [el]
  intro z;rcases qO.mp z with z | z
  ·exact Yg hx z
  ·rcases qG.mp z with z | z
   ·exact hc z.symm
   ·exact Yg hx z
 ·rw [Ze,Ze]
  have h1:=Txt.slice_le x none a;have h2:=Txt.slice_le x b none;have h3:(zW c).length=1:=rfl;omega
section
variable {f:Addr} {fd:FuncData}
theorem yr:zP ["cell","rows","words","signs","sign","at","bad","way","kind"] ["cell"] (zF zID):=ZA
set_option maxHeartbeats 0 in
theorem zOn (F:zm K "_law_spoilt" "_law_spoilt" zID f fd) (B:Bt2 mg):zH P w K mg base zT 1 f fd ["cell"] zMd:=by
 refine F.ok yr (λvs H Q E h=>?_) (λcdv A outer s H vs Q E hr h=>?_)
 ·obtain ⟨c,rfl,_⟩:=h
  rfl
 obtain ⟨c,rfl,c0,q⟩:=h;refine ⟨_,(QSs.h (zX (zw (i:=1) yr.nd rfl (Or.inl rfl) (zv (zM (zM (zM zS))))) (zX (zw (i:=1) yr.nd rfl (Or.inl rfl) (zz zo (QE.mk (pv 1)) (zv (zM (zM (zM zS)))))) (zX (zw (i:=1) yr.nd rfl (Or.inl rfl) (zz zo (QE.mk (pv 1)) (zv (zM (zM (zM zS)))))) (zX (zw (i:=1) yr.nd rfl (Or.inl rfl) (zz zo (QE.mk (pv 1)) (zv (zM (zM (zM zS)))))) (zX (zw (i:=1) yr.nd rfl (Or.inl rfl) (zz zo (QE.mk (pv 1)) (zv (zM (zM (zM zS)))))) (zX (QS.mk (za (i:=2) yr.nd rfl (Or.inl rfl) (yB QJ xQ xR JN (zu ZE (pv 1) (zZ yG (zZ yR (pv 0) zK) (zu ZE (ZG (QA.h (zd (QE.mk zK) (zd (QE.mk zK) (zd (QE.mk zK) zS))))) (zZ yG (pv 0) zK) (λ_ _=>rfl))) (λ_ _=>rfl)) (QA.h (zM zS))))) (zX (QS.mk (za (i:=3) yr.nd rfl (Or.inl rfl) zV)) (zX (QS.mk (za (i:=4) yr.nd rfl (Or.inl rfl) (zu zEp (pv 3) (zZ yG (zZ yR (pv 0) zK) (zY YX rfl B.len QB (QA.h (zd (QE.mk (pv 3)) zS)))) (λ_ _=>rfl)))) (zX (QS.mk (zy (zh ye (zZ yG (pv 0) zK) zK (zk _)) (@zE _ _ _ _ _ (za (i:=5) yr.nd rfl (Or.inl rfl) (QE.h (zz yG (zz yR (QE.mk (pv 0)) (QE.mk zK)) (QE.mk zK)))) (@zG _ _ _ (JU (zZ ZX (zZ ZX (YL JG (zu ZE (pv 2) zK (λ_ _=>rfl)) Yi (Yh (pv 5))) (pv 4)) (YL JG (zu ZE (pv 2) zK (λ_ _=>rfl)) (Yh (zZ YG (pv 5) (zZ yG (zZ yR (pv 0) zK) zK))) Yi)) (Ja (pv 2) zK Y4)))) zf)) (zX (QS.mk (zy (zh ye (zZ yG (pv 0) zK) zK (zk _)) (@zE _ _ _ _ _ (za (i:=5) yr.nd rfl (Or.inl rfl) (QE.h (zz yG (zz yR (QE.mk (pv 0)) (QE.mk zK)) (zz YG (QE.mk (zY YX rfl B.len QB (QA.h (zd (QE.mk (zu ZE (pv 2) zK (λ_ _=>rfl))) zS)))) (QE.mk zK))))) (@zE _ _ _ _ _ (za (i:=4) yr.nd rfl (Or.inl rfl) (zu zEp (zZ ZX (pv 4) zV) (zZ yG (zZ yR (pv 0) zK) zK) (λ_ _=>rfl))) (@zE _ _ _ _ _ (JU (zZ ZX (zZ ZX (YL JG (zu ZE (pv 2) zK (λ_ _=>rfl)) Yi (Yh (pv 5))) (pv 4)) (YL JG (zu ZE (pv 2) zK (λ_ _=>rfl)) (Yh (zZ YG (pv 5) (zZ yG (zZ yR (pv 0) zK) zK))) Yi)) (Ja (pv 2) zK Y4)) (@zG _ _ _ (zy (zh zDp (zu ZE (pv 2) zK (λ_ _=>rfl)) (Za ["row"] rfl (ZY (zF zID) ["cell","rows","words","signs","sign","at","bad","way","kind"] rfl rfl (by decide +kernel)) (ZM (pv 1)) (λpins C fp s3 H3=>⟨(zp (i:=0) (show (Zo ["row"] ["cell","rows","words","signs","sign","at","bad","way","kind"]).Nodup by decide +kernel) rfl (Or.inl rfl)),Zp,(zu (zBr K) (zFJ K QJ xQ xR JN (pv 0) (QA.h (zM zS))) zK (λ_ _=>rfl))⟩)) rfl) (@zG _ _ _ (JU (zZ ZX (zu ZE (pv 2) zK (λ_ _=>rfl)) (zu ZE (pv 2) zK (λ_ _=>rfl))) (Ja (pv 2) zK Y4))) zf))))) zf)) (zX (QS.mk (zy (zh ye (zZ yG (pv 0) zK) zK (zk _)) (@zE _ _ _ _ _ (by ((with_reducible refine za (i:=6) (te:=zCD (yU (tC (.str (Str.ofString "1000000000"))) (yU (tC (.str (Str.ofString "-1"))) (yU (tC (.str (Str.ofString ""))) (yU (tC (.str (Str.ofString "01"))) (yU (tC (.str (Str.ofString "00"))) (yU (tC (.str (Str.ofString "x"))) (yU (tC (.str (Str.ofString "+1"))) (yU (tC (.str (Str.ofString "1_"))) (yU (tC (.str (Str.ofString "1.0"))) (yU (tC (.str (Str.ofString "1\n"))) (yU (tC (.str (Str.ofString "\t1"))) (yU (tC (.str (Str.ofString "10x"))) (Jp)))))))))))))) ?k1 ?k2 ?k3 ?k4 ?k5 ?k6); (case k1=>exact yr.nd); (case k2=>rfl); (case k3=>exact (Or.inl rfl)); (case k4=>exact QE.h (zv (zM (zM (zM (zM (zM (zM (zM (zM (zM (zM (zM (zM zS)))))))))))))); (case k5=>rfl); (case k6=>exact Or.inl rfl))) (@zG _ _ _ (JU (zu ZE (pv 6) (zZ yG (zZ yR (pv 0) zK) zK) (λ_ _=>rfl)) (Ja (pv 2) (zCL zAq zK) Y4)))) zf)) (zX (zw (i:=7) yr.nd rfl (Or.inl rfl) (zz yG (zz yR (QE.mk (pv 0)) (QE.mk zK)) (QE.mk zK))) (zX (QS.mk (zy (zh zBD (pv 7) zK (zk _)) (@zG _ _ _ (JU (zu ZE (ZG (QA.h (zM (zM zS)))) (pv 7) (λ_ _=>rfl)) (Ja (pv 2) zK Y4))) zf)) (zX (QS.mk (zy (PW.pt (zAC (zh ye (pv 7) zK (zk _)) (zBR (zh zAH (zu ZE (pv 2) zK (λ_ _=>rfl)) zV (zk _))))) (@zG _ _ _ (ZI (yB QK QW QX yk (pv 2) (QA.h (zM zS))))) zf)) (zX (QS.mk (zy (PW.pt (zAC (zh ye (pv 7) zK (zk _)) (zAC (zh zLm (zY ZD rfl B.len QB (QA.h (zd (QE.mk (pv 2)) zS))) zK (zk _)) (zBR (zh zAH (zu ZE (pv 2) zK (λ_ _=>rfl)) zV (zk _)))))) (@zG _ _ _ (JU zV (Ja (pv 2) (zCL zAq zK) Y4))) zf)) (zX (QS.mk (zy (zh ye (pv 7) zK (zk _)) (@zE _ _ _ _ _ (za (i:=5) yr.nd rfl (Or.inl rfl) (QE.h (zz yG (zz yR (QE.mk (pv 0)) (QE.mk zK)) (QE.mk zK)))) (@zE _ _ _ _ _ (za (i:=4) yr.nd rfl (Or.inl rfl) (zu zEp (pv 3) (zZ yG (zZ yR (pv 0) zK) (zY YX rfl B.len QB (QA.h (zd (QE.mk (pv 3)) zS)))) (λ_ _=>rfl))) (@zE _ _ _ _ _ (za (i:=8) yr.nd rfl (Or.inl rfl) (QE.h (zz ZX (zz ZX (QE.mk (YL JG zV Yi (Yh (pv 5)))) (QE.mk (pv 4))) (QE.mk (YL JG zV (Yh (zZ YG (pv 5) (zZ yG (zZ yR (pv 0) zK) zK))) Yi))))) (@zG _ _ _ (za (i:=2) yr.nd rfl (Or.inl rfl) (QE.h (zv (zM (zM (zd (QE.mk (pv 8)) (zM zS))))))))))) zf)) (zBU (QS.mk (zR (yB QJ PySem.F.slot_str_join PySem.F.type_str_join zCu zV (QA.h (zd (QE.mk (pv 2)) zS))))))))))))))))))))))),?_⟩
 refine zg (λσ' H'=>∃R,σ'=[some (.int c),some (.ref R),none,none,none,none,none,none,none]/\zC H H'/\H R=none/\H' R=some (.lst (rr0.map V.str))) (λN hN=>?_) ?_
 ·exact ⟨(by show 3≤sizeLine; decide),λk hk=>hN _ _ ⟨k,rfl,zC.new hk _,hk,zD⟩⟩
 rintro σ1 H1 ⟨l,rfl,g,nl,hl⟩;refine zg (λσ' H'=>∃R,σ'=[some (.int c),some (.ref R),none,none,none,none,none,none,none]/\zC H H'/\H R=none/\H' R=some (.lst (rr1.map V.str))) (λN hN=>?_) ?_
 ·exact zDE (ys:=[(Str.ofString "unsum abcdefgh 2"),(Str.ofString "nth abcdefgh 0"),(Str.ofString "kind abcdefgh squares 3")]) g hl (by decide) (by show 3≤sizeLine; decide) rfl (λk2 H2 g2 n2 h2=>hN _ _ ⟨k2,rfl,g2,n2,h2⟩)
 rintro σ1 H1 ⟨l,rfl,g,nl,hl⟩;refine zg (λσ' H'=>∃R,σ'=[some (.int c),some (.ref R),none,none,none,none,none,none,none]/\zC H H'/\H R=none/\H' R=some (.lst (rr2.map V.str))) (λN hN=>?_) ?_
 ·exact zDE (ys:=[(Str.ofString "drop abcdefgh"),(Str.ofString "rows abcdefgh"),(Str.ofString "rings abcdefgh")]) g hl (by decide) (by show 3≤sizeLine; decide) rfl (λk2 H2 g2 n2 h2=>hN _ _ ⟨k2,rfl,g2,n2,h2⟩)
 rintro σ1 H1 ⟨l,rfl,g,nl,hl⟩;refine zg (λσ' H'=>∃R,σ'=[some (.int c),some (.ref R),none,none,none,none,none,none,none]/\zC H H'/\H R=none/\H' R=some (.lst (rr3.map V.str))) (λN hN=>?_) ?_
 ·exact zDE (ys:=[(Str.ofString "row abcdefgh"),(Str.ofString "ring abcdefgh"),(Str.ofString "longest abcdefgh")]) g hl (by decide) (by show 3≤sizeLine; decide) rfl (λk2 H2 g2 n2 h2=>hN _ _ ⟨k2,rfl,g2,n2,h2⟩)
 rintro σ1 H1 ⟨l,rfl,g,nl,hl⟩;refine zg (λσ' H'=>∃R,σ'=[some (.int c),some (.ref R),none,none,none,none,none,none,none]/\zC H H'/\H R=none/\H' R=some (.lst (rr4.map V.str))) (λN hN=>?_) ?_
 ·exact zDE (ys:=[(Str.ofString "cut abcdefgh"),(Str.ofString "show abcdefgh"),(Str.ofString "plan abcdefgh 1:")]) g hl (by decide) (by show 3≤sizeLine; decide) rfl (λk2 H2 g2 n2 h2=>hN _ _ ⟨k2,rfl,g2,n2,h2⟩)
 rintro σ1 H1 ⟨R,rfl,g,nR,hR⟩;rw [zRF] at hR;refine zg (λσ' H'=>∃l i,σ'=[some (.int c),some (.ref R),some (.ref l),none,none,none,none,none,none]/\jY H H' R l (Zq i)/\i<15/\(c % 3=2->i<6)) (λN hN=>?_) ?_
 ·obtain ⟨m,em,m0,m15,m6⟩:∃m:Int,YB [V.int 15, .int 15, .int 6] (c % 3)=some (.int m)/\0<m/\m≤15/\(c % 3=2->m=6):=by
   rcases (show c % 3=0\/c % 3=1\/c % 3=2 by omega) with e | e | e <;> rw [e]
   ·exact ⟨15,rfl,by decide,by decide,by decide⟩
   ·exact ⟨15,rfl,by decide,by decide,by decide⟩
   ·exact ⟨6,rfl,by decide,by decide,by decide⟩
  have i0:0≤c / 3 % m:=XZ _ (by omega);have i1:c / 3 % m<m:=Int.emod_lt_of_pos _ m0;obtain ⟨i,ei⟩:∃i:Nat,c / 3 % m=i:=⟨(c / 3 % m).toNat,by omega⟩;have i15:i<15:=by omega
  refine ⟨_,rfl,_,rfl,_,_,rfl,rfl,⟨by decide,by decide⟩,(by show 3≤sizeLine; decide),λk hk=>?_⟩;have s1:=zC.new hk (.lst [.int 15, .int 15, .int 6]);refine ⟨_,rfl,_,_,rfl,rfl,(by show (0:Int)<3; decide),k,_,_,_,rfl,rfl,zQ.of zD,em,_,_,rfl,rfl,m0,R,_,_,_,rfl,rfl,zQ.of (s1 _ _ hR),by rw [ei]; exact zAn i15,?_⟩;have ln:∀i<15,(Jj.getD i Str.empty).length≤30:=by decide +kernel
  refine ⟨rfl,_,32,rfl,rfl,Zg (by have:=ln i i15; omega),λD hD=>hN _ _ ⟨D,i,rfl,⟨(g.trans s1).trans (zC.new hD _),?_,zC.new hD _ _ _ (s1 _ _ hR),zD,Ne.symm (zJ (s1 _ _ hR) hD)⟩,i15,λe=>?_⟩⟩
  ·cases e:H D with
   | none=>rfl
   | some o=>rw [s1 _ _ (g _ _ e)] at hD; cases hD
  ·have:=m6 e
   omega
 rintro σ1 H1 ⟨l,i,rfl,wl,i15,i6⟩;obtain ⟨rf,r2,r4,rv,rn,rp⟩:=zCT i i15;refine zg (λσ' H'=>σ'=[some (.int c),some (.ref R),some (.ref l),some (.str Z5),none,none,none,none,none]/\jY H H' R l (Zq i)) (λN hN=>hN _ _ ⟨rfl,wl⟩) ?_
 clear wl
 rintro σ1 H1 ⟨rfl,wl⟩;have sgl:∀d:Int,∃ch,ch∈Jf/\YB Z5.cps.toList (d % (Z5.length:Nat))=some ch:=λd=>by
  obtain ⟨e1,e2⟩:=zAV;have h0:0≤d % (Z5.length:Nat):=XZ _ (by omega);have h1:d % (Z5.length:Nat)<(Z5.length:Nat):=Int.emod_lt_of_pos _ (by omega);obtain ⟨v,hv,m,_⟩:=zDG (xs:=Z5.cps.toList) h0 (by rw [qJ]; exact h1);exact ⟨v,m,hv⟩
 have sS:Z5.length≤sizeLine:=by
  obtain ⟨e1,e2⟩:=zAV;exact Zg (by omega)
 refine zg (λσ' H'=>∃ch,ch∈Jf/\σ'=[some (.int c),some (.ref R),some (.ref l),some (.str Z5),some (.str (zW ch)),none,none,none,none]/\jY H H' R l (Zq i)) (λN hN=>?_) ?_
 ·obtain ⟨ch,hm,ha⟩:=sgl (c / 1000)
  exact ⟨_,rfl,_,rfl,_,_,rfl,rfl,⟨by decide,by decide⟩,_,rfl,Z5,rfl,sS,_,_,rfl,rfl,(by obtain ⟨e1,e2⟩:=zAV; omega),Z5,_,ch,rfl,rfl,sS,ha,hN _ _ ⟨ch,hm,rfl,wl⟩⟩
 clear wl
 rintro σ1 H1 ⟨ch,hch,rfl,wl⟩;have chn:ch≠32:=by
  have:∀c∈Jf,c≠32:=by decide +kernel
  exact this ch hch
 have x1f:32∉(Str.ofString "abcdefgh").cps.toList/\(Str.ofString "abcdefgh").length≤10:=by decide +kernel
 refine zg (λσ' H'=>∃ws a,σ'=[some (.int c),some (.ref R),some (.ref l),some (.str Z5),some (.str (zW ch)),a,none,none,none]/\jY H H' R l ws/\((c % 3=0/\S1 ws)\/(c % 3≠0/\ws=Zq i))) (λN hN=>?_) ?_
 ·refine ⟨_,rfl,_,_,rfl,rfl,(by show (0:Int)<3; decide),rfl,_,rfl,zq (λce=>?_) (λce=>?_)⟩
  ·have e0:c % 3=0:=V.int.inj (of_decide_eq_true ce)
   refine ⟨_,rfl,_,_,rfl,rfl,⟨by decide,by decide⟩,_,_,rfl,rfl,(by show (0:Int)<9; decide),?_⟩;have a1:YB ((Zq i).map V.str) 1=some (.str (Str.ofString "abcdefgh")):=by rw [<-rn]; exact zAn (k:=1) (by omega)
   have sx:(Str.ofString "abcdefgh").length≤sizeLine:=Zg (by omega);obtain ⟨m1,m2⟩:=zFc (x:=Str.ofString "abcdefgh") (c:=ch) (a:=some (c / 45 % 9)) (b:=some (c / 45 % 9+c / 405 % 2)) x1f.1 x1f.2 chn;obtain ⟨_,b2,_⟩:=zEi (a:=Txt.slice (Str.ofString "abcdefgh") none (some (c / 45 % 9))) (b:=Txt.slice (Str.ofString "abcdefgh") (some (c / 45 % 9+c / 405 % 2)) none) hch (Yg x1f.1) (Yg x1f.1);have l1:=m2;rw [Ze] at l1;have l2:=l1;rw [Ze] at l2;refine ⟨_,rfl,l,_,1,_,rfl,rfl,zQ.of wl.ll,a1,_,rfl,_,rfl,_,rfl,sx,_,rfl,_,_,rfl,rfl,Zg (by omega),_,rfl,l,_,1,_,rfl,rfl,zQ.of wl.ll,a1,_,rfl,_,rfl,_,_,rfl,rfl,⟨by decide,by decide⟩,_,_,rfl,rfl,(by show (0:Int)<2; decide),_,_,rfl,rfl,_,rfl,_,rfl,sx,_,_,rfl,rfl,Zg (by rw [Ze]; omega),?_⟩;refine ⟨_,rfl,l,_,1,1,rfl,rfl,wl.ll,zIB (k:=1) (by omega),?_⟩;rw [<-List.map_set];refine hN _ _ ⟨_,_,rfl,wl.set _, .inl ⟨e0,?_⟩⟩;refine ⟨λu hu=>?_,by rw [xU]; exact r2,by rw [xU]; exact r4, .inl ⟨?_,λe=>?_⟩⟩
   ·rcases List.mem_or_eq_of_mem_set hu with h | rfl
    ·exact ⟨(rf u h).1,by have:=(rf u h).2; omega⟩
    ·exact ⟨m1,by omega⟩
   ·rw [qC,xP (by omega)]
    exact b2
   ·rw [xU]
    refine rp ?_;rw [qC,XQ (by decide)] at e;rw [qC];exact e
  ·exact hN _ _ ⟨_,_,rfl,wl, .inr ⟨λy=>ce (decide_eq_true (by show V.int (c % 3)=V.int 0; rw [y])),rfl⟩⟩
 clear wl
 rintro σ1 H1 ⟨ws,a,rfl,wl,hw⟩;refine zg (λσ' H'=>∃ws a sg,σ'=[some (.int c),some (.ref R),some (.ref l),some (.str Z5),some (.str sg),a,none,none,none]/\jY H H' R l ws/\((c % 3≠2/\S1 ws)\/(c % 3=2/\ws=Zq i))) (λN hN=>?_) ?_
 ·refine ⟨_,rfl,_,_,rfl,rfl,(by show (0:Int)<3; decide),rfl,_,rfl,zq (λce=>?_) (λce=>?_)⟩
  ·have e1:c % 3=1:=V.int.inj (of_decide_eq_true ce)
   obtain rfl:ws=Zq i:=by
    rcases hw with ⟨e,_⟩ | ⟨_,e⟩
    ·omega
    ·exact e
   have x0f:=rf _ (zDn (Zq i) (i:=0) (by omega));generalize hx0:(Zq i).getD 0 Str.empty=x0 at x0f;have a0:YB ((Zq i).map V.str) 0=some (.str x0):=by rw [<-hx0]; exact zAn (k:=0) (by omega)
   have sx:x0.length≤sizeLine:=Zg (by omega);refine ⟨_,rfl,_,_,rfl,rfl,⟨by decide,by decide⟩,_,rfl,l,_,0,_,rfl,rfl,zQ.of wl.ll,a0,x0,rfl,sx,_,_,rfl,rfl,_,_,rfl,rfl,(by omega),?_⟩;dsimp only [Zi,List.set];obtain ⟨c2,hc2,ha2⟩:∃c2,c2≠32/\YB (zW ch++Yr).cps.toList (c / 500 % 27)=some c2:=by
    have el:(zW ch++Yr).cps.toList=ch::Yr.cps.toList:=by
     show (#[ch]++Yr.cps).toList=_;simp
    rw [el];have la:(ch::Yr.cps.toList).length=27:=by
     have:Yr.cps.toList.length=26:=by decide +kernel
     rw [qL,this]
    obtain ⟨v,hv,m,_⟩:=zDG (xs:=ch::Yr.cps.toList) (i:=c / 500 % 27) (XZ _ (by decide)) (by rw [la]; exact Int.emod_lt_of_pos _ (by decide));refine ⟨v,?_,hv⟩;rcases qG.mp m with e | m
    ·rw [e]
     exact chn
    ·have:∀c∈Yr.cps.toList,c≠32:=by decide +kernel
     exact this v m
   have lsa:(zW ch++Yr).length≤1000:=by
    rw [Ze];have h1:(zW ch).length=1:=rfl;have h2:Yr.length=26:=by decide +kernel
    omega
   refine ⟨_,rfl,_,_,rfl,rfl,Zg (by rw [Ze] at lsa; exact lsa),_,rfl,_,_,rfl,rfl,⟨by decide,by decide⟩,_,_,rfl,rfl,(by show (0:Int)<27; decide),_,_,c2,rfl,rfl,Zg lsa,ha2,?_⟩;dsimp only [Zi,List.set];generalize c / 45 % ((x0.length:Int)+1)=at';have hs2:(⟨#[c2]⟩:Str).length=1:=rfl;have hs3:(zW c2).length=1:=rfl;obtain ⟨m1,m2⟩:=zFc (x:=x0) (c:=c2) (a:=some at') (b:=some (at'+c / 405 % 2)) x0f.1 x0f.2 hc2;have l1:=m2;rw [Ze] at l1;have l2:=l1;rw [Ze] at l2;refine zg (λσ' H'=>σ'=[some (.int c),some (.ref R),some (.ref l),some (.str Z5),some (.str (zW c2)),some (.int at'),none,none,none]/\jY H H' R l ((Zq i).set 0 (Txt.slice x0 none (some at')++zW c2++Txt.slice x0 (some (at'+c / 405 % 2)) none))) (λN2 hN2=>?_) ?_
   ·refine ⟨_,rfl,l,_,0,_,rfl,rfl,zQ.of wl.ll,a0,_,rfl,_,rfl,_,rfl,sx,_,rfl,_,_,rfl,rfl,Zg (by omega),_,rfl,l,_,0,_,rfl,rfl,zQ.of wl.ll,a0,_,rfl,_,rfl,_,_,rfl,rfl,⟨by decide,by decide⟩,_,_,rfl,rfl,(by show (0:Int)<2; decide),_,_,rfl,rfl,_,rfl,_,rfl,sx,_,_,rfl,rfl,Zg (by rw [Ze]; omega),?_⟩
    refine ⟨_,rfl,l,_,0,0,rfl,rfl,wl.ll,zIB (k:=0) (by omega),?_⟩;rw [<-List.map_set];exact hN2 _ _ ⟨rfl,wl.set _⟩
   clear wl
   generalize Txt.slice x0 none (some at')++zW c2++Txt.slice x0 (some (at'+c / 405 % 2)) none=v0 at m1 m2 ⊢;rintro σ2 H2 ⟨rfl,wl⟩;have ls:((Zq i).set 0 v0).length=(Zq i).length:=xU;have g0:((Zq i).set 0 v0).getD 0 Str.empty=v0:=by rw [qC,xP (by omega)]; rfl
   have a2:YB (((Zq i).set 0 v0).map V.str) 0=some (.str v0):=by
    have:=zAn (ws:=(Zq i).set 0 v0) (k:=0) (by omega);rw [g0] at this;exact this
   have okS:∀y:Str,ZS y=none->32∉y.cps.toList->y.length≤30->S1 ((Zq i).set 0 y):=λy h1 h2 h3=>by
    refine ⟨λu hu=>?_,by rw [xU]; exact r2,by rw [xU]; exact r4, .inr (.inl ?_)⟩
    ·rcases List.mem_or_eq_of_mem_set hu with h | rfl
     ·exact ⟨(rf u h).1,by have:=(rf u h).2; omega⟩
     ·exact ⟨h2,h3⟩
    ·rw [qC,xP (by omega)]
     exact h1
   refine ⟨_,rfl,l,_,0,_,rfl,rfl,zQ.of wl.ll,a2,_,rfl,R,rfl,⟨_,zQ.of wl.rr⟩,λD hD=>?_⟩;refine yM (σ:=[some (.int c),some (.ref R),some (.ref l),some (.str Z5),some (.str (zW c2)),some (.int at'),none,none,none]) (xs:=Jj.map V.str) (λ_=>true) (λj=> .str (y6.getD j Str.empty)) (zQ.of wl.rr) hD (by decide) (λj H' hj g=>Z0) (λj H' hj _ g P hP=>?_) λH3 g3 e3=>?_
   ·have hj':j<15:=by rw [qA] at hj; exact hj
    rw [zAD Jj hj'];have ln:∀i<15,(Jj.getD i Str.empty).length≤30:=by decide +kernel
    refine ⟨_,rfl,rfl,_,32,rfl,rfl,Zg (by have:=ln j hj'; omega),λD2 hD2=>?_⟩;refine ⟨D2,_,0,_,rfl,rfl,zQ.of zD,?_,hP _ (zC.new hD2 _)⟩;obtain ⟨_,q2,_,q4,_⟩:=zCT j hj';rw [<-q4];exact zAn (ws:=Zq j) (k:=0) (by omega)
   have ev:(((List.range (Jj.map V.str).length).filter λ_=>true).map λj=>V.str (y6.getD j Str.empty))=y6.map V.str:=by
    rw [Y3];exact (by
     have:((List.range 15).map λj=>y6.getD j Str.empty)=y6:=by decide +kernel
     have h2:=congrArg (List.map V.str) this;rw [qU] at h2;exact h2)
   rw [ev] at e3;refine ⟨D,_,rfl, .inl (zQ.of e3),rfl,zJr y6,_,rfl,?_⟩;have wl3:=wl.same g3;rw [if_neg (λz=>nomatch z),zFS];by_cases cv:v0∈y6
   ·rw [decide_eq_true cv]
    refine yA ?_;obtain ⟨t1,t2,t3⟩:=zGw v0 cv;refine ⟨_,rfl,l,_,0,_,rfl,rfl,zQ.of wl3.ll,a2,_,rfl,l,_,0,_,rfl,rfl,zQ.of wl3.ll,a2,_,_,rfl,rfl,Zg (by omega),?_⟩;refine ⟨_,rfl,l,_,0,0,rfl,rfl,wl3.ll,zIB (k:=0) (by omega),?_⟩;rw [<-List.map_set,List.set_set];exact hN _ _ ⟨_,_,_,rfl,wl3.set _, .inl ⟨by omega,okS _ t1 t2 (by omega)⟩⟩
   ·rw [decide_eq_false cv]
    exact yF (hN _ _ ⟨_,_,_,rfl,wl3, .inl ⟨by omega,okS _ (zCY cv) m1 (by omega)⟩⟩)
  ·have e1:c % 3≠1:=λy=>ce (decide_eq_true (by show V.int (c % 3)=V.int 1; rw [y]))
   refine hN _ _ ⟨_,_,_,rfl,wl,?_⟩;rcases hw with ⟨e,hs⟩ | ⟨e,hs⟩
   ·exact .inl ⟨by omega,hs⟩
   ·exact .inr ⟨by omega,hs⟩
 clear wl hw
 rintro σ1 H1 ⟨ws,a,sg,rfl,wl,hw⟩;refine zg (λσ' H'=>∃ws a sg b,σ'=[some (.int c),some (.ref R),some (.ref l),some (.str Z5),some (.str sg),a,b,none,none]/\jY H H' R l ws/\S1 ws) (λN hN=>?_) ?_
 ·refine ⟨_,rfl,_,_,rfl,rfl,(by show (0:Int)<3; decide),rfl,_,rfl,zq (λce=>?_) (λce=>?_)⟩
  ·have e2:c % 3=2:=V.int.inj (of_decide_eq_true ce)
   have hi6:=i6 e2;obtain rfl:ws=Zq i:=by
    rcases hw with ⟨e,_⟩ | ⟨_,e⟩
    ·omega
    ·exact e
   refine ⟨(by show 12≤sizeLine; decide),λk hk=>?_⟩;have s1:=zC.new hk (.lst (zAR.map V.str));have ek:upd H1 k (.lst (zAR.map V.str)) k=some (.lst (zAR.map V.str)):=zD;have wl2:=wl.same s1;obtain ⟨j,ej⟩:∃j:Nat,c / 18 % 12=j:=⟨(c / 18 % 12).toNat,by have:0≤c / 18 % 12:=XZ _ (by decide); omega⟩;have j12:j<12:=by have:c / 18 % 12<12:=Int.emod_lt_of_pos _ (by decide); omega
   refine ⟨_,rfl,_,rfl,_,_,rfl,rfl,⟨by decide,by decide⟩,_,_,rfl,rfl,(by show (0:Int)<12; decide),k,zAR.map V.str,_,_,rfl,rfl,zQ.of ek,by rw [ej]; exact zAn (ws:=zAR) j12,?_⟩;refine ⟨_,rfl,1,rfl,l,_,-1,_,rfl,rfl,wl2.ll,zGK (by omega),?_⟩;rw [<-List.map_set,zEA (by omega)];refine hN _ _ ⟨_,_,_,_,rfl,wl2.set _,λu hu=>?_,?_,?_, .inr (.inr ⟨i,j,hi6,j12,rfl⟩)⟩
   ·rcases qO.mp hu with h | h
    ·exact ⟨(rf u (List.dropLast_subset _ h)).1,by have:=(rf u (List.dropLast_subset _ h)).2; omega⟩
    ·rw [qH.mp h]
     have:∀j<12,32∉(zAR.getD j Str.empty).cps.toList/\(zAR.getD j Str.empty).length≤30:=by decide +kernel
     exact this j j12
   ·rw [qI,List.length_dropLast,XB]
    omega
   ·rw [qI,List.length_dropLast,XB]
    omega
  ·have e2:c % 3≠2:=λy=>ce (decide_eq_true (by show V.int (c % 3)=V.int 2; rw [y]))
   refine hN _ _ ⟨_,_,_,_,rfl,wl,?_⟩;rcases hw with ⟨_,hs⟩ | ⟨e,_⟩
   ·exact hs
   ·exact absurd e e2
 clear wl hw rf r2 r4 rv rn rp i6
 rintro σ1 H1 ⟨ws,a,sg,b,rfl,wl,hs⟩;refine zg (λσ' H'=>σ'=[some (.int c),some (.ref R),some (.ref l),some (.str Z5),some (.str sg),a,b,some (.int (c / 100000 % 8)),none]/\jY H H' R l ws) (λN hN=>?_) ?_
 ·exact ⟨_,rfl,_,_,rfl,rfl,⟨by decide,by decide⟩,_,_,rfl,rfl,(by show (0:Int)<8; decide),hN _ _ ⟨rfl,wl⟩⟩
 clear wl
 rintro σ1 H1 ⟨rfl,wl⟩;have w0:0≤c / 100000 % 8:=XZ _ (by decide);generalize c / 100000 % 8=wy at w0;refine zg (λσ' H'=>∃ws,σ'=[some (.int c),some (.ref R),some (.ref l),some (.str Z5),some (.str sg),a,b,some (.int wy),none]/\jY H H' R l ws/\S1 ws) (λN hN=>?_) ?_
 ·refine ⟨_,rfl,_,_,rfl,rfl,_,rfl,zq (λce=>?_) (λce=>?_)⟩
  ·have w2:wy<2:=of_decide_eq_true ce
   refine ⟨Z9,λk hk=>?_⟩;have wl2:=wl.same (zC.new hk (.lst [.str (Str.ofString ""), .str (Str.ofString "abcdefghi")]));obtain ⟨x,hx,hb⟩:∃x:Str,YB [V.str (Str.ofString ""), .str (Str.ofString "abcdefghi")] wy=some (.str x)/\(Jc x=false/\32∉x.cps.toList/\x.length≤30):=by
    rcases (show wy=0\/wy=1 by omega) with rfl | rfl
    ·exact ⟨Str.ofString "",rfl,by decide +kernel⟩
    ·exact ⟨Str.ofString "abcdefghi",rfl,by decide +kernel⟩
   refine ⟨_,rfl,k,_,_,_,rfl,rfl,zQ.of zD,hx,?_⟩;refine ⟨_,rfl,l,_,1,1,rfl,rfl,wl2.ll,zIB (k:=1) hs.2.1,?_⟩;rw [<-List.map_set];exact hN _ _ ⟨_,rfl,wl2.set _,hs.name hb.2 hb.1 hs.plan3⟩
  ·exact hN _ _ ⟨_,rfl,wl,hs⟩
 clear wl hs
 rintro σ1 H1 ⟨ws,rfl,wl,hs⟩;have fin1:∀{ws:List Str},S1 ws->(∀u∈ws,u.length≤30)/\ws.length≤5:=λh=>⟨λu hu=>(h.1 u hu).2,qK h.2.2.1 (by decide)⟩
 refine zg (λσ' H'=>∃ws,σ'=[some (.int c),some (.ref R),some (.ref l),some (.str Z5),some (.str sg),a,b,some (.int wy),none]/\jY H H' R l ws/\((wy=2/\Bad ws/\(∀u∈ws,u.length≤30)/\2≤ws.length/\ws.length≤5)\/(wy≠2/\S1 ws))) (λN hN=>?_) ?_
 ·have a0:YB (ws.map V.str) 0=some (.str (ws.getD 0 Str.empty)):=zAn (k:=0) (by have:=hs.2.1; omega)
  refine ⟨_,rfl,rfl,_,rfl,zq (λce=>?_) (λce=>?_)⟩
  ·have e2:wy=2:=V.int.inj (of_decide_eq_true ce)
   refine ⟨_,rfl,l,_,0,_,rfl,rfl,zQ.of wl.ll,a0,rfl,_,rfl,zq (λcp=>?_) (λcp=>?_)⟩
   ·have np:ws.getD 0 Str.empty≠Str.ofString "plan":=λy=>by
     rw [QQ,decide_eq_false_iff_not] at cp;exact cp (by rw [y])
    refine ⟨_,rfl, .inl ⟨rfl,_,zQ.of wl.ll⟩,l,_,_,rfl,rfl,wl.ll,by rw [qA]; exact ZW (by have:=hs.2.2.1; omega),?_⟩;rw [show ws.map V.str++[V.str (Str.ofString "1")]=(ws++[Str.ofString "1"]).map V.str from by rw [qS]; rfl];refine hN _ _ ⟨_,rfl,wl.set _, .inl ⟨e2,hs.more np,λu hu=>?_,?_,?_⟩⟩
    ·rcases qO.mp hu with h | h
     ·exact (hs.1 u h).2
     ·rw [qH.mp h]
      decide +kernel
    ·rw [qI]
     have:=hs.2.1;omega
    ·rw [qI,XB]
     have:=hs.2.2.1;omega
   ·exact hN _ _ ⟨_,rfl,wl, .inl ⟨e2,hs.bad,(fin1 hs).1,hs.2.1,(fin1 hs).2⟩⟩
  ·exact yF (hN _ _ ⟨_,rfl,wl, .inr ⟨λy=>ce (decide_eq_true (by rw [y])),hs⟩⟩)
 clear wl hs
 rintro σ1 H1 ⟨ws,rfl,wl,hs⟩;refine zg (λσ' H'=>∃ws,σ'=[some (.int c),some (.ref R),some (.ref l),some (.str Z5),some (.str sg),a,b,some (.int wy),none]/\jY H H' R l ws/\(∃vs,Bad vs/\Str.join (zW 32) ws=Str.join (zW 32) vs)/\(∀u∈ws,u.length≤30)/\ws.length≤5) (λN hN=>?_) ?_
 ·have l2:2≤ws.length:=by
   rcases hs with ⟨_,_,_,h,_⟩ | ⟨_,h⟩
   ·exact h
   ·exact h.2.1
  have a0:YB (ws.map V.str) 0=some (.str (ws.getD 0 Str.empty)):=zAn (k:=0) (by omega);have plain:jY H H1 R l ws->_:=λw=>hN _ _ ⟨ws,rfl,w,by
   rcases hs with ⟨_,hb,_⟩ | ⟨_,h⟩
   ·exact ⟨ws,hb,rfl⟩
   ·exact ⟨ws,h.bad,rfl⟩,by
   rcases hs with ⟨_,_,hb,_⟩ | ⟨_,h⟩
   ·exact hb
   ·exact (fin1 h).1,by
   rcases hs with ⟨_,_,_,_,hb⟩ | ⟨_,h⟩
   ·exact hb
   ·exact (fin1 h).2⟩
  refine ⟨_,rfl,rfl,_,rfl,zq (λce=>?_) (λce=>?_)⟩
  ·have e3:wy=3:=V.int.inj (of_decide_eq_true ce)
   have hs1:S1 ws:=by
    rcases hs with ⟨e,_⟩ | ⟨_,h⟩
    ·omega
    ·exact h
   refine ⟨_,rfl,l,_,rfl, .inl (zQ.of wl.ll),_,_,rfl,rfl,_,rfl,zq (λcl=>?_) (λcl=>?_)⟩
   ·have l3:2<ws.length:=by
     have:(2:Int)<((ws.map V.str).length:Nat):=of_decide_eq_true cl;rw [qA] at this;omega
    refine ⟨_,rfl,l,_,0,_,rfl,rfl,zQ.of wl.ll,a0,rfl,_,rfl,zq (λcp=>?_) (λcp=>?_)⟩
    ·have np:ws.getD 0 Str.empty≠Str.ofString "plan":=λy=>by
      rw [QQ,decide_eq_false_iff_not] at cp;exact cp (by rw [y])
     refine ⟨_,rfl,1,rfl,l,_,-1,_,rfl,rfl,wl.ll,zGK (by omega),?_⟩;rw [<-List.map_set,zEA (by omega)];refine hN _ _ ⟨_,rfl,wl.set _,hs1.last l3 np,λu hu=>?_,?_⟩
     ·rcases qO.mp hu with h | h
      ·exact (hs1.1 u (List.dropLast_subset _ h)).2
      ·rw [qH.mp h]
       decide +kernel
     ·rw [qI,List.length_dropLast,XB]
      have:=hs1.2.2.1;omega
    ·exact plain wl
   ·exact yF (plain wl)
  ·exact yF (plain wl)
 clear wl hs
 rintro σ1 H1 ⟨ws,rfl,wl,hb,hl30,hl5⟩;refine zg (λσ' H'=>∃l ws x y z,σ'=[some (.int c),some (.ref R),some (.ref l),some (.str Z5),x,y,b,some (.int wy),z]/\zC H H'/\H' l=some (.lst (ws.map V.str))/\(∃vs,Bad vs/\Str.join (zW 32) ws=Str.join (zW 32) vs)/\(∀u∈ws,u.length≤30)/\ws.length≤5) (λN hN=>?_) ?_
 ·refine ⟨_,rfl,rfl,_,rfl,zq (λce=>?_) (λce=>?_)⟩
  ·refine ⟨_,rfl,_,_,rfl,rfl,⟨by decide,by decide⟩,_,_,rfl,rfl,(by show (0:Int)<8; decide),?_⟩
   dsimp only [Zi,List.set];obtain ⟨ch2,hm2,ha2⟩:=sgl (c / 1000);refine ⟨_,rfl,_,rfl,_,_,rfl,rfl,⟨by decide,by decide⟩,_,rfl,Z5,rfl,sS,_,_,rfl,rfl,(by obtain ⟨e1,e2⟩:=zAV; omega),Z5,_,ch2,rfl,rfl,sS,ha2,?_⟩;dsimp only [Zi,List.set];have sq:32∉(Str.ofString "squares").cps.toList/\(Str.ofString "squares").length≤10:=by decide +kernel
   have ch2n:ch2≠32:=by
    have:∀c∈Jf,c≠32:=by decide +kernel
    exact this ch2 hm2
   have sx:(Str.ofString "squares").length≤sizeLine:=Zg (by omega);generalize c / 45 % 8=at';obtain ⟨m1,m2⟩:=zFc (x:=Str.ofString "squares") (c:=ch2) (a:=some at') (b:=some (at'+c / 405 % 2)) sq.1 sq.2 ch2n;obtain ⟨b1,_,_⟩:=zEi (a:=Txt.slice (Str.ofString "squares") none (some at')) (b:=Txt.slice (Str.ofString "squares") (some (at'+c / 405 % 2)) none) hm2 (Yg sq.1) (Yg sq.1);have hs2:(⟨#[ch2]⟩:Str).length=1:=rfl;have hs3:(zW ch2).length=1:=rfl;have l1:=m2;rw [Ze] at l1;have l2:=l1;rw [Ze] at l2;refine ⟨_,rfl,_,rfl,_,rfl,sx,_,rfl,_,_,rfl,rfl,Zg (by omega),_,rfl,_,rfl,_,_,rfl,rfl,⟨by decide,by decide⟩,_,_,rfl,rfl,(by show (0:Int)<2; decide),_,_,rfl,rfl,_,rfl,_,rfl,sx,_,_,rfl,rfl,Zg (by rw [Ze]; omega),?_⟩;dsimp only [Zi,List.set];show zBg _ _ _ [_,_,_,_,_,_,_,_,some (.str (Txt.slice (Str.ofString "squares") none (some at')++zW ch2++Txt.slice (Str.ofString "squares") (some (at'+c / 405 % 2)) none))] _;generalize Txt.slice (Str.ofString "squares") none (some at')++zW ch2++Txt.slice (Str.ofString "squares") (some (at'+c / 405 % 2)) none=kd at m1 m2 b1 ⊢;refine ⟨_,rfl,(by show 4≤sizeLine; decide),λk hk=>?_⟩;refine hN _ _ ⟨k,[Str.ofString "kind",Str.ofString "abcdefgh",kd,Str.ofString "3"],_,_,_,rfl,wl.g.trans (zC.new hk _),zD,⟨[Str.ofString "kind",Str.ofString "abcdefgh",kd,Str.ofString "3"],⟨λu hu=>?_, .inl ⟨(by show Str.ofString "kind"≠_; decide +kernel),(λz=>nomatch z),?_⟩⟩,rfl⟩,λu hu=>?_,(by show 4≤5; decide)⟩
   ·simp only [qG,QZ,or_false] at hu
    rcases hu with rfl | rfl | rfl | rfl
    ·decide +kernel
    ·decide +kernel
    ·exact m1
    ·decide +kernel
   ·cases e:yY [Str.ofString "kind",Str.ofString "abcdefgh",kd,Str.ofString "3"] with
    | false=>rfl
    | true=>
     obtain ⟨fs,e1,_,hf⟩:=Jg e;rw [show ZS ([Str.ofString "kind",Str.ofString "abcdefgh",kd,Str.ofString "3"].getD 0 Str.empty)=some [0,1,2] from (by decide +kernel:ZS (Str.ofString "kind")=some [0,1,2])] at e1;cases e1;have:=hf 1 (by decide);exact absurd (show smB kd=true from this) (by rw [b1]; decide)
   ·simp only [qG,QZ,or_false] at hu
    rcases hu with rfl | rfl | rfl | rfl
    ·decide +kernel
    ·decide +kernel
    ·omega
    ·decide +kernel
  ·exact hN _ _ ⟨l,ws,_,_,_,rfl,wl.g,wl.ll,hb,hl30,hl5⟩
 clear wl hb hl30 hl5
 rintro σ1 H1 ⟨l',ws,x,y,z,rfl,g,hl,⟨vs,bv,ej⟩,hl30,hl5⟩;have hsum:=Jr (l:=ws.map (·.length)) (B:=30) λn hn=>by
  obtain ⟨u,hu,rfl⟩:=qY.mp hn;exact hl30 u hu
 rw [qA] at hsum;have jo:JoinOk (Str.ofString " ") ws=true:=joinOk_of_weight (by omega) (by decide);refine ⟨rfl,_,rfl,_,l',ws,rfl,rfl,zQ.of hl,jo,?_⟩;have ee:Txt.join (Str.ofString " ") ws=Str.join (zW 32) ws:=by
  rw [<-zDf];exact StrLaws.glued_eq_join _ _
 rw [ee];refine q _ _ g ?_ (by rw [ej]; exact zNj bv);have key:∀ws:List Str,(Str.join (zW 32) ws).length≤(ws.map (·.length)).sum+ws.length:=by
  intro ws
  induction ws with
  | nil=>decide
  | cons x r ih=>
   cases r with
   | nil=>show x.length≤_; simp
   | cons y r=>
    have:=congrArg List.length (ZZ 32 x y r);rw [qJ,qI,qL,qJ,qJ] at this;have i2:(Str.join (zW 32) (y::r)).cps.size≤((y::r).map (·.length)).sum+(y::r).length:=ih;show (Str.join (zW 32) (x::y::r)).cps.size≤_;rw [this,qQ,List.sum_cons,qL];have:x.length=x.cps.size:=rfl;omega
 have:=key ws;omega
end
theorem zFh {CD C:Addr} {σ:L2.St} {H:Hp} {E:XK} {N:V->Hp->Prop} (h:∀(x dx D:Addr) (H':Hp),zC H H'->H x=none->H D=none->Yx H' CD C x dx D []->N (.ref x) H'):zHW CD (zHd CD) [] E Jp σ H N:=by
 intro x dx hx hdx ne;refine ⟨x,dx,rfl,zD,λD H1 ex nD e1 e2=>⟨rfl,?_⟩⟩;have hx1:(upd H dx (.own x)) x=none:=by rw [zI (Ne.symm ne)]; exact hx
 have g:zC H (upd (upd H dx (.own x)) x (.ins CD dx [])):=(zC.new hdx _).trans (zC.new hx1 _);refine h x dx D H1 (λb o hb=>ex b o (zJ hb hx) (g _ _ hb)) hx ?_ ⟨e1,e2,λ_ z=>nomatch z⟩;cases e:H D with
 | none=>rfl
 | some o=>rw [g _ _ e] at nD; cases nD
abbrev tA:Str:=Str.ofString "1 2 3: 3 5"
abbrev tB8:Str:=Str.ofString "1 2 3 4 5 6 7 8 9 10: 2 4 6 8 10 12 14 16 18 20"
abbrev tC8:Str:=Str.ofString "7:"
abbrev plT:List (Str×Str):=[(Str.ofString "a",tA),(Str.ofString "abcdefgh",tB8),(Str.ofString "b",tC8)]
abbrev jw:List (ze×V):=plT.map λe=>(Sum.inr e.1, .str e.2)
theorem zIl:J4 [] jw=jw:=by decide +kernel
theorem zDe:∀i<3,(λ(e:Str×Str) (p:zAM)=>p.1=e.1/\Zb (Str.ofString "plan "++e.1++Str.ofString " "++e.2)=[Str.ofString "plan",e.1,e.2]/\jW (Str.ofString "plan "++e.1++Str.ofString " "++e.2)=true/\wrT e.2=true/\jm p.2.1 p.2.2=e.2/\(Str.ofString "plan "++e.1++Str.ofString " "++e.2).length≤570/\
  (∀x∈p.2.1,0≤x/\x<1000)/\(∀x∈p.2.2,0≤x/\x<1000)/\p.2.1≠[]/\(∀q∈yK.take i,q.1≠e.1)) (plT.getD i (Str.empty,Str.empty)) (yK.getD i (Str.empty,[],[])):=by decide +kernel
theorem zRe {t:Str} {ns ss:List Int} (hw:wrT t=true) (e:jm ns ss=t) (hn:∀x∈ns,0≤x) (hs:∀x∈ss,0≤x) (ne:ns≠[]):RdT t (some (ns,ss)):=by
 obtain ⟨r,hr⟩:=zGi t;have:=zGu hr;rw [hw] at this;cases r with
 | none=>cases this
 | some p=>
  obtain ⟨ns',ss'⟩:=p;obtain ⟨b1,_⟩:=zBF hr;obtain ⟨p1,p2,p3⟩:=JR hr;obtain ⟨rfl,rfl⟩:=zDt hn p1 hs p2 ne p3 (e.trans b1.symm);exact hr
theorem jE {ns:List Int} (h:∀x∈ns,0≤x/\x<1000):Wid ns:=λx hx=>by
 have:=h x hx;have h2:x.natAbs<10^3:=by omega
 exact qP h2 (XH (by decide) (by decide))
theorem zCZ:∀i<3,(λ(e:Str×Str) (p:zAM)=>yY (Zb (Str.ofString "show "++e.1))=true/\(Zb (Str.ofString "show "++e.1)).getD 0 Str.empty=Str.ofString "show"/\(Zb (Str.ofString "show "++e.1)).getD 1 Str.empty=e.1/\Y6 yK e.1=some p.2/\(Str.ofString "show "++e.1).length≤570) (plT.getD i (Str.empty,Str.empty)) (yK.getD i (Str.empty,[],[])):=by decide +kernel
theorem zNR:js (Str.ofString "show")=tlW:=by
 unfold js;rw [if_neg (by decide +kernel),if_neg (by decide +kernel),if_neg (by decide +kernel),if_neg (by decide +kernel),if_neg (by decide +kernel),if_neg (by decide +kernel)]
theorem zIO {i:Nat} (hi:i<3):YH yK (Zb (Str.ofString "show "++(plT.getD i (Str.empty,Str.empty)).1)) (plT.getD i (Str.empty,Str.empty)).2:=by
 obtain ⟨a,b,c,d,_⟩:=zCZ i hi;obtain ⟨_,_,_,_,e,_,hn,hs,_⟩:=zDe i hi;refine ⟨a,_,by rw [c]; exact d, .inl ⟨by rw [b]; decide +kernel,?_⟩⟩;rw [b,zNR];exact ⟨jE hn,jE hs,e.symm⟩
theorem zGG:js (Str.ofString "rows")=tlN λns ss=>YM ns ss false:=by
 unfold js;rw [if_pos rfl]
theorem zLC:js (Str.ofString "rings")=tlN jN:=by
 unfold js;rw [if_neg (by decide +kernel),if_pos rfl]
theorem zIb:js (Str.ofString "row")=tlR false:=by
 unfold js;rw [if_neg (by decide +kernel),if_neg (by decide +kernel),if_pos rfl]
theorem zNq:js (Str.ofString "ring")=tlR true:=by
 unfold js;rw [if_neg (by decide +kernel),if_neg (by decide +kernel),if_neg (by decide +kernel),if_pos rfl]
theorem zGq:js (Str.ofString "longest")=tlL:=by
 unfold js;rw [if_neg (by decide +kernel),if_neg (by decide +kernel),if_neg (by decide +kernel),if_neg (by decide +kernel),if_pos rfl]
theorem zEt:js (Str.ofString "cut")=tlC:=by
 unfold js;rw [if_neg (by decide +kernel),if_neg (by decide +kernel),if_neg (by decide +kernel),if_neg (by decide +kernel),if_neg (by decide +kernel),if_pos rfl]
abbrev pA:List Int×List Int:=([1,2,3],[3,5])
abbrev pB8:List Int×List Int:=([1,2,3,4,5,6,7,8,9,10],[2,4,6,8,10,12,14,16,18,20])
abbrev pC8:List Int×List Int:=([7],[])
theorem Y0 {z v nm ans:Str} {p:List Int×List Int} (h:yY (Zb z)=true/\(Zb z).getD 0 Str.empty=v/\(Zb z).getD 1 Str.empty=nm/\Y6 yK nm=some p/\v∈Yp) (t:js v p.1 p.2 ans):YH yK (Zb z) ans:=by
 obtain ⟨a,b,c,d,e⟩:=h;exact ⟨a,p,by rw [c]; exact d, .inl ⟨by rw [b]; exact e,by rw [b]; exact t⟩⟩
theorem zFr:YH yK (Zb (Str.ofString "rows a")) (Str.ofString "2"):=Y0 (v:=Str.ofString "rows") (nm:=Str.ofString "a") (p:=pA) (by decide +kernel) (by rw [zGG]; exact (by decide +kernel:YM pA.1 pA.2 false<10^30/\Str.ofString "2"=ZF (YM pA.1 pA.2 false:Nat)))
theorem zFX:YH yK (Zb (Str.ofString "rings a")) (Str.ofString "0"):=Y0 (v:=Str.ofString "rings") (nm:=Str.ofString "a") (p:=pA) (by decide +kernel) (by rw [zLC]; exact (by decide +kernel:jN pA.1 pA.2<10^30/\Str.ofString "0"=ZF (jN pA.1 pA.2:Nat)))
theorem zHP:YH yK (Zb (Str.ofString "row a")) (Str.ofString "1 2 3"):=Y0 (v:=Str.ofString "row") (nm:=Str.ofString "a") (p:=pA) (by decide +kernel) (by
 rw [zIb];have e:zFN pA.1 pA.2 false=[1,2,3]:=by decide +kernel
 exact .inr ⟨by decide +kernel,by rw [e]; exact ⟨jE (by decide),by decide⟩,by rw [e]; decide +kernel⟩)
theorem zFu:YH yK (Zb (Str.ofString "ring a")) (Str.ofString "none"):=Y0 (v:=Str.ofString "ring") (nm:=Str.ofString "a") (p:=pA) (by decide +kernel) (by
 rw [zNq];exact .inl ⟨by decide +kernel,rfl⟩)
theorem zCx:YH yK (Zb (Str.ofString "longest a")) (Str.ofString "1 2 3"):=Y0 (v:=Str.ofString "longest") (nm:=Str.ofString "a") (p:=pA) (by decide +kernel) (by
 rw [zGq];have e:Rh.zEW pA.1 pA.2=[1,2,3]:=by decide +kernel
 exact ⟨by rw [e]; exact ⟨jE (by decide),by decide⟩,by rw [e]; decide +kernel⟩)
theorem zHK:YH yK (Zb (Str.ofString "nth a 1")) (Str.ofString "3 2 1"):=by
 have e:yY (Zb (Str.ofString "nth a 1"))=true/\(Zb (Str.ofString "nth a 1")).getD 0 Str.empty=Str.ofString "nth"/\Y6 yK ((Zb (Str.ofString "nth a 1")).getD 1 Str.empty)=some pA/\(ZT ((Zb (Str.ofString "nth a 1")).getD 2 Str.empty)).toNat=1:=by decide +kernel
 obtain ⟨a,b,c,d⟩:=e;have r:zDV pA.1 pA.2 1=[3,2,1]:=by decide +kernel
 refine ⟨a,pA,c, .inr ⟨b,?_,?_,?_⟩⟩
 ·rw [d]
  decide +kernel
 ·rw [d,r]
  exact ⟨jE (by decide),by decide⟩
 ·rw [d,r]
  decide +kernel
theorem zFB:YH yK (Zb (Str.ofString "rows abcdefgh")) (Str.ofString "0"):=Y0 (v:=Str.ofString "rows") (nm:=Str.ofString "abcdefgh") (p:=pB8) (by decide +kernel) (by rw [zGG]; exact (by decide +kernel:YM pB8.1 pB8.2 false<10^30/\Str.ofString "0"=ZF (YM pB8.1 pB8.2 false:Nat)))
theorem zHq:YH yK (Zb (Str.ofString "row b")) (Str.ofString "7"):=Y0 (v:=Str.ofString "row") (nm:=Str.ofString "b") (p:=pC8) (by decide +kernel) (by
 rw [zIb];have e:zFN pC8.1 pC8.2 false=[7]:=by decide +kernel
 exact .inr ⟨by decide +kernel,by rw [e]; exact ⟨jE (by decide),by decide⟩,by rw [e]; decide +kernel⟩)
namespace Ct
theorem zFW {α:Type} [DecidableEq α]:∀{xs ys:List α},xs.Nodup->(∀x∈xs,x∈ys)->xs.length≤ys.length
 | [],_,_,_=>QG _
 | x::xs,ys,nd,h=>by
  obtain ⟨h1,nd'⟩:=xF.mp nd;have hx:=h x qD;have ih:=zFW (ys:=ys.erase x) nd' λy hy=>(List.mem_erase_of_ne (λe:y=x=>h1 (e▸hy))).mpr (h y (qF _ hy))
  rw [List.length_erase_of_mem hx] at ih;have:0<ys.length:=List.length_pos_of_mem hx;rw [qL];omega
def lnk (ss:List Int):List Int->Bool
 | x::y::r=>y7 ss x y&&lnk ss (y::r)
 | _=>true
theorem zGc {ss L:List Int}:∀(r:List Int) (x:Int),(∀y∈x::r,y∈L)->lnk ss (x::r)=true->∀y∈x::r,Zr ss L x y
 | [],x,hL,_,y,hy=>by
  rw [qH.mp hy];exact .here (hL x qD)
 | z::r,x,hL,hk,y,hy=>by
  rw [lnk,qM] at hk;rcases qG.mp hy with e | h
  ·rw [e]
   exact .here (hL x qD)
  ·exact (Zr.on (.here (hL x qD)) (hL z (qF _ qD)) hk.1).trans (zGc r z (λy h=>hL y (qF _ h)) hk.2 y h)
theorem zDL {ss L r:List Int} {x:Int} (up:(x::r).Pairwise (·<·)) (hL:∀y∈x::r,y∈L) (hk:lnk ss (x::r)=true) (cl:∀a∈x::r,∀b∈L,y7 ss a b=true->b∈x::r):jc ss L (x::r):=
 ⟨up,x,qD,λy=>⟨λh=>zGc r x hL hk y h,λh=>Zr.stay (S:=(·∈x::r)) (λa b ha hb e=>cl a ha b hb e) h qD⟩⟩
theorem zNb (ss L:List Int):zCF ss L≤L.length:=by
 unfold zCF
 split
 ·rename_i h
  have p:=Classical.choose_spec h;have nd:((Classical.choose h).map λp=>p.headD 0).Nodup:=p.up.imp λh=>Int.ne_of_lt h
  have:=zFW nd λx hx=>by
   obtain ⟨q,hq,rfl⟩:=qY.mp hx;exact (((p.each q hq).all (p.each q hq).hd _).mp (p.each q hq).hd).l
  rw [qA] at this;exact this
 ·exact QG _
theorem zQb:zCF [3,5] [1,2,3]=1:=zDB (rs:=[[1,2,3]]) ⟨λp hp=>by
  rw [qH.mp hp];exact zDL (by decide) (by decide) (by decide) (by decide),by decide,by decide⟩
theorem zPn:zCF [2,4,6,8,10,12,14,16,18,20] [1,2,3,4,5,6,7,8,9,10]=2:=zDB (rs:=[[1,3,5,7,9],[2,4,6,8,10]]) ⟨λp hp=>by
  rcases qG.mp hp with e | hp
  ·rw [e]
   exact zDL (by decide) (by decide) (by decide) (by decide)
  ·rw [qH.mp hp]
   exact zDL (by decide) (by decide) (by decide) (by decide),by decide,by decide⟩
theorem zGf {ns ss cs:List Int} (h:(ns.filter λx=> !cs.contains x).length<cs.length+2):¬JK ns ss cs=true:=λz=>by
 unfold JK at z;rw [qM,decide_eq_true_eq,decide_eq_true_eq] at z;have:=zNb ss (ns.filter λx=> !cs.contains x);omega
theorem zQO:ji [1,2,3] [3,5]=none:=by
 unfold ji;rw [xW];have e:((List.range 4).flatMap λk=>Zw k [1,2,3])=[[],[1],[2],[3],[1,2],[1,3],[2,3],[1,2,3]]:=by decide
 rw [e];intro cs hc;rcases qG.mp hc with rfl | hc
 ·intro z
  unfold JK at z;rw [qM,decide_eq_true_eq,decide_eq_true_eq,show ([1,2,3].filter λx:Int=> !([]:List Int).contains x)=[1,2,3] from rfl,zQb] at z;exact absurd z.2 (by decide)
 ·have:∀cs∈[[1],[2],[3],[1,2],[1,3],[2,3],[1,2,3]],([1,2,3].filter λx:Int=> !cs.contains x).length<cs.length+2:=by decide
  exact zGf (this cs hc)
theorem zNE:ji [1,2,3,4,5,6,7,8,9,10] [2,4,6,8,10,12,14,16,18,20]=some []:=by
 unfold ji;have e:((List.range 4).flatMap λk=>Zw k [1,2,3,4,5,6,7,8,9,10])=[]::(([1,2,3].flatMap λk=>Zw k [1,2,3,4,5,6,7,8,9,10])):=rfl;rw [e,QN];have s:JK [1,2,3,4,5,6,7,8,9,10] [2,4,6,8,10,12,14,16,18,20] []=true:=by
  unfold JK;rw [show ([1,2,3,4,5,6,7,8,9,10].filter λx:Int=> !([]:List Int).contains x)=[1,2,3,4,5,6,7,8,9,10] from rfl,zPn];rfl
 rw [s]
theorem zMg:ji [7] []=none:=by
 unfold ji;rw [xW];have e:((List.range 4).flatMap λk=>Zw k [7])=[[],[7]]:=by decide
 rw [e];intro cs hc;have:∀cs∈[[],[7]],([7].filter λx:Int=> !cs.contains x).length<cs.length+2:=by decide
 exact zGf (this cs hc)
end Ct
theorem zHF:YH yK (Zb (Str.ofString "cut a")) (Str.ofString "none"):=Y0 (v:=Str.ofString "cut") (nm:=Str.ofString "a") (p:=pA) (by decide +kernel) (by
 rw [zEt];exact .inl ⟨Ct.zQO,rfl⟩)
theorem zGB:YH yK (Zb (Str.ofString "cut abcdefgh")) (Str.ofString "all"):=Y0 (v:=Str.ofString "cut") (nm:=Str.ofString "abcdefgh") (p:=pB8) (by decide +kernel) (by
 rw [zEt];exact .inr (.inl ⟨Ct.zNE,rfl⟩))
theorem zGn:YH yK (Zb (Str.ofString "cut b")) (Str.ofString "none"):=Y0 (v:=Str.ofString "cut") (nm:=Str.ofString "b") (p:=pC8) (by decide +kernel) (by
 rw [zEt];exact .inl ⟨Ct.zMg,rfl⟩)
abbrev zCz:Stmt:=top 115
abbrev zHn:Stmt:=top 109
structure BtL (mg:Str->Option Value):Prop extends Bt3 mg where
 abs:mg "abs"=none
def zJq (K:W.Frag):Sp:=λvs H Q _=>∃(a:Addr) (ns:List Int) (k:Int),vs=[.ref a, .int k]/\zQ K H a (ns.map V.int)/\0≤k/\k<100/\∀r:Int,Q (.int r) H
def zEb (K:W.Frag):Sp:=λvs H Q _=>∃(a:Addr) (ns:List Int),vs=[.ref a]/\zQ K H a (ns.map V.int)/\ns.length≤63/\∀H',Q (.bl true) H'
theorem zOE {K:W.Frag} {H:Hp} {a b:Addr} {c:Bool} {z:Str} (h1:H a=some (.lst [.bl c, .str z])) (h2:H b=some (.lst [.bl c, .str z])):jy K H (.ref a) (.ref b) true:=
 zFk (ds:=[.bool c, .str z]) rfl h1 (.cons (.bl c) (.cons (.str z) .nil)) h2 (.cons (.bl c) (.cons (.str z) .nil))
theorem zBl {H:Hp}:∀ws:List Str,ZK H (ws.map V.str) (ws.map PyData.str)
 | []=> .nil
 | x::r=> .cons (.str x) (zBl r)
theorem zAc {K:W.Frag} {H:Hp} {a b:Addr} {ws:List Str} (h1:H a=some (.lst (ws.map V.str))) (h2:H b=some (.lst (ws.map V.str))):jy K H (.ref a) (.ref b) true:=
 zFk (ds:=ws.map PyData.str) (by rw [List.all_map]; exact QM.mpr λ_ _=>rfl) h1 (zBl ws) h2 (zBl ws)
abbrev jM:List Str:=[Str.ofString "a",Str.ofString "abcdefgh",Str.ofString "b"]
theorem up3:UpS jM:=by
 unfold UpS;decide +kernel
abbrev zCQ:List Str:=["rows a","rings a","row a","ring a","longest a","cut a","nth a 1"].map Str.ofString
abbrev zCr:List Str:=["2","0","1 2 3","none","1 2 3","none","3 2 1"].map Str.ofString
abbrev zCX:List Str:=["rows abcdefgh","cut abcdefgh","row b","cut b"].map Str.ofString
abbrev zDK:List Str:=["0","all","7","none"].map Str.ofString
theorem zQs:∀j,j<7->YH yK (Zb (zCQ.getD j Str.empty)) (zCr.getD j Str.empty)/\(zCQ.getD j Str.empty).length≤570
 | 0,_=>⟨zFr,by decide +kernel⟩
 | 1,_=>⟨zFX,by decide +kernel⟩
 | 2,_=>⟨zHP,by decide +kernel⟩
 | 3,_=>⟨zFu,by decide +kernel⟩
 | 4,_=>⟨zCx,by decide +kernel⟩
 | 5,_=>⟨zHF,by decide +kernel⟩
 | 6,_=>⟨zHK,by decide +kernel⟩
theorem zRL:∀j,j<4->YH yK (Zb (zCX.getD j Str.empty)) (zDK.getD j Str.empty)/\(zCX.getD j Str.empty).length≤570
 | 0,_=>⟨zFB,by decide +kernel⟩
 | 1,_=>⟨zGB,by decide +kernel⟩
 | 2,_=>⟨zHq,by decide +kernel⟩
 | 3,_=>⟨zGn,by decide +kernel⟩
theorem zEo (ws:List Str):((List.range ws.length).map λj=>V.str (ws.getD j Str.empty))=ws.map V.str:=by
 have h:=congrArg (List.map V.str) (rgD ws Str.empty);rw [qU] at h;exact h
theorem zGL:∀i<3,ZP jw (Sum.inr (plT.getD i (Str.empty,Str.empty)).1)=some (.str (plT.getD i (Str.empty,Str.empty)).2):=by decide +kernel
theorem zGg:∀i<3,(jw.map (·.1))[i]?=some (Sum.inr (plT.getD i (Str.empty,Str.empty)).1):=by decide +kernel
theorem zJx:∀i<3,yK.take (i+1)=yK.take i++[yK.getD i (Str.empty,[],[])]:=by decide +kernel
theorem Yx.ex {H H':Hp} {CD C d dx D E:Addr} (h:Yx H CD C d dx D []) (g:Ex (·=E) H H') (kvs:List (ze×V)) (he:H E=some (.dK kvs)) (ne:D≠E):Yx H' CD C d dx D []:=
 ⟨g _ _ (Zc h.d he (λz=>nomatch z)) h.d,g _ _ ne h.D,λ_ z=>nomatch z⟩
section
variable {f:Addr} {fd:FuncData}
theorem zPN:zP ["script","k"] ["script","k"] (zF zHn):=ZA
theorem zNL (F:zm K "_law_cell" "_law_cell" zHn f fd) (B:Bt3 mg):zH P w K mg base zT 1 f fd ["script","k"] (zJq K):=by
 refine F.ok zPN (λvs H Q E h=>?_) (λcdv A outer s H vs Q E hr h=>?_)
 ·obtain ⟨a,ns,k,rfl,_⟩:=h
  rfl
 obtain ⟨a,ns,k,rfl,hS,k0,k1,q⟩:=h;refine ⟨_,(@zE _ _ _ _ _ (zy (zh zBD (pv 1) (zY ZD rfl B.len QB (zA (pv 0) zB)) (zk _)) (@zG _ _ _ (zR (zu ZE (pv 0) (pv 1) (λ_ _=>rfl)))) zf) (@zG _ _ _ (zR (zZ YG (zZ YG (zZ zAA (zZ zAA zK (pv 1)) (pv 1)) (zZ zAA zK (pv 1))) zK)))),?_⟩;have nml:(ns.map V.int).length=ns.length:=qA _;refine ⟨_,rfl,_,rfl,a,_,rfl, .inl hS,_,_,rfl,rfl,_,rfl,zq (λc=>?_) (λc=>?_)⟩
 ·have h1:k<((ns.map V.int).length:Nat):=of_decide_eq_true c
  rw [nml] at h1;obtain ⟨v,hv,_⟩:=zKW ns k0 h1;exact ⟨_,rfl,_,rfl,a,_,_,_,rfl,rfl,hS,hv,q _⟩
 ·exact ⟨_,rfl,_,_,rfl,rfl, .inl ⟨by decide,by decide⟩,_,rfl,_,_,rfl,rfl, .inr ⟨by omega,by omega⟩,_,rfl,_,_,rfl,rfl, .inl ⟨by decide,by decide⟩,_,_,rfl,rfl,_,_,rfl,rfl,q _⟩
theorem yq:zP ["script","desk","other","plans","name","held","every","thing","k","cell","row","due","told","rows"] ["script"] (zF zCz):=ZA
set_option maxHeartbeats 0 in
theorem zPC {CD C gn go gx gc gs gd gi gy gm:Addr} {ndd odd xdd cdd sdd ddd idd ydd mdd:FuncData} {XC:Nat->Addr} (F:zm K "law" "law" zCz f fd) (B:BtL mg) (T1:DkT K CD)
  (GN:zH P w K mg base zT 33 gn ndd [] zIQ) (bN:zL K ndd [] []) (kN:ZC K gn) (mN:mg "_law_none"=some (.ref gn))
  (GO:zH P w K mg base zT 33 go odd [] (zCa K)) (bO:zL K odd [] []) (kO:ZC K go) (mO:mg "_law_others"=some (.ref go))
  (GX:zH P w K mg base zT 33 gx xdd [] (zCa K)) (bX:zL K xdd [] []) (kX:ZC K gx) (mX:mg "_law_texts"=some (.ref gx))
  (GC:zH P w K mg base zT 33 gc cdd ["script","k"] (zJq K)) (bC:zL K cdd ["script","k"] []) (kC:ZC K gc) (mC:mg "_law_cell"=some (.ref gc))
  (GS:zH P w K mg base zT 33 gs sdd ["cell"] zMd) (bS:zL K sdd ["cell"] []) (kS:ZC K gs) (mS:mg "_law_spoilt"=some (.ref gs))
  (GD:zH P w K mg base zT 33 gd ddd ["desk","row"] (zIu K CD C)) (bD:zL K ddd ["desk","row"] []) (kD:ZC K gd) (mD:mg "_law_said"=some (.ref gd))
  (MD:Mk K CD gi) (GI:zH P w K mg base zT 32 gi idd ["self"] (zHd CD)) (mDk:mg "Desk"=some (.ref CD)) (bI:zL K idd ["self"] [])
  (mY:ZH K CD "say" gy) (GY:zH P w K mg base zT 33 gy ydd ["self","row"] (noE (zEQ K CD C XC))) (bY:zL K ydd ["self","row"] [])
  (mM:ZH K CD "names" gm) (GM:zH P w K mg base zT 33 gm mdd ["self"] (zMe CD C)) (bM:zL K mdd ["self"] []):zH P w K mg base zT 34 f fd ["script"] (zEb K):=by
 refine F.ok yq (λvs H Q E h=>?_) (λcdv A outer s H vs Q E hr h=>?_)
 ·obtain ⟨a,ns,rfl,_⟩:=h
  rfl
 obtain ⟨a0,ns0,rfl,hS,h63,q⟩:=h;have hu:=zAZ hr;refine ⟨_,(@zE _ _ _ _ _ (za (i:=1) yq.nd rfl (Or.inr rfl) (zEs MD GI hr rfl mDk bI .nil zO)) (@zE _ _ _ _ _ (za (i:=2) yq.nd rfl (Or.inl rfl) (zEs MD GI hr rfl mDk bI .nil zO)) (@zE _ _ _ _ _ (za (i:=3) yq.nd rfl (Or.inl rfl) (zNN (zBp zV zV (zBp zV zV (zBp zV zV zMz))) rfl rfl (λh=>nomatch h) (by decide))) (Yl.hold (@zE _ _ _ _ _ (jO PassesOwn.never rfl (zGR (pv 3)) (zp (i:=4) yq.nd rfl (Or.inl rfl)) (@zG _ _ _ (ZI (z0 (pv 1) T1.cl mY GY hr bY .nil zO (zA (zZ ZX (zZ ZX (zZ ZX zV (pv 4)) zV) (jd hu (pv 3) (pv 4) (λ_ _=>rfl))) zB))))) (@zE _ _ _ _ _ (za (i:=5) yq.nd rfl (Or.inl rfl) (ZG zB)) (@zE _ _ _ _ _ (za (i:=6) yq.nd rfl (Or.inl rfl) (zZ zo (zZ zo (Za ["row"] rfl (ZY (zF zCz) ["script","desk","other","plans","name","held","every","thing","k","cell","row","due","told","rows"] rfl rfl (by decide +kernel)) (ZM (zBm GN hr rfl mN kN bN .nil zO)) (λpins C fp s3 H3=>⟨(zp (i:=0) (show (Zo ["row"] ["script","desk","other","plans","name","held","every","thing","k","cell","row","due","told","rows"]).Nodup by decide +kernel) rfl (Or.inl rfl)),Zp,(yc (zA (pv 0) (zA zV zB)))⟩)) (zBm GO hr rfl mO kO bO .nil zO)) (zBm GX hr rfl mX kX bX .nil zO))) (@zE _ _ _ _ _ (jO PassesOwn.never rfl (ZM (ZG (zA jH (zA zK (zA (ZG (zA zV zB)) (zA yW (zA (yc (zA zV (zA zV zB))) (zA zEf zB)))))))) (zp (i:=7) yq.nd rfl (Or.inl rfl)) (@zG _ _ _ (ZI (yB QK QW QX yk (pv 6) (zA (yc (zA (pv 7) (zA zV zB))) zB))))) (@zE _ _ _ _ _ (jO PassesOwn.never rfl (zDa rfl B.range (zA (zY (zJf rfl) rfl B.max boot_max (zA zK (zA (zY (zIT rfl) rfl B.min boot_min (zA (zY ZD rfl B.len QB (zA (pv 0) zB)) (zA zK zB))) zB))) zB)) (zp (i:=8) yq.nd rfl (Or.inl rfl)) (@zE _ _ _ _ _ (za (i:=9) yq.nd rfl (Or.inl rfl) (zU GC hr rfl mC kC bC .nil zO (zA (pv 0) (zA (pv 8) zB)))) (@zE _ _ _ _ _ (JU (zu ZE (pv 6) (zZ yG (pv 9) (zY ZD rfl B.len QB (zA (pv 6) zB))) (λ_ _=>rfl)) (zFC rfl (YZ (zp (i:=10) yq.nd rfl (Or.inl rfl)) (YZ (zp (i:=11) yq.nd rfl (Or.inl rfl)) zBK)))) (@zE _ _ _ _ _ (zy (zh ye (zZ yG (zZ yR (pv 9) (zY ZD rfl B.len QB (zA (pv 6) zB))) zK) zK (zk _)) (@zG _ _ _ (zQA (i:=10) (j:=11) rfl yq.nd rfl rfl (by decide) rfl rfl (zA (zU GS hr rfl mS kS bS .nil zO (zA (zZ yR (zY zLe rfl B.abs boot_abs (zA (pv 9) zB)) (zZ zAA zK (zY ZD rfl B.len QB (zA (pv 6) zB)))) zB)) (zA zV zB)) rfl)) zf) (@zE _ _ _ _ _ (zy (PW.pt (Yd (zh (Jb hr.units) (zU GD hr rfl mD kD bD .nil zO (zA (pv 1) (zA (pv 10) zB))) (ZG (zA yW (zA (pv 11) zB))) (zk _)) (YC (zh (Jb hr.units) (YJ (pv 2) T1.cl mM GM hr bM .nil zO) (ZG zB) (zk _))))) (@zG _ _ _ (zR yW)) zf) (@zE _ _ _ _ _ (za (i:=12) yq.nd rfl (Or.inl rfl) (YJ (pv 1) T1.cl mM GM hr bM .nil zO)) (@zE _ _ _ _ _ (zy (zh (Jb hr.units) (pv 12) (ZG (zA zV (zA zV (zA zV zB)))) (zk _)) (@zG _ _ _ (zR yW)) zf) (@zE _ _ _ _ _ (jO PassesOwn.never rfl (zGR (pv 3)) (zp (i:=4) yq.nd rfl (Or.inl rfl)) (@zG _ _ _ (zy (zh zAH (z0 (pv 1) T1.cl mY GY hr bY .nil zO (zA (zZ ZX zV (pv 4)) zB)) (jd hu (pv 3) (pv 4) (λ_ _=>rfl)) (zk _)) (@zG _ _ _ (zR yW)) zf))) (@zE _ _ _ _ _ (zy (PW.pt (zAC (zh (Jb hr.units) (pv 5) (ZG zB) (zk _)) (zBR (zh (Jb hr.units) (zu ZE (pv 5) (zCL zAq zK) (λ_ _=>rfl)) (ZG (zA zV (zA zV (zA zV (zA zV zB))))) (zk _))))) (@zG _ _ _ (zR yW)) zf) (@zE _ _ _ _ _ (ZI (yB QK QW QX yk (pv 12) (zA zV zB))) (@zG _ _ _ (ZI (yB QK QW QX yk (pv 5) (zA (pv 12) zB)))))))))))))) (@zE _ _ _ _ _ (za (i:=13) yq.nd rfl (Or.inl rfl) (ZG (zA zV (zA zV (zA zV (zA zV (zA zV (zA zV (zA zV zB))))))))) (@zE _ _ _ _ _ (za (i:=11) yq.nd rfl (Or.inl rfl) (ZG (zA zV (zA zV (zA zV (zA zV (zA zV (zA zV (zA zV zB))))))))) (@zE _ _ _ _ _ (zy (zh (Jb hr.units) (Za ["row"] rfl (ZY (zF zCz) ["script","desk","other","plans","name","held","every","thing","k","cell","row","due","told","rows"] rfl rfl (by decide +kernel)) (ZM (pv 13)) (λpins C fp s3 H3=>⟨(zp (i:=0) (show (Zo ["row"] ["script","desk","other","plans","name","held","every","thing","k","cell","row","due","told","rows"]).Nodup by decide +kernel) rfl (Or.inl rfl)),Zp,(z0 (pv 2) T1.cl mY GY hr bY .nil zO (zA (pv 0) zB))⟩)) (pv 11) (zk _)) (@zG _ _ _ (zR yW)) zf) (@zE _ _ _ _ _ (J8 ["row"] rfl (ZY (zF zCz) ["script","desk","other","plans","name","held","every","thing","k","cell","row","due","told","rows"] rfl rfl (by decide +kernel)) (ZM (ZG (zA zV (zA zV (zA zV (zA zV zB)))))) (λpins C fp s3 H3=>⟨(zp (i:=0) (show (Zo ["row"] ["script","desk","other","plans","name","held","every","thing","k","cell","row","due","told","rows"]).Nodup by decide +kernel) rfl (Or.inl rfl)),Zp,(z0 (pv 2) T1.cl mY GY hr bY .nil zO (zA (pv 0) zB))⟩) (j:=12) yq.nd rfl (Or.inl rfl) rfl) (@zG _ _ _ (zR (Z4 (zIV hr.units) (pv 12) (ZG (zA zV (zA zV (zA zV (zA zV zB))))) (zk _))))))))))))))))),?_⟩
 refine zg (λσ' H'=>∃d dx D,σ'=[some (.ref a0),some (.ref d),none,none,none,none,none,none,none,none,none,none,none,none]/\zC H H'/\H D=none/\Yx H' CD C d dx D []) (λN hN=>?_) ?_
 ·exact zFh (C:=C) λx dx D H' g hx hD dk=>hN _ _ ⟨x,dx,D,rfl,g,hD,dk⟩
 rintro σ1 H1 ⟨d,dx,D,rfl,g1,nD,dk⟩;refine zg (λσ' H'=>∃o ox O,σ'=[some (.ref a0),some (.ref d),some (.ref o),none,none,none,none,none,none,none,none,none,none,none]/\zC H H'/\Yx H' CD C d dx D []/\Yx H' CD C o ox O []/\O≠D) (λN hN=>?_) ?_
 ·exact zFh (C:=C) λx ox O H' g hx hO dk2=>hN _ _ ⟨x,ox,O,rfl,g1.trans g,dk.same g,dk2,λe=>by rw [e,dk.D] at hO; cases hO⟩
 clear dk g1
 rintro σ1 H1 ⟨o,ox,O,rfl,g1,dk,dk2,OD⟩;refine zg (λσ' H'=>∃p,σ'=[some (.ref a0),some (.ref d),some (.ref o),some (.ref p),none,none,none,none,none,none,none,none,none,none]/\zC H1 H'/\H1 p=none/\H' p=some (.dK jw)) (λN hN=>?_) ?_
 ·refine λp hp=>⟨zD,jw,rfl,(by decide),?_⟩
  rw [zIl];refine hN _ _ ⟨p,rfl,λb o hb=>?_,hp,zD⟩;rw [zI (zJ hb hp),zI (zJ hb hp)];exact hb
 rintro σ2 H2 ⟨p,rfl,g2,np,hp2⟩;refine ⟨p,jw,hp2,λfo=>?_⟩;have g3:zC H1 (upd H2 p (.frz fo (.dK jw))):=λb o hb=>by
  rw [zI (zJ hb np)];exact g2 _ _ hb
 have hp3:upd H2 p (.frz fo (.dK jw)) p=some (.frz fo (.dK jw)):=zD;generalize upd H2 p (.frz fo (.dK jw))=H3 at g3 hp3 ⊢;have dk3:=dk.same g3;have dk23:=dk2.same g3;have gA:=g1.trans g3
 clear g2 hp2 dk dk2 g1
 have pD:p≠D:=λe=>by rw [e,dk3.D] at hp3; cases hp3
 refine zg (λσ' H'=>∃nm es,σ'=[some (.ref a0),some (.ref d),some (.ref o),some (.ref p),nm,none,none,none,none,none,none,none,none,none]/\zC H H'/\Yx H' CD C d dx D es/\Yx H' CD C o ox O []/\H' p=some (.frz fo (.dK jw))/\Yw es=yK) (λN hN=>?_) ?_
 ·refine ⟨_,rfl,p,fo,jw,rfl,hp3,zEd (λi σ' H'=>∃nm es,σ'=[some (.ref a0),some (.ref d),some (.ref o),some (.ref p),nm,none,none,none,none,none,none,none,none,none]/\zC H H'/\Yx H' CD C d dx D es/\Yx H' CD C o ox O []/\H' p=some (.frz fo (.dK jw))/\Yw es=yK.take i) ⟨none,[],rfl,gA,dk3,dk23,hp3,rfl⟩ (λi σ' H' _ ⟨_,_,_,_,_,_,h,_⟩=>h) ?_ ?_⟩
  ·rintro i k σ' H' hk ⟨nm,es,rfl,g,dk,dk2,hp,hes⟩
   have i3:i<3:=(qZ.mp hk).1;rw [zGg i i3] at hk;cases hk;obtain ⟨e1,e2,e3,e4,e5,e6,e7,e8,e9,e10⟩:=zDe i i3;have ev:=zGL i i3;have et:=zJx i i3;generalize plT.getD i (Str.empty,Str.empty)=nt at e1 e2 e3 e4 e5 e6 e10 ev ⊢;generalize yK.getD i (Str.empty,[],[])=pe at e1 e5 e7 e8 e9 et;obtain ⟨n,t⟩:=nt;obtain ⟨n',ns,ss⟩:=pe;have l6:=e6;rw [Ze,Ze,Ze] at l6;have esl:es.length=i:=by
    have:=congrArg List.length hes;rw [qA,xG] at this;have l3:yK.length=3:=rfl;omega
   refine ⟨_,rfl,d,dx,_,rfl,dk.d,rfl,_,rfl,_,_,rfl,rfl,Zg (by omega),_,_,rfl,rfl,Zg (by rw [Ze]; omega),_,rfl,_,rfl,p,_,rfl, .inl ⟨jw,Sum.inr n, .inr ⟨fo,hp⟩,rfl,ev.symm⟩,_,_,rfl,rfl,Zg (by rw [Ze,Ze]; omega),?_⟩;refine ⟨d,dx,D,es,_,rfl,dk, .inr ⟨_,rfl,e6, .inr (.inr ⟨n,t,ns,ss,e2,e3,zRe e4 e5 (λx hx=>(e7 x hx).1) (λx hx=>(e8 x hx).1) e9,λe he=>?_,by omega,λkk H5 ex dk5=>?_⟩)⟩⟩
   ·exact e10 (e.1,e.2.2) (by rw [<-hes]; exact qY.mpr ⟨e,he,rfl⟩)
   ·refine ⟨_,_,rfl,λb o' hb=>ex b o' (zJ hb nD) (g _ _ hb),dk5,dk2.ex ex _ dk.D OD,ex _ _ pD hp,?_⟩
    rw [et,<-hes,show Yw (es++[(n,kk,ns,ss)])=Yw es++Yw [(n,kk,ns,ss)] from qS];have:n'=n:=e1;rw [this];rfl
  ·rintro σ' H' ⟨nm,es,rfl,g,dk,dk2,hp,hes⟩
   exact hN _ _ ⟨nm,es,rfl,g,dk,dk2,hp,hes⟩
 clear dk3 dk23 g3 hp3 gA
 rintro σ3 H4 ⟨nm0,es,rfl,gB,dk,dk2,hp,hes⟩;refine zg (λσ' H'=>∃l,σ'=[some (.ref a0),some (.ref d),some (.ref o),some (.ref p),nm0,some (.ref l),none,none,none,none,none,none,none,none]/\zC H4 H'/\H4 l=none/\H' l=some (.lst [])) (λN hN=>?_) ?_
 ·exact ⟨(by show 0≤sizeLine; decide),λl hl=>hN _ _ ⟨l,rfl,zC.new hl _,hl,zD⟩⟩
 rintro σ3 H5 ⟨l,rfl,g5,nl,hl5⟩;refine zg (λσ' H'=>∃e xs,σ'=[some (.ref a0),some (.ref d),some (.ref o),some (.ref p),nm0,some (.ref l),some (.ref e),none,none,none,none,none,none,none]/\zC H5 H'/\H5 e=none/\H' e=some (.lst xs)/\xs.length≤520/\xs≠[]/\∀v∈xs,Yq K H' v) (λN hN=>?_) ?_
 ·refine ⟨rfl,λl1 H6 g6 n6 e6=>⟨l1,rfl,⟨_,zQ.of e6⟩,λE0 hE0=>?_⟩⟩
  refine zAr (σ:=[some (.ref a0),some (.ref d),some (.ref o),some (.ref p),nm0,some (.ref l),none,none,none,none,none,none,none,none]) (zQ.of e6) hE0 (by rw [zFg]; decide) (λx H' P hx g' hP=>⟨_,rfl,Z9,λt ht=>hP t _ (zC.new ht _) ht (zBG (zMx x hx))⟩) λxs H7 g7 h7 l7 i7=>?_
  rw [zFg] at l7;refine ⟨rfl,λl2 xs2 H8 g8 n8 e8 len8 i8=>⟨E0,l2,_,_,rfl,rfl,g8 _ _ h7,e8,Zg (by omega),λk1 hk1=>?_⟩⟩;have s1:=zC.new hk1 (.lst (xs++xs2));refine ⟨rfl,λl3 xs3 H9 g9 n9 e9 len9 i9=>⟨k1,l3,_,_,rfl,rfl,g9 _ _ zD,e9,Zg (by rw [qI]; omega),λk2 hk2=>?_⟩⟩;have s2:=zC.new hk2 (.lst ((xs++xs2)++xs3));have gg:zC H5 H9:=g6.trans (g7.trans (g8.trans (s1.trans g9)));refine hN _ _ ⟨k2,_,rfl,gg.trans s2,?_,zD,by rw [qI,qI]; omega,λz=>?_,λv hv=>?_⟩
  ·cases e:H5 k2 with
   | none=>rfl
   | some o=>rw [gg _ _ e] at hk2; cases hk2
  ·have:=congrArg List.length z
   rw [qI,qI,l7] at this;simp at this
  ·rcases qO.mp hv with hv | hv
   ·rcases qO.mp hv with hv | hv
    ·exact (((i7 v hv).same g8).same (s1.trans g9)).same s2
    ·exact ((i8 v hv).same (s1.trans g9)).same s2
   ·exact (i9 v hv).same s2
 rintro σ3 H6 ⟨e,xs0,rfl,g6,ne6,he6,le6,nn6,ie6⟩;refine zg (λσ' H'=>∃th xs,σ'=[some (.ref a0),some (.ref d),some (.ref o),some (.ref p),nm0,some (.ref l),some (.ref e),th,none,none,none,none,none,none]/\zC H5 H'/\H' e=some (.lst xs)/\xs.length≤530/\xs≠[]/\∀v∈xs,Yq K H' v) (λN hN=>?_) ?_
 ·refine ⟨(by show 1≤sizeLine; decide),λq1 hq1=>⟨Z9,λq2 hq2=>λq3 hq3=>⟨(by show 6≤sizeLine; decide),λL hL=>?_⟩⟩⟩
  have s1:=zC.new hq1 (.lst [.str (Str.ofString "show a")]);have s2:=zC.new hq2 (.tup [.str (Str.ofString "show"), .str (Str.ofString "a")]);have s3:=zC.new hq3 (.dK []);have s4:=zC.new hL (.lst [.non, .int 0, .ref q1, .bl true, .ref q2, .ref q3]);have gg:zC H6 _:=s1.trans (s2.trans (s3.trans s4));have eq1:=s4 _ _ (s3 _ _ (s2 _ _ (zD (H:=H6) (a:=q1) (o:= .lst [.str (Str.ofString "show a")]))));have eq2:=s4 _ _ (s3 _ _ (zD (H:=upd H6 q1 (.lst [.str (Str.ofString "show a")])) (a:=q2) (o:= .tup [.str (Str.ofString "show"), .str (Str.ofString "a")])));have eq3:=s4 _ _ (zD (H:=upd (upd H6 q1 (.lst [.str (Str.ofString "show a")])) q2 (.tup [.str (Str.ofString "show"), .str (Str.ofString "a")])) (a:=q3) (o:= .dK []));have eL:upd (upd (upd (upd H6 q1 (.lst [.str (Str.ofString "show a")])) q2 (.tup [.str (Str.ofString "show"), .str (Str.ofString "a")])) q3 (.dK [])) L (.lst [.non, .int 0, .ref q1, .bl true, .ref q2, .ref q3]) L=some (.lst [.non, .int 0, .ref q1, .bl true, .ref q2, .ref q3]):=zD
  clear s1 s2 s3 s4 hL hq1 hq2 hq3
  generalize upd (upd (upd (upd H6 q1 (.lst [.str (Str.ofString "show a")])) q2 (.tup [.str (Str.ofString "show"), .str (Str.ofString "a")])) q3 (.dK [])) L (.lst [.non, .int 0, .ref q1, .bl true, .ref q2, .ref q3])=H7 at gg eq1 eq2 eq3 eL ⊢;have he7:=gg _ _ he6;have Le:L≠e:=λz=>by
   rw [z,he7] at eL;have:=HO.lst.inj (Option.some.inj eL);obtain ⟨v,hv⟩:=List.exists_mem_of_ne_nil _ nn6;have m:∀v∈xs0,v≠ .non:=λv hv z=>by
    obtain ⟨_,_,_,h,_⟩:=ie6 v hv;rw [z] at h;cases h
   rw [this] at m;exact m .non qD rfl
  refine ⟨L,rfl,⟨_,zQ.of eL⟩,zAQ (K:=K) (xs:=[.non, .int 0, .ref q1, .bl true, .ref q2, .ref q3]) (λi σ' H'=>∃th xs,σ'=[some (.ref a0),some (.ref d),some (.ref o),some (.ref p),nm0,some (.ref l),some (.ref e),th,none,none,none,none,none,none]/\zC H5 H'/\H' e=some (.lst xs)/\xs.length=xs0.length+i/\xs≠[]/\(∀v∈xs,Yq K H' v)/\H' L=some (.lst [.non, .int 0, .ref q1, .bl true, .ref q2, .ref q3])/\∀v∈[V.non, .int 0, .ref q1, .bl true, .ref q2, .ref q3],zBb K H' v)
   ⟨none,xs0,rfl,g6.trans gg,he7,rfl,nn6,λv hv=>(ie6 v hv).same gg,eL,?_⟩ (λi σ' H' _ ⟨_,_,_,_,_,_,_,_,h,_⟩=>zQ.of h) ?_ ?_⟩
  ·intro v hv
   simp only [qG,QZ,or_false] at hv;rcases hv with rfl | rfl | rfl | rfl | rfl | rfl
   ·exact ⟨_, .non,rfl⟩
   ·exact ⟨_, .int 0,rfl⟩
   ·exact ⟨_, .lst eq1,rfl⟩
   ·exact ⟨_, .bl true,rfl⟩
   ·exact ⟨_, .tup eq2,rfl⟩
   ·exact ⟨_, .dK eq3,rfl⟩
  ·rintro i v σ' H' hv ⟨th,xs,rfl,g,he,lx,nx,ix,hLL,nt⟩
   have mv:v∈[V.non, .int 0, .ref q1, .bl true, .ref q2, .ref q3]:=xA hv;have i6:i<6:=(qZ.mp hv).1;refine ⟨_,rfl, .inl ⟨rfl,_,zQ.of he⟩,_,rfl,Z9,λt ht=>?_⟩;have s1:=zC.new ht (.tup [v, .str (Str.ofString "saying")]);have het:=s1 _ _ he;have it:Yq K (upd H' t (.tup [v, .str (Str.ofString "saying")])) (.ref t):=⟨t,v,11,rfl,by rw [zD,show yz 11=Str.ofString "saying" from by decide +kernel], .inl ⟨(nt v mv).same s1,rfl⟩⟩;refine ⟨e,xs,_,rfl,rfl,het,ZW (by omega),some v,xs++[.ref t],rfl,λb o' hb=>?_,zD,by rw [qI,lx]; rfl,by simp,λu hu=>?_,by rw [zI Le]; exact s1 _ _ hLL,λu hu=>?_⟩
   ·rw [zI (zJ hb ne6)]
    exact s1 _ _ (g _ _ hb)
   ·rcases qO.mp hu with h | h
    ·exact ((ix u h).same s1).upd het
    ·rw [qH.mp h]
     exact it.upd het
   ·obtain ⟨ty,h1,h2⟩:=(nt u hu).same s1
    exact ⟨ty,zFD het h1,h2⟩
  ·rintro σ' H' ⟨th,xs,rfl,g,he,lx,nx,ix,_⟩
   exact hN _ _ ⟨th,xs,rfl,g,he,by rw [lx]; show xs0.length+6≤530; omega,nx,ix⟩
 clear he6 le6 nn6 ie6 g6
 rintro σ3 H7 ⟨th,xs,rfl,g7,he,lx,nx,ix⟩;have el:e≠l:=λz=>by
  rw [z,hl5] at ne6;cases ne6
 have esN:es.map (·.1)=jM:=by
  have h:=congrArg (List.map (·.1)) hes;rw [qU] at h;exact h
 have es3:es.length=3:=by
  have h:=congrArg List.length hes;rw [qA] at h;exact h
 have sml:(ns0.map V.int).length=ns0.length:=qA _;have xl:0<xs.length:=List.length_pos_iff.mpr nx;refine zg (λσ' H'=>∃(y4 th y8 y9 y10 y11 y12:Option V),σ'=[some (.ref a0),some (.ref d),some (.ref o),some (.ref p),y4,some (.ref l),some (.ref e),th,y8,y9,y10,y11,y12,none]/\zC H4 H') (λN hN=>?_) ?_
 ·refine ⟨_,rfl,a0,_,rfl, .inl ((gB.trans (g5.trans g7)).seq hS),_,_,rfl,_,_,rfl,_,rfl,by rw [sml]; split <;> split <;> omega,by rw [sml]; split <;> split <;> omega,?_⟩
  refine zDo (lo:=0) (n:=_) (λi σ' H'=>∃(y4 th y8 y9 y10 y11 y12:Option V),σ'=[some (.ref a0),some (.ref d),some (.ref o),some (.ref p),y4,some (.ref l),some (.ref e),th,y8,y9,y10,y11,y12,none]/\zC H4 H'/\H' e=some (.lst xs)/\(∀v∈xs,Yq K H' v)/\∃us,H' l=some (.lst us)/\us.length=i/\(us=[]\/∃r t,us=r++[.ref t]/\H' t=some (.lst ((jM++[Str.ofString "c"]).map V.str))/\t≠l)) ⟨_,_,_,_,_,_,_,rfl,g5.trans g7,he,ix,[],g7 _ _ hl5,rfl, .inl rfl⟩ ?_ ?_
  ·rintro i σ' H' hi ⟨y4,th,y8,y9,y10,y11,y12,rfl,g,he,ix,us,hl,ul,hus⟩
   have hi64:i<64:=by rw [sml] at hi; split at hi <;> (try split at hi) <;> omega
   have gS:=gB.trans g;refine ⟨_,rfl,_,rfl,a0,ns0,_,rfl,gS.seq hS,by omega,by omega,λcell=>?_⟩;dsimp only [Zi,List.set];obtain ⟨v0,hv0,mv0,_⟩:=zDG (xs:=xs) (i:=cell % (xs.length:Nat)) (XZ _ (by omega)) (Int.emod_lt_of_pos _ (by omega));obtain ⟨ta,u0,n0,rfl,hta,rv0⟩:=ix v0 mv0;refine ⟨_,rfl,_,rfl,_,rfl,e,_,rfl, .inl (zQ.of he),_,_,rfl,rfl,(by omega),e,_,_,_,rfl,rfl,zQ.of he,hv0,?_⟩;refine ⟨ta,_,rfl,Zd.of hta,rfl,_,_,rfl,_,_,rfl,rfl,?_⟩;dsimp only [Zi,List.set];refine zg (λσ' H2=>∃u n,σ'=[some (.ref a0),some (.ref d),some (.ref o),some (.ref p),y4,some (.ref l),some (.ref e),th,some (.int (0+(i:Int))),some (.int cell),some u,some (.str (yz n)),y12,none]/\zC H' H2/\zIH K H2 yK u n) (λN2 hN2=>?_) ?_
   ·refine ⟨_,rfl,_,rfl,e,_,rfl, .inl (zQ.of he),_,_,rfl,rfl,⟨by omega,by omega⟩,_,_,rfl,rfl,(by show (0:Int)<3; decide),rfl,_,rfl,zq (λce=>?_) (λce=>?_)⟩
    ·refine ⟨_,rfl,_,rfl,_,rfl,e,_,rfl, .inl (zQ.of he),_,_,rfl,rfl, .inl ⟨by decide,by decide⟩,_,_,rfl,rfl,⟨by omega,by omega⟩,_,rfl,Int.ediv_nonneg (by split <;> omega) (by omega),λz H2 g2 lz sz=>?_⟩
     refine ⟨_,_,rfl,hN2 _ _ ⟨.str z,11,by rw [show yz 11=Str.ofString "saying" from by decide +kernel]; rfl,g2, .inr ⟨z,rfl,lz,?_,by decide⟩⟩⟩;unfold jU;rw [if_pos (show yY (Zb z)=false from sz)]
    ·exact hN2 _ _ ⟨u0,n0,rfl,zC.rfl',rv0⟩
   rintro σ2 H2 ⟨u,n,rfl,g2,rv⟩;have gT:=g.trans g2;refine zg (λσ' H3=>σ'=[some (.ref a0),some (.ref d),some (.ref o),some (.ref p),y4,some (.ref l),some (.ref e),th,some (.int (0+(i:Int))),some (.int cell),some u,some (.str (yz n)),y12,none]/\zC H2 H3) (λN3 hN3=>?_) ?_
   ·refine ⟨_,rfl,_,rfl,d,dx,D,es,u,n,rfl,dk.same gT,by rw [hes]; exact rv,λl1 H3 g3 e3=>?_⟩
    refine ⟨_,rfl,Z9,λl2 hl2=>?_⟩;have s1:=zC.new hl2 (.lst [.bl true, .str (yz n)]);refine ⟨true,zOE (s1 _ _ e3) zD,_,rfl,yF ?_⟩;have gU:=gT.trans (g3.trans s1);refine ⟨_,rfl,o,ox,_,rfl,(dk2.same gU).d,rfl,o,ox,O,[],rfl,dk2.same gU,by decide,List.Pairwise.nil,λl3 H4' g4 n4 e4=>?_⟩;refine ⟨(by show 0≤sizeLine; decide),λl4 hl4=>?_⟩;have s2:=zC.new hl4 (.lst []);refine ⟨_,zDP (zQ.of (s2 _ _ e4)) (zQ.of zD),_,rfl,yF ?_⟩;exact hN3 _ _ ⟨rfl,g3.trans (s1.trans (g4.trans s2))⟩
   rintro σ3 H3 ⟨rfl,g3⟩;have gL:=g2.trans g3;have gV:=gT.trans g3;refine zg (λσ' H6=>∃t,σ'=[some (.ref a0),some (.ref d),some (.ref o),some (.ref p),y4,some (.ref l),some (.ref e),th,some (.int (0+(i:Int))),some (.int cell),some u,some (.str (yz n)),some (.ref t),none]/\zC H3 H6/\H3 t=none/\H6 t=some (.lst (jM.map V.str))) (λN3 hN3=>?_) ?_
   ·refine ⟨_,rfl,d,dx,_,rfl,(dk.same gV).d,rfl,d,dx,D,es,rfl,dk.same gV,by omega,by rw [esN]; exact up3,λt H6 g6 n6 e6=>hN3 _ _ ⟨t,rfl,g6,n6,by rw [esN] at e6; exact e6⟩⟩
   rintro σ3 H6 ⟨t,rfl,g6,nt,et⟩;refine zg (λσ' H7=>σ'=[some (.ref a0),some (.ref d),some (.ref o),some (.ref p),y4,some (.ref l),some (.ref e),th,some (.int (0+(i:Int))),some (.int cell),some u,some (.str (yz n)),some (.ref t),none]/\zC H6 H7) (λN3 hN3=>?_) ?_
   ·refine ⟨_,rfl,(by show 3≤sizeLine; decide),λl2 hl2=>?_⟩
    have s1:=zC.new hl2 (.lst (jM.map V.str));exact ⟨true,zAc (ws:=jM) (s1 _ _ et) zD,_,rfl,yF (hN3 _ _ ⟨rfl,s1⟩)⟩
   rintro σ3 H7' ⟨rfl,g7'⟩;have gW:=gV.trans (g6.trans g7');refine zg (λσ' H8=>∃y4,σ'=[some (.ref a0),some (.ref d),some (.ref o),some (.ref p),y4,some (.ref l),some (.ref e),th,some (.int (0+(i:Int))),some (.int cell),some u,some (.str (yz n)),some (.ref t),none]/\zC H7' H8) (λN3 hN3=>?_) ?_
   ·refine ⟨_,rfl,p,fo,jw,rfl,gW _ _ hp,zEd (λj σ' H8=>∃y4,σ'=[some (.ref a0),some (.ref d),some (.ref o),some (.ref p),y4,some (.ref l),some (.ref e),th,some (.int (0+(i:Int))),some (.int cell),some u,some (.str (yz n)),some (.ref t),none]/\zC H7' H8) ⟨_,rfl,zC.rfl'⟩ (λj σ' H8 _ ⟨_,_,g8⟩=>g8 _ _ (gW _ _ hp)) ?_ ?_⟩
    ·rintro j k σ' H8 hk ⟨y4',rfl,g8⟩
     have j3:j<3:=(qZ.mp hk).1;rw [zGg j j3] at hk;cases hk;have gX:=gW.trans g8;have ts:=zIO j3;have sf:=(zCZ j j3).2.2.2.2;have ev:=zGL j j3;generalize plT.getD j (Str.empty,Str.empty)=nt' at ts sf ev ⊢;obtain ⟨nm,tx⟩:=nt';have sf2:=sf;rw [Ze] at sf2;refine ⟨_,rfl,d,dx,_,rfl,(dk.same gX).d,rfl,_,rfl,_,_,rfl,rfl,Zg (by omega),d,dx,D,es,_,rfl,dk.same gX, .inr ⟨_,rfl,sf, .inr (.inl ⟨tx,by rw [hes]; exact ts,λH9 g9=>?_⟩)⟩⟩;refine ⟨_,rfl,_,rfl,p,_,rfl, .inl ⟨jw,Sum.inr nm, .inr ⟨fo,g9 _ _ (gX _ _ hp)⟩,rfl,ev.symm⟩,rfl,_,rfl,zq (λc=>?_) (λ_=>⟨_,rfl,g8.trans g9⟩)⟩;exact absurd c (by rw [decide_eq_true rfl]; decide)
    ·rintro σ' H8 ⟨y4',rfl,g8⟩
     exact hN3 _ _ ⟨y4',rfl,g8⟩
   rintro σ3 H8 ⟨y4',rfl,g8⟩;have gY:zC H' H8:=gL.trans (g6.trans (g7'.trans g8));have hl8:=gY _ _ hl;refine zg (λσ' H9=>σ'=[some (.ref a0),some (.ref d),some (.ref o),some (.ref p),y4',some (.ref l),some (.ref e),th,some (.int (0+(i:Int))),some (.int cell),some u,some (.str (yz n)),some (.ref t),none]/\zC H8 H9) (λN3 hN3=>?_) ?_
   ·refine ⟨_,rfl,(by show 0≤sizeLine; decide),λl2 hl2=>?_⟩
    have s1:=zC.new hl2 (.lst []);refine ⟨_,zDP (zQ.of (s1 _ _ hl8)) (zQ.of zD),_,rfl,zq (λc=>?_) (λc=>?_)⟩
    ·rcases hus with rfl | ⟨r,t2,rfl,ht2,_⟩
     ·cases c
     ·refine ⟨_,rfl,1,rfl,l,_,-1,_,rfl,rfl,zQ.of (s1 _ _ hl8),zFR r _,(by show 4≤sizeLine; decide),λl3 hl3=>?_⟩
      have s2:=zC.new hl3 (.lst ((jM++[Str.ofString "c"]).map V.str));exact ⟨true,zAc (ws:=jM++[Str.ofString "c"]) (s2 _ _ (s1 _ _ (gY _ _ ht2))) zD,_,rfl,yF (hN3 _ _ ⟨rfl,s1.trans s2⟩)⟩
    ·exact yF (hN3 _ _ ⟨rfl,s1⟩)
   rintro σ3 H9 ⟨rfl,g9⟩;have gZ:=gY.trans g9;have et9:=g9 _ _ (g8 _ _ (g7' _ _ et));have tl:t≠l:=λz=>by
    rw [z,gL _ _ hl] at nt;cases nt
   have te:t≠e:=λz=>by
    rw [z,gL _ _ he] at nt;cases nt
   have n4t:H4 t=none:=by
    cases q:H4 t with
    | none=>rfl
    | some v=>rw [gV _ _ q] at nt; cases nt
   refine ⟨_,rfl, .inl ⟨rfl,_,zQ.of et9⟩,t,_,_,rfl,rfl,et9,(by show 3<sizeLine; decide),?_⟩;have hl10:upd H9 t (.lst (jM.map V.str++[V.str (Str.ofString "c")])) l=some (.lst us):=by rw [zI (Ne.symm tl)]; exact gZ _ _ hl
   refine ⟨_,rfl, .inl ⟨rfl,_,zQ.of hl10⟩,_,rfl,l,_,_,rfl,rfl,hl10,ZW (by omega),?_⟩;refine ⟨_,_,_,_,_,_,_,rfl,λb o' hb=>?_,?_,λv hv=>?_,us++[.ref t],zD,by rw [qI,ul]; rfl, .inr ⟨us,t,rfl,?_,tl⟩⟩
   ·rw [zI (zJ hb nl),zI (zJ hb n4t)]
    exact gZ _ _ (g _ _ hb)
   ·rw [zI el,zI (Ne.symm te)]
    exact gZ _ _ he
   ·exact (((ix v hv).same gZ).upd et9).upd hl10
   ·rw [zI tl,zD]
    rfl
  ·rintro σ' H' ⟨y4,th,y8,y9,y10,y11,y12,rfl,g,_⟩
   exact hN _ _ ⟨y4,th,y8,y9,y10,y11,y12,rfl,g⟩
 rintro σ4 HA ⟨y4,th',y8,y9,y10,y11,y12,rfl,gA⟩;have say:∀{σ:L2.St} {z ans:Str} {H':Hp} {Pp:V->Hp->Prop},zC H4 H'->YH yK (Zb z) ans->z.length≤570->(∀H2,zC H' H2->Pp (.str ans) H2)->noE (zEQ K CD C XC) [.ref d, .str z] H' Pp (λ_ _ _=>False):=λ{σ z ans H' Pp} g ht hz hP=>⟨d,dx,D,es,_,rfl,dk.same g, .inr ⟨z,rfl,hz, .inr (.inl ⟨ans,by rw [hes]; exact ht,hP⟩)⟩⟩
 refine zg (λσ' H'=>∃r,σ'=[some (.ref a0),some (.ref d),some (.ref o),some (.ref p),y4,some (.ref l),some (.ref e),th',y8,y9,y10,y11,y12,some (.ref r)]/\zC HA H'/\H' r=some (.lst (zCQ.map V.str))) (λN hN=>?_) ?_
 ·exact ⟨(by show 7≤sizeLine; decide),λr hr=>hN _ _ ⟨r,rfl,zC.new hr _,zD⟩⟩
 rintro σ5 HB ⟨r,rfl,gB',hr7⟩;refine zg (λσ' H'=>∃du,σ'=[some (.ref a0),some (.ref d),some (.ref o),some (.ref p),y4,some (.ref l),some (.ref e),th',y8,y9,y10,some (.ref du),y12,some (.ref r)]/\zC HB H'/\H' du=some (.lst (zCr.map V.str))) (λN hN=>?_) ?_
 ·exact ⟨(by show 7≤sizeLine; decide),λr hr=>hN _ _ ⟨r,rfl,zC.new hr _,zD⟩⟩
 rintro σ5 HC ⟨du,rfl,gC,hdu⟩;have gD:=gA.trans (gB'.trans gC);refine zg (λσ' H'=>σ'=[some (.ref a0),some (.ref d),some (.ref o),some (.ref p),y4,some (.ref l),some (.ref e),th',y8,y9,y10,some (.ref du),y12,some (.ref r)]/\zC HC H') (λN hN=>?_) ?_
 ·refine ⟨_,rfl,r,rfl,⟨_,zQ.of (gC _ _ hr7)⟩,λD0 hD0=>?_⟩
  refine yM (σ:=[some (.ref a0),some (.ref d),some (.ref o),some (.ref p),y4,some (.ref l),some (.ref e),th',y8,y9,y10,some (.ref du),y12,some (.ref r)]) (xs:=zCQ.map V.str) (λ_=>true) (λj=> .str (zCr.getD j Str.empty)) (zQ.of (gC _ _ hr7)) hD0 (by decide) (λj H' hj g=>Z0) (λj H' hj _ g P hP=>?_) λH2 g2 e2=>?_
  ·have hj':j<7:=by rw [qA] at hj; exact hj
   rw [zAD zCQ hj'];obtain ⟨h1,h2⟩:=zQs j hj';exact ⟨_,rfl,d,dx,_,rfl,(dk.same (gD.trans g)).d,rfl,_,rfl,say (σ:=[]) (gD.trans g) h1 h2 hP⟩
  ·rw [Y3] at e2
   have e3:H2 D0=some (.lst (zCr.map V.str)):=by rw [e2]; exact congrArg (λx=>some (HO.lst x)) (zEo zCr)
   exact ⟨_,rfl,true,zAc (ws:=zCr) e3 (g2 _ _ hdu),_,rfl,yF (hN _ _ ⟨rfl,g2⟩)⟩
 rintro σ5 HE ⟨rfl,gE⟩;have gF:=gD.trans gE;refine ⟨(by show 4≤sizeLine; decide),λr4 hr4=>⟨r4,rfl,⟨_,zQ.of zD⟩,λD1 hD1=>?_⟩⟩;have s1:=zC.new hr4 (.lst (zCX.map V.str));refine yM (σ:=[some (.ref a0),some (.ref d),some (.ref o),some (.ref p),y4,some (.ref l),some (.ref e),th',y8,y9,y10,some (.ref du),y12,some (.ref r)]) (xs:=zCX.map V.str) (λ_=>true) (λj=> .str (zDK.getD j Str.empty)) (zQ.of zD) hD1 (by decide) (λj H' hj g=>Z0) (λj H' hj _ g P hP=>?_) λH2 g2 e2=>?_
 ·have hj':j<4:=by rw [qA] at hj; exact hj
  rw [zAD zCX hj'];obtain ⟨h1,h2⟩:=zRL j hj';exact ⟨_,rfl,d,dx,_,rfl,(dk.same (gF.trans (s1.trans g))).d,rfl,_,rfl,say (σ:=[]) (gF.trans (s1.trans g)) h1 h2 hP⟩
 ·rw [Y3] at e2
  have e3:H2 D1=some (.lst (zDK.map V.str)):=by rw [e2]; exact congrArg (λx=>some (HO.lst x)) (zEo zDK)
  refine ⟨_,rfl,(by show 4≤sizeLine; decide),λl5 hl5=>?_⟩;have s2:=zC.new hl5 (.lst (zDK.map V.str));exact ⟨true,zAc (ws:=zDK) (s2 _ _ e3) zD,s2 _ _ (g2 _ _ (s1 _ _ (gF _ _ hp))),q _⟩
end
abbrev zRg:Stmt:=top 62
abbrev zQl:Stmt:=top 63
abbrev zSX:Stmt:=ZJ (top 64) 4
abbrev zRw:Stmt:=ZJ (top 107) 4
theorem yd {P:Program} {w:World} {K:W.Frag} {mg:Str->Option Value} {base:Heap} {CX:jJ} {k:Nat} {f:Addr} {fd:FuncData} {ps:List Str}:zH P w K mg base CX k f fd ps (λ_ _ _ _=>False):=⟨λ_ _ _ _ h=>h.elim,λ_ _ _ _ _ _ _ _ _ _ _ _ _ h=>h.elim⟩
theorem je (e:Str×Tok×Value) (r:List (Str×Tok×Value)) (z:Str):valueAt (ZN (e::r)) (Sum.inr z)=if z=e.1 then some e.2.2 else valueAt (ZN r) (Sum.inr z):=by
 unfold valueAt ZN;rw [qQ,QN];by_cases h:z=e.1
 ·rw [if_pos h,show decide ((Sum.inr e.1:ze)=Sum.inr z)=true from decide_eq_true (by rw [h])]
  rfl
 ·rw [if_neg h,show decide ((Sum.inr e.1:ze)=Sum.inr z)=false from decide_eq_false λq=>h (Sum.inr.inj q).symm]
theorem J2 (z:Str):∀kvs:List (Str×Tok×Value),(valueAt (ZN kvs) (Sum.inr z)).isSome=decide (z∈kvs.map (·.1))
 | []=>rfl
 | e::r=>by
  rw [je];by_cases h:z=e.1
  ·rw [if_pos h,decide_eq_true (by rw [h]; exact qD)]
   rfl
  ·rw [if_neg h,J2 z r]
   exact decide_eq_decide.mpr ⟨λq=>qF _ q,λq=>(qG.mp q).resolve_left h⟩
theorem zEz {z:Str}:∀{kvs:List (Str×Tok×Value)},(∀e∈kvs,∃f,e.2.2= .ref f)->z∈kvs.map (·.1)->∃f,valueAt (ZN kvs) (Sum.inr z)=some (.ref f)
 | [],_,h=>nomatch h
 | e::r,hr,h=>by
  rw [je];by_cases q:z=e.1
  ·obtain ⟨f,hf⟩:=hr e qD
   exact ⟨f,by rw [if_pos q,hf]⟩
  ·rw [if_neg q]
   exact zEz (λe he=>hr e (qF _ he)) ((qG.mp h).resolve_left q)
theorem Yk:∀{kvs:List (Str×Tok×Value)} (i:Nat) {e:Str×Tok×Value},(kvs.map (·.1)).Nodup->kvs[i]?=some e->valueAt (ZN kvs) (Sum.inr e.1)=some e.2.2
 | [],i,e,_,h=>by rw [List.getElem?_nil] at h; cases h
 | c::r,0,e,_,h=>by
  cases h;rw [je,if_pos rfl]
 | c::r,i+1,e,nd,h=>by
  obtain ⟨n1,n2⟩:=xF.mp nd;rw [je,if_neg λq=>n1 (qY.mpr ⟨e,xA h,q⟩)];exact Yk i n2 h
theorem zKK (a b c:Str) (u1 u2 u3:Tok) (x y z':Value) (z:Str):valueAt (ZN [(a,u1,x),(b,u2,y),(c,u3,z')]) (Sum.inr z)=if z=a then some x else if z=b then some y else if z=c then some z' else none:=by
 rw [je,je,je];rfl
theorem zFF {K:W.Frag} {o:Addr} {n:Nat} {its:Array Value} {xs:List V} (h:K.lookup o=some {cls:= .type "tuple",data:= .seq its n}) (hz:its.size≤sizeLine) (hv:zi xs its.toList) (H:Hp):Zd K H o xs:= .inr ⟨_,_,_,h,rfl,rfl,hz,hv⟩
def NV (K:W.Frag) (x:Str) (v:Option Value):Prop:=W.nsIn K mainGlobals x=some v
theorem nv_mk {K:W.Frag} {x:Str} {v:Option Value} (h:W.nsIn K mainGlobals x=some v):NV K x v:=h
def DF (K:W.Frag) (x q:Str) (ps:List Str) (st:Stmt) (f:Addr):Prop:=∃fd,zm K x q st f fd/\zL K fd ps []/\W.keepIn K (Value.ref f)=true
def DG (K:W.Frag) (x:Str) (ps:List Str) (st:Stmt) (f:Addr):Prop:=NV K x (some (.ref f))/\DF K x x ps st f
def DM (K:W.Frag) (C:Addr) (x q:Str) (ps:List Str) (st:Stmt) (f:Addr):Prop:=W.findIn K (.ref C) x=some (some (.ref f))/\W.isFn K (.ref f)=true/\DF K x q ps st f
section
variable {K:W.Frag} {x q p1 p2 p3 p4:Str} {st:Stmt} {f C:Addr} {oc:Value} {od an:Option Addr} {osl:Array (Option Value)} {kV doc pm cdv ct:Value}
theorem zCM {ps:List Str} (l:K.lookup f=some ⟨oc,od, .func (W.fnOf x q (yC st) (Zx st) (zF st) .none kV doc pm an cdv ct),osl⟩) (c:W.codeIn K cdv q=true) (k:W.keepIn K (Value.ref f)=true)
  (h:∀(kV doc pm:Value) (an:Option Addr) (cdv ct:Value) (us:List Value),us.length=ps.length->bindArgs (W.fnOf x q (yC st) (Zx st) (zF st) .none kV doc pm an cdv ct) ⟨us,[]⟩=pure (ps.zip us)):DF K x q ps st f:=⟨_,zJI l c k,(zJI l c k).binds h,k⟩
theorem df0 (l:K.lookup f=some ⟨oc,od, .func (W.fnOf x q (yC st) (Zx st) (zF st) .none kV doc pm an cdv ct),osl⟩) (c:W.codeIn K cdv q=true) (k:W.keepIn K (Value.ref f)=true)
  (h:∀(kV doc pm:Value) (an:Option Addr) (cdv ct:Value),bindArgs (W.fnOf x q (yC st) (Zx st) (zF st) .none kV doc pm an cdv ct) ⟨[],[]⟩=pure []):DF K x q [] st f:=zCM l c k λa b c d e g us hl=>match us,hl with | [],_=>h a b c d e g
theorem df1 (l:K.lookup f=some ⟨oc,od, .func (W.fnOf x q (yC st) (Zx st) (zF st) .none kV doc pm an cdv ct),osl⟩) (c:W.codeIn K cdv q=true) (k:W.keepIn K (Value.ref f)=true)
  (h:∀(kV doc pm:Value) (an:Option Addr) (cdv ct u:Value),bindArgs (W.fnOf x q (yC st) (Zx st) (zF st) .none kV doc pm an cdv ct) ⟨[u],[]⟩=pure [(p1,u)]):DF K x q [p1] st f:=zCM l c k λa b c d e g us hl=>match us,hl with | [u],_=>h a b c d e g u
theorem df2 (l:K.lookup f=some ⟨oc,od, .func (W.fnOf x q (yC st) (Zx st) (zF st) .none kV doc pm an cdv ct),osl⟩) (c:W.codeIn K cdv q=true) (k:W.keepIn K (Value.ref f)=true)
  (h:∀(kV doc pm:Value) (an:Option Addr) (cdv ct u v:Value),bindArgs (W.fnOf x q (yC st) (Zx st) (zF st) .none kV doc pm an cdv ct) ⟨[u,v],[]⟩=pure [(p1,u),(p2,v)]):DF K x q [p1,p2] st f:=zCM l c k λa b c d e g us hl=>match us,hl with | [u,v],_=>h a b c d e g u v
theorem df3 (l:K.lookup f=some ⟨oc,od, .func (W.fnOf x q (yC st) (Zx st) (zF st) .none kV doc pm an cdv ct),osl⟩) (c:W.codeIn K cdv q=true) (k:W.keepIn K (Value.ref f)=true)
  (h:∀(kV doc pm:Value) (an:Option Addr) (cdv ct u v y:Value),bindArgs (W.fnOf x q (yC st) (Zx st) (zF st) .none kV doc pm an cdv ct) ⟨[u,v,y],[]⟩=pure [(p1,u),(p2,v),(p3,y)]):DF K x q [p1,p2,p3] st f:=zCM l c k λa b c d e g us hl=>match us,hl with | [u,v,y],_=>h a b c d e g u v y
theorem df4 (l:K.lookup f=some ⟨oc,od, .func (W.fnOf x q (yC st) (Zx st) (zF st) .none kV doc pm an cdv ct),osl⟩) (c:W.codeIn K cdv q=true) (k:W.keepIn K (Value.ref f)=true)
  (h:∀(kV doc pm:Value) (an:Option Addr) (cdv ct u v y z:Value),bindArgs (W.fnOf x q (yC st) (Zx st) (zF st) .none kV doc pm an cdv ct) ⟨[u,v,y,z],[]⟩=pure [(p1,u),(p2,v),(p3,y),(p4,z)]):DF K x q [p1,p2,p3,p4] st f:=zCM l c k λa b c d e g us hl=>match us,hl with | [u,v,y,z],_=>h a b c d e g u v y z
theorem dg_mk {ps:List Str} (a:W.nsIn K mainGlobals x=some (some (.ref f))) (d:DF K x x ps st f):DG K x ps st f:=⟨a,d⟩
theorem dm_mk {ps:List Str} (a:W.findIn K (.ref C) x=some (some (.ref f))) (i:W.isFn K (.ref f)=true) (d:DF K x q ps st f):DM K C x q ps st f:=⟨a,i,d⟩
end
def CM (K:W.Frag) (C:Addr) (x:Str):Prop:=NV K x (some (.ref C))/\JV K C/\W.makesIn K C=true/\W.keepIn K (Value.ref C)=true
theorem cm_mk {K:W.Frag} {C:Addr} {x:Str} (a:W.nsIn K mainGlobals x=some (some (.ref C))) (pg:W.plainGet K C Str.empty=true) (hd:W.hasDictIn K C=true) (po:W.plainOver K C=true) (sa:W.findIn K (.ref C) "__setattr__"=some (some (.builtin "object.__setattr__"))) (mk:W.makesIn K C=true) (kc:W.keepIn K (Value.ref C)=true):CM K C x:=⟨a,⟨pg,hd,po,sa⟩,mk,kc⟩
theorem na_mk {K:W.Frag} {C:Addr} {x:Str} (h:W.findIn K (.ref C) x=some none):ZL K C x:=h
theorem exd_mk {K:W.Frag} {xs:List Addr} {XS D:Addr} {n:Nat} (ga:W.findIn K (.ref D) "__getattribute__"=some (some (.builtin "BaseException.__getattribute__"))) (gh:W.findIn K (.ref D) "__getattr__"=some none) (ca:W.findIn K (.ref D) "__class__"=some (some (.builtin "object.__class__"))) (ob:W.mroIn K D (.type "object")=some true) (be:W.mroIn K D (.type "BaseException")=some true)
  (hn:W.specialIn K (.builtin "object.__class__") "__get__"=some (some (.builtin "getset_descriptor.__get__"))) (htk:W.takesIn K (.builtin "object.__class__")=some true) (cl:(W.clsIn K D).isSome=true)
  (vv:W.kitOne K (.ref D) (.type "ValueError")=some true) (em:W.exmOne K (.ref D) (.ref XS)=some true) (ei:W.excIn K D JJ "ValueError.__new__"=true) (kk:xs.map (λx=>W.kitOne K (.ref D) (.ref x))=(List.range 12).map λi:Nat=>some (decide ((i:Int)=n))) (lt:(n:Int)<12):ExD K xs XS D n:=⟨kk,vv,⟨ga,gh,ca,ob,be,cl,hn,htk⟩,em,ei,lt⟩
theorem all_mk {l:W.OpenLaw} {w:World} {K:W.Frag} {h:Heap} {mg:Str->Option Value} {fa f1 f2 f3 f4 f5 f6 f7 f8 f9 f10 f11 f12 f13 f14 f15 f16 f17 f18 f19 f20 f21 f22 f23 f24 f25 f26 f27 f28 f29 f30 f31 f32 f33 f34 f35 f36 f37 f38 f39 f40 f41 f42 f43 f44 f45 f46 f47 f48 f49 f50 f51 f52 f53 f54 f55 f56 f57 f58 f59 f60 f61 f62 f63 f64 f65 f66 f67 f68 f69 f70 f71 f72 f73 f74 f75 f76 f77 f78 f79 f80 f81 f82 f83 f84 f85 f86 f87 f88 f89 f90 f91 f92 f93 f94 f95 f96 f97 f98 d1 d2 d3 d4 x0 x1 x2 x3 x4 x5 x6 x7 x8 x9 x10 x11 XS C1 C2 C3 C4 C5 B1 y1 y2 y3 y4 o1 o2 o3:Addr} (X:K.In h) (G:h.Ns mainGlobals mg) (hfa:mg "law"=some (.ref fa))
  {mc1:Value} {t1 t2 t3 t4 t5 t6 t7 t8 t9 t10 t11 u1 u2 u3 u4 u5 u6 u7 u8 u9 u10 u11 u12 u13 u14 u15 u16 u17 u18 u19:Tok} {nk1 nk2 nk3 nk4 nt1 nt2 nt3:Nat}
  (e61:DG K "_law_none" [] zHw f61)
  (e62:DG K "_law_others" [] zLE f62)
  (e64:DG K "_law_texts" [] zEx f64)
  (e1:DG K "is_whole" ["thing"] zEe f1)
  (e3:DG K "is_plan" ["thing"] zKT f3)
  (e4:DG K "check_plan" ["plan"] zKG f4)
  (e6:DG K "check_kind" ["kind"] sCk f6)
  (e8:DG K "all_places" ["plan"] zHL f8)
  (e12:DG K "first_row" ["plan"] zIF f12)
  (e13:DG K "first_ring" ["plan"] zFo f13)
  (e14:DG K "tally_of_rows" ["plan"] sTr f14)
  (e15:DG K "count_rows" ["plan"] sCr f15)
  (e16:DG K "count_rings" ["plan"] sCg f16)
  (e25:DG K "short_cut" ["plan"] Ct.zLW f25)
  (e26:DG K "check_room" ["numbers"] zHE f26)
  (e31:DG K "longest_part" ["plan"] Rh.zKV f31)
  (e32:DG K "is_written_number" ["word"] Tt.sWr f32)
  (e33:DG K "with_blanks" ["numbers"] Tt.sWb f33)
  (e34:DG K "show_plan" ["plan"] Tt.zER f34)
  (e35:DG K "numbers_in" ["words"] Tt.zEl f35)
  (e36:DG K "sum_words" ["text"] Tt.sSw f36)
  (e37:DG K "read_plan" ["text"] Tt.zHT f37)
  (e38:DG K "is_small_word" ["word"] zHu f38)
  (e39:DG K "is_name" ["word"] zKd f39)
  (e40:DG K "is_short_number" ["word"] zKa f40)
  (e41:DG K "is_any_text" ["word"] zKB f41)
  (e42:DG K "shown_or_none" ["numbers"] zLF f42)
  (e43:DG K "tell_rows" ["plan"] zEk f43)
  (e44:DG K "tell_rings" ["plan"] zCy f44)
  (e45:DG K "tell_row" ["plan"] zHr f45)
  (e46:DG K "tell_ring" ["plan"] zEw f46)
  (e47:DG K "tell_longest" ["plan"] zAp f47)
  (e48:DG K "tell_cut" ["plan"] zGy f48)
  (e49:DG K "tell_writing" ["plan"] zAo f49)
  (e55:DG K "forms_behind" ["verb"] sFb f55)
  (e56:DG K "words_of" ["row"] sWo f56)
  (e57:DG K "is_saying" ["words"] zGm f57)
  (e58:DG K "said_words" ["row"] zLa f58)
  (e63:DG K "_law_spoilt" ["cell"] zID f63)
  (e65:DG K "law" ["script"] zCz f65)
  (e2:DG K "is_rising_list" ["thing","fewest"] zHU f2)
  (e7:DG K "plan_of" ["kind","n"] sPl f7)
  (e9:DG K "near_places" ["plan","number"] zEP f9)
  (e10:DG K "numbers_at" ["plan","places"] zEV f10)
  (e17:DG K "row_by" ["plan","number"] sRb f17)
  (e18:DG K "is_cut" ["plan","thing"] Ct.zHx f18)
  (e22:DG K "parts_behind" ["plan","cut"] Ct.sPb f22)
  (e23:DG K "shows_no_row" ["plan","thing"] Ct.zLh f23)
  (e24:DG K "rising_lists" ["numbers","size"] Ct.zFQ f24)
  (e27:DG K "stands_in" ["numbers","thing"] zKy f27)
  (e28:DG K "is_new" ["numbers","thing"] zKY f28)
  (e29:DG K "with_one" ["numbers","number"] zRg f29)
  (e30:DG K "without_one" ["numbers","number"] zQl f30)
  (e50:DG K "number_comes" ["keeper","number"] sNc f50)
  (e51:DG K "number_goes" ["keeper","number"] sNg f51)
  (e52:DG K "sum_comes_to" ["keeper","number"] zKL f52)
  (e53:DG K "sum_goes_from" ["keeper","number"] zKZ f53)
  (e54:DG K "tell_nth" ["keeper","number"] zKf f54)
  (e59:DG K "_law_cell" ["script","k"] zHn f59)
  (e60:DG K "_law_said" ["desk","row"] zGp f60)
  (e5:DG K "add_up" ["plan","one","other"] zKs f5)
  (e11:DG K "first_from" ["plan","first_places","last_places"] zHG f11)
  (e19:DG K "belongs_to" ["plan","part","number"] Ct.zHQ f19)
  (e20:DG K "widened" ["plan","part","left"] Ct.zHk f20)
  (e21:DG K "part_with" ["plan","number","left"] Ct.sPw f21)
  (y1_:CM K C1 "Search")
  (y2_:CM K C2 "Tally")
  (y3_:CM K C3 "Keeper")
  (y4_:CM K C4 "Reach")
  (y5_:CM K C5 "Desk")
  (nn1_1:ZL K C1 "ahead")
  (nn1_2:ZL K C1 "near")
  (nn1_3:ZL K C1 "whole")
  (nn1_4:ZL K C1 "last_places")
  (nn1_5:ZL K C1 "onward")
  (nn2_1:ZL K C2 "ahead")
  (nn2_2:ZL K C2 "near")
  (nn2_3:ZL K C2 "whole")
  (nn2_4:ZL K C2 "last_places")
  (nn2_5:ZL K C2 "known")
  (nn3_1:ZL K C3 "numbers")
  (nn3_2:ZL K C3 "sums")
  (nn4_1:ZL K C4 "ahead")
  (nn4_2:ZL K C4 "near")
  (nn4_3:ZL K C4 "whole")
  (nn4_4:ZL K C4 "known")
  (nn5_1:ZL K C5 "keepers")
  (aB1:W.nsIn K mainGlobals "Steps"=some (some (.ref B1))) (ty1:W.typeIn K (.ref B1)=some mc1) (ga1:W.specialIn K (.ref B1) "__getattribute__"=some (some (.builtin "type.__getattribute__"))) (rd1:W.readsIn K B1 mc1=true)
  (e69:DM K C1 "found_places" "Search.found_places" ["self"] zKx f69)
  (e74:DM K C2 "all_ways" "Tally.all_ways" ["self"] sAw f74)
  (e80:DM K C3 "plan" "Keeper.plan" ["self"] zKz f80)
  (e90:DM K C4 "longest_places" "Reach.longest_places" ["self"] Rh.sLp f90)
  (e92:DM K C5 "__init__" "Desk.__init__" ["self"] zKn f92)
  (e93:DM K C5 "names" "Desk.names" ["self"] zKj f93)
  (e77:DM K C2 "places_by" "Tally.places_by" ["self","number"] sPb f77)
  (e79:DM K C3 "__init__" "Keeper.__init__" ["self","plan"] zKS f79)
  (e82:DM K C3 "come" "Keeper.come" ["self","number"] zKI f82)
  (e83:DM K C3 "go" "Keeper.go" ["self","number"] zLR f83)
  (e84:DM K C3 "sum_comes" "Keeper.sum_comes" ["self","number"] zKo f84)
  (e85:DM K C3 "sum_goes" "Keeper.sum_goes" ["self","number"] zKw f85)
  (e86:DM K C4 "__init__" "Reach.__init__" ["self","plan"] Rh.zLD f86)
  (e94:DM K C5 "keeper_by" "Desk.keeper_by" ["self","name"] zKu f94)
  (e96:DM K C5 "drop" "Desk.drop" ["self","name"] zRw f96)
  (e97:DM K C5 "say" "Desk.say" ["self","row"] zKD f97)
  (e67:DM K C1 "can_end" "Search.can_end" ["self","left","end"] zGo f67)
  (e68:DM K C1 "first_step" "Search.first_step" ["self","left","end"] zHa f68)
  (e70:DM K C1 "steps" "Steps.steps" ["self","left","end"] Jz f70)
  (e72:DM K C2 "ways" "Tally.ways" ["self","left","end"] sWy f72)
  (e73:DM K C2 "ways_by" "Tally.ways_by" ["self","left","place"] sWb f73)
  (e78:DM K C2 "steps" "Steps.steps" ["self","left","end"] Jz f78)
  (e81:DM K C3 "change_to" "Keeper.change_to" ["self","numbers","sums"] zSX f81)
  (e87:DM K C4 "most" "Reach.most" ["self","left","end"] Rh.sMs f87)
  (e88:DM K C4 "most_by" "Reach.most_by" ["self","left","place"] Rh.sMb f88)
  (e89:DM K C4 "longest_step" "Reach.longest_step" ["self","left","end"] Rh.sLs f89)
  (e91:DM K C4 "steps" "Steps.steps" ["self","left","end"] Jz f91)
  (e95:DM K C5 "put" "Desk.put" ["self","name","plan"] zLI f95)
  (e66:DM K C1 "__init__" "Search.__init__" ["self","plan","first_places","last_places"] zLf f66)
  (e71:DM K C2 "__init__" "Tally.__init__" ["self","plan","first_places","last_places"] zLG f71)
  (e75:DM K C2 "ways_ahead" "Tally.ways_ahead" ["self","left","end","place"] zHp f75)
  (e76:DM K C2 "step_by" "Tally.step_by" ["self","left","end","number"] sSb f76)
  (a98:W.findCls K (.ref B1) mc1 "__init__"=some (.val (.ref f98))) (i98:W.isFn K (.ref f98)=true) (e98:DF K "__init__" "Steps.__init__" ["self","plan","first_places"] zEO f98)
  (m1:NV K "MOST" (some (.int 10 t1)))
  (m2:NV K "LEAST_SUM" (some (.int 3 t2)))
  (m3:NV K "FEWEST_IN_RING" (some (.int 3 t3)))
  (m4:NV K "MOST_IN_SHORT_CUT" (some (.int 3 t4)))
  (m5:NV K "FIGURES" (some (.str (Str.ofString "0123456789") t5)))
  (m6:NV K "SMALL_LETTERS" (some (.str (Str.ofString "abcdefghijklmnopqrstuvwxyz") t6)))
  (m7:NV K "MOST_LETTERS" (some (.int 8 t7)))
  (m8:NV K "MOST_FIGURES" (some (.int 9 t8)))
  (m9:NV K "DONE" (some (.str (Str.ofString "ok") t9)))
  (m10:NV K "NONE_THERE" (some (.str (Str.ofString "none") t10)))
  (m11:NV K "NONE_TAKEN" (some (.str (Str.ofString "all") t11)))
  (ad1:W.nsIn K mainGlobals "KINDS"=some (some (.ref d1))) (ld1:K.lookup d1=some {cls:= .type "dict",data:= .dict #[{hash:=PyData.keyHash w.params "squares",key:= .str "squares" u1,val:= .ref y1},{hash:=PyData.keyHash w.params "threes",key:= .str "threes" u2,val:= .ref y2},{hash:=PyData.keyHash w.params "primes",key:= .str "primes" u3,val:= .ref y3},{hash:=PyData.keyHash w.params "powers",key:= .str "powers" u4,val:= .ref y4}] nk1}) (lo1:(d1==sysModules)=false)
  (ad2:W.nsIn K mainGlobals "ASKED"=some (some (.ref d2))) (ld2:K.lookup d2=some {cls:= .type "dict",data:= .dict #[{hash:=PyData.keyHash w.params "rows",key:= .str "rows" u5,val:= .ref f43},{hash:=PyData.keyHash w.params "rings",key:= .str "rings" u6,val:= .ref f44},{hash:=PyData.keyHash w.params "row",key:= .str "row" u7,val:= .ref f45},{hash:=PyData.keyHash w.params "ring",key:= .str "ring" u8,val:= .ref f46},{hash:=PyData.keyHash w.params "longest",key:= .str "longest" u9,val:= .ref f47},{hash:=PyData.keyHash w.params "cut",key:= .str "cut" u10,val:= .ref f48},{hash:=PyData.keyHash w.params "show",key:= .str "show" u11,val:= .ref f49}] nk2}) (lo2:(d2==sysModules)=false)
  (ad3:W.nsIn K mainGlobals "SAID_WITH_NUMBER"=some (some (.ref d3))) (ld3:K.lookup d3=some {cls:= .type "dict",data:= .dict #[{hash:=PyData.keyHash w.params "come",key:= .str "come" u12,val:= .ref f50},{hash:=PyData.keyHash w.params "go",key:= .str "go" u13,val:= .ref f51},{hash:=PyData.keyHash w.params "sum",key:= .str "sum" u14,val:= .ref f52},{hash:=PyData.keyHash w.params "unsum",key:= .str "unsum" u15,val:= .ref f53},{hash:=PyData.keyHash w.params "nth",key:= .str "nth" u16,val:= .ref f54}] nk3}) (lo3:(d3==sysModules)=false)
  (ad4:W.nsIn K mainGlobals "OTHER_FORMS"=some (some (.ref d4))) (ld4:K.lookup d4=some {cls:= .type "dict",data:= .dict #[{hash:=PyData.keyHash w.params "plan",key:= .str "plan" u17,val:= .ref o1},{hash:=PyData.keyHash w.params "kind",key:= .str "kind" u18,val:= .ref o2},{hash:=PyData.keyHash w.params "drop",key:= .str "drop" u19,val:= .ref o3}] nk4}) (lo4:(d4==sysModules)=false)
  (lt1:K.lookup o1=some {cls:= .type "tuple",data:= .seq #[.ref f39, .ref f41] nt1})
  (lt2:K.lookup o2=some {cls:= .type "tuple",data:= .seq #[.ref f39, .ref f38, .ref f40] nt2})
  (lt3:K.lookup o3=some {cls:= .type "tuple",data:= .seq #[.ref f39] nt3})
  (ax0:NV K "NoPlan" (some (.ref x0)))
  (ax1:NV K "NoNumber" (some (.ref x1)))
  (ax2:NV K "NoKind" (some (.ref x2)))
  (ax3:NV K "NoPlace" (some (.ref x3)))
  (ax4:NV K "NoRow" (some (.ref x4)))
  (ax5:NV K "NoCut" (some (.ref x5)))
  (ax6:NV K "NoPart" (some (.ref x6)))
  (ax7:NV K "NoSum" (some (.ref x7)))
  (ax8:NV K "TooMany" (some (.ref x8)))
  (ax9:NV K "NoText" (some (.ref x9)))
  (ax10:NV K "NoName" (some (.ref x10)))
  (ax11:NV K "NoSaying" (some (.ref x11)))
  (axS:NV K "SumError" (some (.ref XS)))
  (exN:ExD K [x0,x1,x2,x3,x4,x5,x6,x7,x8,x9,x10,x11] XS x1 ((1:Nat):Int))
  (exK:ExD K [x0,x1,x2,x3,x4,x5,x6,x7,x8,x9,x10,x11] XS x2 ((2:Nat):Int))
  (exL:ExD K [x0,x1,x2,x3,x4,x5,x6,x7,x8,x9,x10,x11] XS x3 ((3:Nat):Int))
  (exU:ExD K [x0,x1,x2,x3,x4,x5,x6,x7,x8,x9,x10,x11] XS x7 ((7:Nat):Int))
  (exT:ExD K [x0,x1,x2,x3,x4,x5,x6,x7,x8,x9,x10,x11] XS x8 ((8:Nat):Int))
  (exX:ExD K [x0,x1,x2,x3,x4,x5,x6,x7,x8,x9,x10,x11] XS x9 ((9:Nat):Int))
  (exM:ExD K [x0,x1,x2,x3,x4,x5,x6,x7,x8,x9,x10,x11] XS x10 ((10:Nat):Int))
  (exY:ExD K [x0,x1,x2,x3,x4,x5,x6,x7,x8,x9,x10,x11] XS x11 ((11:Nat):Int))
  (z1:NV K "len" none)
  (z2:NV K "max" none)
  (z3:NV K "min" none)
  (z4:NV K "range" none)
  (z5:NV K "list" none)
  (z6:NV K "int" none)
  (z7:NV K "all" none)
  (z8:NV K "isinstance" none)
  (z9:NV K "bool" none)
  (z10:NV K "str" none)
  (z11:NV K "tuple" none)
  (z12:NV K "sorted" none)
  (z13:NV K "enumerate" none)
  (z14:NV K "zip" none)
  (z15:NV K "sum" none)
  (z16:NV K "any" none)
  (z17:NV K "abs" none)
  (z18:NV K "ValueError" none)
  :∃fd:FuncData,(∀(s:Shared) (v:Value),BindsTo s fd ⟨[v],[]⟩ [("script",v)])/\∀base:Heap,K.In base->base.Ns mainGlobals mg->zH l.prog w K mg base zT 34 fa fd ["script"] (zEb K):=by
 obtain ⟨a61,d61_,F61,b61,k61⟩:=e61;obtain ⟨a62,d62_,F62,b62,k62⟩:=e62;obtain ⟨a64,d64_,F64,b64,k64⟩:=e64;obtain ⟨a1,d1_,F1,b1,k1⟩:=e1;obtain ⟨a3,d3_,F3,b3,k3⟩:=e3;obtain ⟨a4,d4_,F4,b4,k4⟩:=e4;obtain ⟨a6,d6_,F6,b6,k6⟩:=e6;obtain ⟨a8,d8_,F8,b8,k8⟩:=e8;obtain ⟨a12,d12_,F12,b12,k12⟩:=e12;obtain ⟨a13,d13_,F13,b13,k13⟩:=e13;obtain ⟨a14,d14_,F14,b14,k14⟩:=e14;obtain ⟨a15,d15_,F15,b15,k15⟩:=e15;obtain ⟨a16,d16_,F16,b16,k16⟩:=e16;obtain ⟨a25,d25_,F25,b25,k25⟩:=e25;obtain ⟨a26,d26_,F26,b26,k26⟩:=e26;obtain ⟨a31,d31_,F31,b31,k31⟩:=e31;obtain ⟨a32,d32_,F32,b32,k32⟩:=e32;obtain ⟨a33,d33_,F33,b33,k33⟩:=e33;obtain ⟨a34,d34_,F34,b34,k34⟩:=e34;obtain ⟨a35,d35_,F35,b35,k35⟩:=e35;obtain ⟨a36,d36_,F36,b36,k36⟩:=e36;obtain ⟨a37,d37_,F37,b37,k37⟩:=e37;obtain ⟨a38,d38_,F38,b38,k38⟩:=e38;obtain ⟨a39,d39_,F39,b39,k39⟩:=e39;obtain ⟨a40,d40_,F40,b40,k40⟩:=e40;obtain ⟨a41,d41_,F41,b41,k41⟩:=e41;obtain ⟨a42,d42_,F42,b42,k42⟩:=e42;obtain ⟨a43,d43_,F43,b43,k43⟩:=e43;obtain ⟨a44,d44_,F44,b44,k44⟩:=e44;obtain ⟨a45,d45_,F45,b45,k45⟩:=e45;obtain ⟨a46,d46_,F46,b46,k46⟩:=e46;obtain ⟨a47,d47_,F47,b47,k47⟩:=e47;obtain ⟨a48,d48_,F48,b48,k48⟩:=e48;obtain ⟨a49,d49_,F49,b49,k49⟩:=e49;obtain ⟨a55,d55_,F55,b55,k55⟩:=e55;obtain ⟨a56,d56_,F56,b56,k56⟩:=e56;obtain ⟨a57,d57_,F57,b57,k57⟩:=e57;obtain ⟨a58,d58_,F58,b58,k58⟩:=e58;obtain ⟨a63,d63_,F63,b63,k63⟩:=e63;obtain ⟨a65,d65_,F65,b65,k65⟩:=e65;obtain ⟨a2,d2_,F2,b2,k2⟩:=e2;obtain ⟨a7,d7_,F7,b7,k7⟩:=e7;obtain ⟨a9,d9_,F9,b9,k9⟩:=e9;obtain ⟨a10,d10_,F10,b10,k10⟩:=e10;obtain ⟨a17,d17_,F17,b17,k17⟩:=e17;obtain ⟨a18,d18_,F18,b18,k18⟩:=e18;obtain ⟨a22,d22_,F22,b22,k22⟩:=e22;obtain ⟨a23,d23_,F23,b23,k23⟩:=e23;obtain ⟨a24,d24_,F24,b24,k24⟩:=e24;obtain ⟨a27,d27_,F27,b27,k27⟩:=e27;obtain ⟨a28,d28_,F28,b28,k28⟩:=e28;obtain ⟨a29,d29_,F29,b29,k29⟩:=e29;obtain ⟨a30,d30_,F30,b30,k30⟩:=e30;obtain ⟨a50,d50_,F50,b50,k50⟩:=e50;obtain ⟨a51,d51_,F51,b51,k51⟩:=e51;obtain ⟨a52,d52_,F52,b52,k52⟩:=e52;obtain ⟨a53,d53_,F53,b53,k53⟩:=e53;obtain ⟨a54,d54_,F54,b54,k54⟩:=e54;obtain ⟨a59,d59_,F59,b59,k59⟩:=e59;obtain ⟨a60,d60_,F60,b60,k60⟩:=e60;obtain ⟨a5,d5_,F5,b5,k5⟩:=e5;obtain ⟨a11,d11_,F11,b11,k11⟩:=e11;obtain ⟨a19,d19_,F19,b19,k19⟩:=e19;obtain ⟨a20,d20_,F20,b20,k20⟩:=e20;obtain ⟨a21,d21_,F21,b21,k21⟩:=e21;obtain ⟨aC1,⟨pg1,hd1,po1,sa1⟩,mk1,kc1⟩:=y1_;obtain ⟨aC2,⟨pg2,hd2,po2,sa2⟩,mk2,kc2⟩:=y2_;obtain ⟨aC3,⟨pg3,hd3,po3,sa3⟩,mk3,kc3⟩:=y3_;obtain ⟨aC4,⟨pg4,hd4,po4,sa4⟩,mk4,kc4⟩:=y4_;obtain ⟨aC5,⟨pg5,hd5,po5,sa5⟩,mk5,kc5⟩:=y5_;obtain ⟨a69,i69,d69_,F69,b69,k69⟩:=e69;obtain ⟨a74,i74,d74_,F74,b74,k74⟩:=e74;obtain ⟨a80,i80,d80_,F80,b80,k80⟩:=e80;obtain ⟨a90,i90,d90_,F90,b90,k90⟩:=e90;obtain ⟨a92,i92,d92_,F92,b92,k92⟩:=e92;obtain ⟨a93,i93,d93_,F93,b93,k93⟩:=e93;obtain ⟨a77,i77,d77_,F77,b77,k77⟩:=e77;obtain ⟨a79,i79,d79_,F79,b79,k79⟩:=e79;obtain ⟨a82,i82,d82_,F82,b82,k82⟩:=e82;obtain ⟨a83,i83,d83_,F83,b83,k83⟩:=e83;obtain ⟨a84,i84,d84_,F84,b84,k84⟩:=e84;obtain ⟨a85,i85,d85_,F85,b85,k85⟩:=e85;obtain ⟨a86,i86,d86_,F86,b86,k86⟩:=e86;obtain ⟨a94,i94,d94_,F94,b94,k94⟩:=e94;obtain ⟨a96,i96,d96_,F96,b96,k96⟩:=e96
 obtain ⟨a97,i97,d97_,F97,b97,k97⟩:=e97;obtain ⟨a67,i67,d67_,F67,b67,k67⟩:=e67;obtain ⟨a68,i68,d68_,F68,b68,k68⟩:=e68;obtain ⟨a70,i70,d70_,F70,b70,k70⟩:=e70;obtain ⟨a72,i72,d72_,F72,b72,k72⟩:=e72;obtain ⟨a73,i73,d73_,F73,b73,k73⟩:=e73;obtain ⟨a78,i78,d78_,F78,b78,k78⟩:=e78;obtain ⟨a81,i81,d81_,F81,b81,k81⟩:=e81;obtain ⟨a87,i87,d87_,F87,b87,k87⟩:=e87;obtain ⟨a88,i88,d88_,F88,b88,k88⟩:=e88;obtain ⟨a89,i89,d89_,F89,b89,k89⟩:=e89;obtain ⟨a91,i91,d91_,F91,b91,k91⟩:=e91;obtain ⟨a95,i95,d95_,F95,b95,k95⟩:=e95;obtain ⟨a66,i66,d66_,F66,b66,k66⟩:=e66;obtain ⟨a71,i71,d71_,F71,b71,k71⟩:=e71;obtain ⟨a75,i75,d75_,F75,b75,k75⟩:=e75;obtain ⟨a76,i76,d76_,F76,b76,k76⟩:=e76;obtain ⟨d98_,F98,b98,k98⟩:=e98;cases hfa.symm.trans (W.mg_of X G a65);have M:∀(x:Str) (v:Value),W.nsIn K mainGlobals x=some (some v)->mg x=some v:=λx v h=>W.mg_of X G h
 have zb:∀x:Str,W.nsIn K mainGlobals x=some none->mg x=none:=λx h=>W.mg_none_of X G h
 refine ⟨d65_,?_,λbase _ _=>?_⟩
 ·obtain ⟨_,_,_,_,_,_,_,_,_,rfl,_⟩:=F65.ex
  exact λs v=> .of_eq rfl
 have B4:Bt4 mg:={len:=zb "len" z1,max:=zb "max" z2,min:=zb "min" z3,range:=zb "range" z4,list:=zb "list" z5,int:=zb "int" z6,all:=zb "all" z7,isinstance:=zb "isinstance" z8,bool:=zb "bool" z9,str:=zb "str" z10,tuple:=zb "tuple" z11,sorted:=zb "sorted" z12,enumerate:=zb "enumerate" z13,zip:=zb "zip" z14,sum:=zb "sum" z15};have B:=B4.toBt3;have BL:BtL mg:={toBt3:=B,abs:=zb "abs" z17};have TX:ExT mg x0 x1 x2 x3 x4 x5 x6 x7 x8 x9 x10 x11 XS:=⟨M _ _ ax0,M _ _ ax1,M _ _ ax2,M _ _ ax3,M _ _ ax4,M _ _ ax5,M _ _ ax6,M _ _ ax7,M _ _ ax8,M _ _ ax9,M _ _ ax10,M _ _ ax11,M _ _ axS,zb "ValueError" z18⟩;have TS:zBz K C1:={cl:=⟨pg1,hd1,po1,sa1⟩,nA:=nn1_1,nN:=nn1_2,nW:=nn1_3,nL:=nn1_4,nO:=nn1_5};have TT:TyT K C2:={cl:=⟨pg2,hd2,po2,sa2⟩,nA:=nn2_1,nN:=nn2_2,nW:=nn2_3,nL:=nn2_4,nK:=nn2_5};have TK:KpT K C3:=⟨⟨pg3,hd3,po3,sa3⟩,nn3_1,nn3_2⟩;have TR:Rh.RcT K C4:={cl:=⟨pg4,hd4,po4,sa4⟩,nA:=nn4_1,nN:=nn4_2,nW:=nn4_3,nK:=nn4_4};have TD:DkT K C5:=⟨⟨pg5,hd5,po5,sa5⟩,nn5_1⟩;have KD:yv K w d1 [("squares",u1, .ref y1),("threes",u2, .ref y2),("primes",u3, .ref y3),("powers",u4, .ref y4)]:=⟨lo1,(by decide +kernel:(["squares","threes","primes","powers"]:List Str).Nodup),_,ld1⟩;have KA:yv K w d2 [("rows",u5, .ref f43),("rings",u6, .ref f44),("row",u7, .ref f45),("ring",u8, .ref f46),("longest",u9, .ref f47),("cut",u10, .ref f48),("show",u11, .ref f49)]:=⟨lo2,(by decide +kernel:(["rows","rings","row","ring","longest","cut","show"]:List Str).Nodup),_,ld2⟩;have KS:yv K w d3 [("come",u12, .ref f50),("go",u13, .ref f51),("sum",u14, .ref f52),("unsum",u15, .ref f53),("nth",u16, .ref f54)]:=⟨lo3,(by decide +kernel:(["come","go","sum","unsum","nth"]:List Str).Nodup),_,ld3⟩;have KO:yv K w d4 [("plan",u17, .ref o1),("kind",u18, .ref o2),("drop",u19, .ref o3)]:=⟨lo4,(by decide +kernel:(["plan","kind","drop"]:List Str).Nodup),_,ld4⟩;have OW:=zIN (P:=l.prog) (w:=w) (base:=base) F1 B.toBt2;have OR:=zLj F2 B.toBt2 (M _ _ m1) OW b1 k1 (M _ _ a1);have OI:=zNJ F3 B.toBt2 OR b2 k2 (M _ _ a2);have OC:=zNI F4 OI b3 k3 (M _ _ a3);have OA:=zPr (P:=l.prog) (w:=w) (mg:=mg) (base:=base) F5;have OAP:=zNT (P:=l.prog) (w:=w) (base:=base) F8 B;have ON:=zMv F9 B OA b5 k5 (M _ _ a5);have ONM:=zMp (P:=l.prog) (w:=w) (mg:=mg) (base:=base) F10;have OI1:=zDT F98 B TS.toSrT ON b9 k9 (M _ _ a9);have OIN:=zOm F66 B TS ⟨ga1,rd1,a98,k98⟩ (M _ _ aB1) OI1 b98;have OSS:=zBv (P:=l.prog) (w:=w) (mg:=mg) (base:=base) F70 TS.toSrT;have OCA:=zGb F67 F68 TS ⟨a67,i67,k67⟩ ⟨a68,i68,k68⟩ ⟨a70,i70,k70⟩ OSS b70 b67 b68 10;have OFN:=zPW (P:=l.prog) (w:=w) (mg:=mg) (base:=base) F69 TS;have OFR:=zMo F11 TS ⟨mk1,a66,i66,kc1⟩ (M _ _ aC1) ⟨a67,i67,k67⟩ ⟨a69,i69,k69⟩ (OIN.mono (by decide)) b66 OCA b67 (OFN.mono (by decide)) b69 (ONM.mono (by decide)) b10 k10 (M _ _ a10);have ORW:=zNn F12 (OC.mono (by decide)) b4 k4 (M _ _ a4) OFR b11 k11 (M _ _ a11) (OAP.mono (by decide)) b8 k8 (M _ _ a8);have ORG:=zKl F13 B (M _ _ m3) (OC.mono (by decide)) b4 k4 (M _ _ a4) OFR b11 k11 (M _ _ a11) (ON.mono (by decide)) b9 k9 (M _ _ a9);have OI2:=zDT F98 B TT.toSrT ON b9 k9 (M _ _ a9)
 have OTA:=zOM F71 B TT ⟨ga1,rd1,a98,k98⟩ (M _ _ aB1) OI2 b98;have OSY:=zBv (P:=l.prog) (w:=w) (mg:=mg) (base:=base) F78 TT.toSrT;have OWT:=zDC F72 F73 B4 TT ⟨a72,i72,k72⟩ ⟨a73,i73,k73⟩ ⟨a78,i78,k78⟩ OSY b78 b72 b73 10;have OAL:=zRl F74 TT ⟨a72,i72,k72⟩ OWT b72;have OTR:=zQx F14 ⟨mk2,a71,i71,kc2⟩ (M _ _ aC2) OTA b71 (OAP.mono (by decide)) b8 k8 (M _ _ a8);have OCR:=zQf F15 TT ⟨a74,i74,k74⟩ OAL b74 (OC.mono (by decide)) b4 k4 (M _ _ a4) (OTR.mono (by decide)) b14 k14 (M _ _ a14);have OCG:=zQR F16 B TT (M _ _ m3) ⟨a74,i74,k74⟩ ⟨mk2,a71,i71,kc2⟩ (M _ _ aC2) (OTA.mono (by decide)) b71 OAL b74 (OC.mono (by decide)) b4 k4 (M _ _ a4) (ON.mono (by decide)) b9 k9 (M _ _ a9);have OWB:=zMW F73 TT ⟨a72,i72,k72⟩ (zDC F72 F73 B4 TT ⟨a72,i72,k72⟩ ⟨a73,i73,k73⟩ ⟨a78,i78,k78⟩ OSY b78 b72 b73 9) b72;have OWA:=zOG F75 B4 TT ⟨a73,i73,k73⟩ ⟨a78,i78,k78⟩ (OWB.mono (by decide:21≤22)) b73 (OSY.mono (by decide)) b78;have OSB:=zRW F76 TT ⟨a75,i75,k75⟩ ⟨a78,i78,k78⟩ OWA b75 (OSY.mono (by decide)) b78;have OPB:=zHC F77 TT ⟨a75,i75,k75⟩ ⟨a76,i76,k76⟩ (OWA.mono (by decide)) b75 OSB b76;have ORB:=zOc F17 TT exL.i TX.m3 ⟨a74,i74,k74⟩ ⟨a77,i77,k77⟩ (OAL.mono (by decide)) b74 OPB b77 (OC.mono (by decide)) b4 k4 (M _ _ a4) (OTR.mono (by decide)) b14 k14 (M _ _ a14) (OW.mono (by decide)) b1 k1 (M _ _ a1) (ONM.mono (by decide)) b10 k10 (M _ _ a10);have OI3:=zDT F98 B TR.toSrT ON b9 k9 (M _ _ a9);have ORI:=Rh.zOT F86 TR ⟨ga1,rd1,a98,k98⟩ (M _ _ aB1) OI3 b98 (OAP.mono (by decide)) b8 k8 (M _ _ a8);have OSR:=zBv (P:=l.prog) (w:=w) (mg:=mg) (base:=base) F91 TR.toSrT;have OMO:=Rh.zDH F87 F88 B4 TR ⟨a87,i87,k87⟩ ⟨a88,i88,k88⟩ ⟨a91,i91,k91⟩ OSR b91 b87 b88 10;have OMB:=Rh.zMX F88 TR ⟨a87,i87,k87⟩ (Rh.zDH F87 F88 B4 TR ⟨a87,i87,k87⟩ ⟨a88,i88,k88⟩ ⟨a91,i91,k91⟩ OSR b91 b87 b88 9) b87;have OLS:=Rh.zRA F89 TR ⟨a87,i87,k87⟩ ⟨a88,i88,k88⟩ ⟨a91,i91,k91⟩ (OMO.mono (by decide:22≤23)) b87 (OMB.mono (by decide)) b88 (OSR.mono (by decide)) b91;have OLP:=Rh.zRJ F90 TR ⟨a87,i87,k87⟩ ⟨a89,i89,k89⟩ (OMO.mono (by decide)) b87 OLS b89;have OPT:=Rh.zPH F31 TR ⟨a90,i90,k90⟩ ⟨mk4,a86,i86,kc4⟩ (M _ _ aC4) (ORI.mono (by decide)) b86 OLP b90 (OC.mono (by decide)) b4 k4 (M _ _ a4) (ONM.mono (by decide)) b10 k10 (M _ _ a10);have OIC:=Ct.zNs F18 B4 OR b2 k2 (M _ _ a2);have OBE:=Ct.zQE F19 (zb "any" z16) OA b5 k5 (M _ _ a5);have OWD:=Ct.zQD F20 OBE b19 k19 (M _ _ a19);have OPW:=Ct.zQu F21 OWD b20 k20 (M _ _ a20);have OPH:=Ct.zHC F22 OPW b21 k21 (M _ _ a21);have OSN:=(Ct.zNm F23 B (OC.mono (by decide)) b4 k4 (M _ _ a4) (OIC.mono (by decide)) b18 k18 (M _ _ a18) OPH b22 k22 (M _ _ a22)).imp (λ_ _ _ _ h=>Ct.zNP h);have ORL:=Ct.zJK (P:=l.prog) (w:=w) (base:=base) F24 B b24 k24 (M _ _ a24) 4;have OCU:=Ct.zPd F25 B (M _ _ m4) (OC.mono (by decide)) b4 k4 (M _ _ a4) (ORL.mono (by decide)) b24 k24 (M _ _ a24) OSN b23 k23 (M _ _ a23);have ORM:=zMt (P:=l.prog) (w:=w) (base:=base) F26 B (M _ _ m1) exT.i TX.m8;have OSD:=zPc F27 OW b1 k1 (M _ _ a1);have ONE:=zPi F28 OW b1 k1 (M _ _ a1);have OK0:=zMn F79 B TK (OC.mono (by decide)) b4 k4 (M _ _ a4)
 have OKP:=zPJ (P:=l.prog) (w:=w) (base:=base) F80 B TK;have OCO:=zPp F82 B TK exN.i TX.m1 (ORM.mono (by decide)) b26 k26 (M _ _ a26) (ONE.mono (by decide)) b28 k28 (M _ _ a28) yd b29 k29 (M _ _ a29) ⟨a81,i81,k81⟩ yd b81;have OGO:=zQB (XT:=x8) F83 B TK exN.i TX.m1 (OSD.mono (by decide)) b27 k27 (M _ _ a27) yd b30 k30 (M _ _ a30) ⟨a81,i81,k81⟩ yd b81;have OSC:=zOB F84 B TK exU.i TX.m7 (ORM.mono (by decide)) b26 k26 (M _ _ a26) (ONE.mono (by decide)) b28 k28 (M _ _ a28) yd b29 k29 (M _ _ a29) ⟨a81,i81,k81⟩ yd b81;have OSG:=zPQ (XT:=x8) F85 B TK exU.i TX.m7 (OSD.mono (by decide)) b27 k27 (M _ _ a27) yd b30 k30 (M _ _ a30) ⟨a81,i81,k81⟩ yd b81;have OWR:=Tt.zQQ (P:=l.prog) (w:=w) (base:=base) F32 B.toBt2 (M _ _ m5);have OBK:=Tt.zPl (P:=l.prog) (w:=w) (base:=base) F33 B.toBt2;have OSH:=Tt.zLX F34 B.toBt2 OC b4 k4 (M _ _ a4) (OBK.mono (by decide)) b33 k33 (M _ _ a33);have ONI:=Tt.zNK F35 B.toBt2 exX.i TX.m9 OWR b32 k32 (M _ _ a32);have OSW:=Tt.zOC (P:=l.prog) (w:=w) (base:=base) F36 exX.i TX.m9;have ORD:=Tt.zJv F37 B.toBt2 exX.i TX.m9 (ONI.mono (by decide)) b35 k35 (M _ _ a35) (OSW.mono (by decide)) b36 k36 (M _ _ a36) (OI.mono (by decide)) b3 k3 (M _ _ a3);have OSM:=zOh (P:=l.prog) (w:=w) (base:=base) F38 B.toBt2 (M _ _ m6);have ONA:=zPv F39 B.toBt2 (M _ _ m7) OSM b38 k38 (M _ _ a38);have OSX:=zOb F40 B.toBt2 (M _ _ m8) OWR b32 k32 (M _ _ a32);have OAY:=zPE (P:=l.prog) (w:=w) (mg:=mg) (base:=base) F41;have OSO:=zPw F42 (M _ _ m10) OBK b33 k33 (M _ _ a33);have OT1:=zLK F43 B.toBt2 (OCR.mono (by decide)) b15 k15 (M _ _ a15);have OT2:=zIi F44 B.toBt2 (OCG.mono (by decide)) b16 k16 (M _ _ a16);have OT3:=zNi F45 (ORW.mono (by decide)) b12 k12 (M _ _ a12) (OSO.mono (by decide)) b42 k42 (M _ _ a42);have OT4:=zKi F46 (ORG.mono (by decide)) b13 k13 (M _ _ a13) (OSO.mono (by decide)) b42 k42 (M _ _ a42);have OT5:=zFv F47 (OPT.mono (by decide)) b31 k31 (M _ _ a31) (OBK.mono (by decide)) b33 k33 (M _ _ a33);have OT6:=zMj F48 (M _ _ m11) (OCU.mono (by decide)) b25 k25 (M _ _ a25) (OSO.mono (by decide)) b42 k42 (M _ _ a42);have OT7:=zGA F49 (OSH.mono (by decide)) b34 k34 (M _ _ a34);have OD1:=zRZ F50 TK (M _ _ m9) ⟨a82,i82,k82⟩ (OCO.mono (by decide)) b82;have OD2:=zQp F51 TK (M _ _ m9) ⟨a83,i83,k83⟩ (OGO.mono (by decide)) b83;have OD3:=zOJ F52 TK (M _ _ m9) ⟨a84,i84,k84⟩ (OSC.mono (by decide)) b84;have OD4:=zOD F53 TK (M _ _ m9) ⟨a85,i85,k85⟩ (OSG.mono (by decide)) b85;have OD5:=zPF F54 TK ⟨a80,i80,k80⟩ (OKP.mono (by decide)) b80 (ORB.mono (by decide)) b17 k17 (M _ _ a17) (OBK.mono (by decide)) b33 k33 (M _ _ a33);have OCK:=zPz (P:=l.prog) (base:=base) F6 B.toBt2 KD (M _ _ ad1) exK.i TX.m2;have OPO:=zPO F7 B.toBt2 KD (M _ _ ad1) (M _ _ m1) (M _ _ m2) exN.i TX.m1 (OCK.mono (by decide)) b6 k6 (M _ _ a6) (OW.mono (by decide)) b1 k1 (M _ _ a1);have OFB:=zRr (P:=l.prog) (base:=base) (FA:=λn=>[f39,f38,f40,f41].getD n f39) F55 KA (M _ _ ad2) KS (M _ _ ad3) KO (M _ _ ad4) (λz=>J2 z _) (λz=>J2 z _) (λz=>zKK _ _ _ _ _ _ _ _ _ z)
  (zFF lt1 (show 2≤sizeLine by decide) (.cons rfl (.cons rfl .nil))) (zFF lt2 (show 3≤sizeLine by decide) (.cons rfl (.cons rfl (.cons rfl .nil)))) (zFF lt3 (show 1≤sizeLine by decide) (.cons rfl .nil)) (M _ _ a39) (M _ _ a40)
 have OWO:=zQq (P:=l.prog) (w:=w) (mg:=mg) (base:=base) F56;have OIY:=zPB F57 B4 (OFB.mono (by decide)) b55 k55 (M _ _ a55) (λf sp h=>by
  obtain ⟨i,hi,rfl,rfl⟩:=h
  match i,hi with
  | 0,_=>exact ⟨_,_,ONA.mono (by decide),k39,b39⟩
  | 1,_=>exact ⟨_,_,OSM.mono (by decide),k38,b38⟩
  | 2,_=>exact ⟨_,_,OSX.mono (by decide),k40,b40⟩
  | 3,_=>exact ⟨_,_,OAY.mono (by decide),k41,b41⟩)
 have OSY2:=zPq F58 B.toBt2 exY.i TX.m11 (OWO.mono (by decide)) b56 k56 (M _ _ a56) OIY b57 k57 (M _ _ a57);have ODI:=zQK (P:=l.prog) (w:=w) (mg:=mg) (base:=base) F92 TD;have ODN:=zPT (P:=l.prog) (w:=w) (base:=base) (C:=C3) F93 B.toBt2 TD;have ODK:=zOQ (P:=l.prog) (w:=w) (base:=base) (C:=C3) F94 TD exM.i TX.m10;have ODP:=zOx F95 TD (M _ _ m9) ⟨mk3,a79,i79,kc3⟩ OK0 (M _ _ aC3) b79;have nS:=KS.nd;have nA:=KA.nd;have OSAY:=zOU (XC:=λn=>(zCB x0 x1 x2 x3 x4 x5 x6 x7 x8 x9 x10 x11).getD n x0) F97 B.toBt2 TD TK KA (M _ _ ad2) KS (M _ _ ad3)
  (λz h=>zEz (by intro e he; simp only [qG,QZ,or_false] at he; rcases he with rfl | rfl | rfl | rfl | rfl | rfl | rfl <;> exact ⟨_,rfl⟩) h) (λz=>J2 z _)
  (λz h=>zEz (by intro e he; simp only [qG,QZ,or_false] at he; rcases he with rfl | rfl | rfl | rfl | rfl <;> exact ⟨_,rfl⟩) h) (λz=>J2 z _)
  (OSY2.mono (by decide)) b58 k58 (M _ _ a58) (ORD.mono (by decide)) b37 k37 (M _ _ a37) (OPO.mono (by decide)) b7 k7 (M _ _ a7) ⟨a95,i95,k95⟩ (ODP.mono (by decide)) b95 ⟨a94,i94,k94⟩ (ODK.mono (by decide)) b94 ⟨a96,i96,k96⟩ yd b96 ⟨a80,i80,k80⟩ (OKP.mono (by decide)) b80
  (λf sp h=>by
   rcases h with ⟨h,rfl⟩ | ⟨h,rfl⟩ | ⟨h,rfl⟩ | ⟨h,rfl⟩ | ⟨h,rfl⟩
   ·cases (Yk 0 nS rfl).symm.trans h
    exact ⟨_,_,OD1.mono (by decide),k50,b50⟩
   ·cases (Yk 1 nS rfl).symm.trans h
    exact ⟨_,_,OD2.mono (by decide),k51,b51⟩
   ·cases (Yk 2 nS rfl).symm.trans h
    exact ⟨_,_,OD3.mono (by decide),k52,b52⟩
   ·cases (Yk 3 nS rfl).symm.trans h
    exact ⟨_,_,OD4.mono (by decide),k53,b53⟩
   ·cases (Yk 4 nS rfl).symm.trans h
    exact ⟨_,_,OD5.mono (by decide),k54,b54⟩)
  (λf sp h=>by
   obtain ⟨v,hv,h,rfl⟩:=h;simp only [Yp,qQ,List.map_nil,qG,QZ,or_false] at hv;rcases hv with rfl | rfl | rfl | rfl | rfl | rfl | rfl
   ·cases (Yk 0 nA rfl).symm.trans h
    exact ⟨_,_,OT1.mono (by decide),k43,b43⟩
   ·cases (Yk 1 nA rfl).symm.trans h
    exact ⟨_,_,OT2.mono (by decide),k44,b44⟩
   ·cases (Yk 2 nA rfl).symm.trans h
    exact ⟨_,_,OT3.mono (by decide),k45,b45⟩
   ·cases (Yk 3 nA rfl).symm.trans h
    exact ⟨_,_,OT4.mono (by decide),k46,b46⟩
   ·cases (Yk 4 nA rfl).symm.trans h
    exact ⟨_,_,OT5.mono (by decide),k47,b47⟩
   ·cases (Yk 5 nA rfl).symm.trans h
    exact ⟨_,_,OT6.mono (by decide),k48,b48⟩
   ·cases (Yk 6 nA rfl).symm.trans h
    exact ⟨_,_,OT7.mono (by decide),k49,b49⟩)
 have OSAID:=zMw F60 B.toBt2 TX TX.mS TD (by
  intro n hn;simp only [yO,qG,QZ,or_false] at hn;rcases hn with rfl | rfl | rfl | rfl | rfl | rfl | rfl | rfl
  ·exact exK
  ·exact exM
  ·exact exN
  ·exact exL
  ·exact exY
  ·exact exU
  ·exact exX
  ·exact exT) ⟨a97,i97,k97⟩ OSAY b97
 have OCE:=zNL (P:=l.prog) (w:=w) (base:=base) F59 B;have ONO:=zNx (P:=l.prog) (w:=w) (mg:=mg) (base:=base) F61;have OOT:=zPb (P:=l.prog) (w:=w) (mg:=mg) (base:=base) F62;have OTX:=zQM (P:=l.prog) (w:=w) (mg:=mg) (base:=base) F64;have OSP:=zOn (P:=l.prog) (w:=w) (base:=base) F63 B.toBt2;exact zPC F65 BL TD (ONO.mono (by decide)) b61 k61 (M _ _ a61) (OOT.mono (by decide)) b62 k62 (M _ _ a62) (OTX.mono (by decide)) b64 k64 (M _ _ a64) (OCE.mono (by decide)) b59 k59 (M _ _ a59) (OSP.mono (by decide)) b63 k63 (M _ _ a63) (OSAID.mono (by decide)) b60 k60 (M _ _ a60) ⟨mk5,a92,i92,kc5⟩ (ODI.mono (by decide)) (M _ _ aC5) b92 ⟨a97,i97,k97⟩ (OSAY.cx0.mono (by decide)) b97 ⟨a93,i93,k93⟩ (ODN.mono (by decide)) b93
theorem walk {l:W.OpenLaw} {q:Program} {loose:List Str} {XP:(Str->Option Value)->Heap->Prop} {YP:World->Heap->Prop} {d:DefRec} {K:Params->W.Frag} (hn:l.most=some 63) (hdf:d.params.defaults=[])
  (hY:∀(w:World) (h:Heap),YP w h->(K w.params).In h)
  (F:∀(w:World) (mg:Str->Option Value) (fa:Addr) (h:Heap),(K w.params).In h->h.Ns mainGlobals mg->mg d.name=some (.ref fa)->
   ∃fd:FuncData,(∀(s:Shared) (u:Value),BindsTo s fd ⟨[u],[]⟩ [("script",u)])/\∀base:Heap,(K w.params).In base->base.Ns mainGlobals mg->zH l.prog w (K w.params) mg base zT 34 fa fd ["script"] (zEb (K w.params))):
  W.WalkO q loose XP YP l.row.toRowW d [] (λf vs=>PySem.call f vs):=
 L2.zNw (n:=63) (k:=34) (x:="script") (CX:=λ_=>zT) (sp:=λw=>zEb (K w.params)) hn (by decide) hdf ⟨rfl,by decide,by decide,rfl⟩ hY F (λ_ _ a ns hl _ hS=>⟨a,ns,rfl,hS,hl,λ_=>rfl⟩) λ_ _ _ _ _ z=>z
end N48
def PySem.W.Fast.tw8950893649332900777 : Nat := 0
def PySem.W.Fast.tw6509810556208590453 : Nat := 0
def PySem.W.Fast.tw3297910606598534891 : Nat := 0
def PySem.W.Fast.tw2954420323402280877 : Nat := 0
def PySem.W.Fast.tw1261515500636524216 : Nat := 0
def PySem.W.Fast.tw12920183410798263163 : Nat := 0
def PySem.W.Fast.tw10836251938876448064 : Nat := 0
def PySem.W.Fast.tw13880006106174400849 : Nat := 0
def PySem.W.Fast.tw8489349355417021452 : Nat := 0
def PySem.W.Fast.tw11052298078285144360 : Nat := 0
def PySem.W.Fast.tw8823732922754957807 : Nat := 0
def PySem.W.Fast.tw835732213927027989 : Nat := 0
def PySem.W.Fast.tw13009386311652109821 : Nat := 0
def PySem.W.Fast.tw7970807387309046561 : Nat := 0
def PySem.W.Fast.tw10814795436991551368 : Nat := 0
def PySem.W.Fast.tw18327482720019727170 : Nat := 0
def PySem.W.Fast.tw6967021809522293867 : Nat := 0
def PySem.W.Fast.tw13035980669586985053 : Nat := 0
def PySem.W.Fast.tw14317069590277829672 : Nat := 0
def PySem.W.Fast.tw8644732560061005023 : Nat := 0
def PySem.W.Fast.tw5514866540607542053 : Nat := 0
def PySem.W.Fast.tw3378177567172578738 : Nat := 0
def PySem.W.Fast.tw9231663220889608636 : Nat := 0
def PySem.W.Fast.tw1761985130493996277 : Nat := 0
def PySem.W.Fast.tw15977380214279336066 : Nat := 0
def PySem.W.Fast.tw16239646281403946555 : Nat := 0
def PySem.W.Fast.tw16906931383417344645 : Nat := 0
def PySem.W.Fast.tw5204643525811447874 : Nat := 0
def PySem.W.Fast.tw8535948615367904762 : Nat := 0
def PySem.W.Fast.tw11636083318797947592 : Nat := 0
def PySem.W.Fast.tw7432833433572323721 : Nat := 0
def PySem.W.Fast.tw9523627722816774428 : Nat := 0
def PySem.W.Fast.tw5967328674019063137 : Nat := 0
def PySem.W.Fast.tw18300805108675549883 : Nat := 0
def PySem.W.Fast.tw2921722359887154354 : Nat := 0
def PySem.W.Fast.tw13145470405769908861 : Nat := 0
def PySem.W.Fast.tw6815624920602179978 : Nat := 0
def PySem.W.Fast.tw12088902633844850342 : Nat := 0
def PySem.W.Fast.tw2441618234378762463 : Nat := 0
def PySem.W.Fast.tw2864131564883197537 : Nat := 0
def PySem.W.Fast.tw9434408171306808961 : Nat := 0
def PySem.W.Fast.tw1410182345260402156 : Nat := 0
def PySem.W.Fast.tw3672826100330866778 : Nat := 0
def PySem.W.Fast.tw66549630617945170 : Nat := 0
def PySem.W.Fast.tw3411571634486286103 : Nat := 0
def PySem.W.Fast.tw17882339484685260288 : Nat := 0
def PySem.W.Fast.tw9429022093703360663 : Nat := 0
def PySem.W.Fast.tw3955489243751511808 : Nat := 0
def PySem.W.Fast.tw11841288715418926359 : Nat := 0
def PySem.W.Fast.tw3350630264480424753 : Nat := 0
def PySem.W.Fast.tw12018188303349644871 : Nat := 0
def PySem.W.Fast.tw1962755132242471489 : Nat := 0
def PySem.W.Fast.tw9483397583787137355 : Nat := 0
def PySem.W.Fast.tw4566575076732035169 : Nat := 0
def PySem.W.Fast.tw2073415331562272823 : Nat := 0
def PySem.W.Fast.tw7886177769424687961 : Nat := 0
def PySem.W.Fast.tw12179973591241403875 : Nat := 0
def PySem.W.Fast.tw17989509197441858062 : Nat := 0
def PySem.W.Fast.tw12020024426818447262 : Nat := 0
def PySem.W.Fast.tw2326885119764146355 : Nat := 0
def PySem.W.Fast.tw10475778653766367044 : Nat := 0
def PySem.W.Fast.tw15332995353387941403 : Nat := 0
def PySem.W.Fast.tw320401542638438459 : Nat := 0
def PySem.W.Fast.tw3102971422906208038 : Nat := 0
def PySem.W.Fast.tw18348010817989712950 : Nat := 0
def PySem.W.Fast.tw15843760955911337341 : Nat := 0
def PySem.W.Fast.tw11952766479227149960 : Nat := 0
def PySem.W.Fast.tw6383199321744253006 : Nat := 0
def PySem.W.Fast.tw13100176127258370848 : Nat := 0
def PySem.W.Fast.tw13361839873258545995 : Nat := 0
def PySem.W.Fast.tw1802224664606883516 : Nat := 0
def PySem.W.Fast.tw13094128997496371103 : Nat := 0
def PySem.W.Fast.tw10834187042753847 : Nat := 0
def PySem.W.Fast.tw7700114031001050650 : Nat := 0
def PySem.W.Fast.tw4557440902318152510 : Nat := 0
def PySem.W.Fast.tw15429646020937921106 : Nat := 0
def PySem.W.Fast.tw15619993122128190399 : Nat := 0
def PySem.W.Fast.tw5470884337954047283 : Nat := 0
def PySem.W.Fast.tw10370780821900278761 : Nat := 0
def PySem.W.Fast.tw6560998647644981225 : Nat := 0
def PySem.W.Fast.tw13273735199069909851 : Nat := 0
def PySem.W.Fast.tw15970543227260816212 : Nat := 0
def PySem.W.Fast.tw743542253952249328 : Nat := 0
def PySem.W.Fast.tw526796363701005391 : Nat := 0
def PySem.W.Fast.tw2017569092740693784 : Nat := 0
def PySem.W.Fast.tw9727351634204546423 : Nat := 0
def PySem.W.Fast.tw9380381642461218989 : Nat := 0
def PySem.W.Fast.tw2604829649913879544 : Nat := 0
def PySem.W.Fast.tw12213329980631782465 : Nat := 0
def PySem.W.Fast.tw1256465562174856426 : Nat := 0
def PySem.W.Fast.tw4750371478493721438 : Nat := 0
def PySem.W.Fast.tw16653565787643818344 : Nat := 0
def PySem.W.Fast.tw7574583063448489976 : Nat := 0
def PySem.W.Fast.tw13488126604377038706 : Nat := 0
def PySem.W.Fast.tw6884663200708719455 : Nat := 0
def PySem.W.Fast.tw17125345002691753908 : Nat := 0
def PySem.W.Fast.tw6914898086614692778 : Nat := 0
def PySem.W.Fast.tw11751281127402858689 : Nat := 0
def PySem.W.Fast.tw13343145943476771621 : Nat := 0
def PySem.W.Fast.tw12475546905676691645 : Nat := 0
def PySem.W.Fast.tw15154575908921500093 : Nat := 0
def PySem.W.Fast.tw2080033718948279834 : Nat := 0
def PySem.W.Fast.tw7083051955232830150 : Nat := 0
def PySem.W.Fast.tw17259676465835970650 : Nat := 0
def PySem.W.Fast.tw17268671354510810567 : Nat := 0
def PySem.W.Fast.tw13654735257477954427 : Nat := 0
def PySem.W.Fast.tw13121741527710697143 : Nat := 0
def PySem.W.Fast.tw14328038442708057663 : Nat := 0
def PySem.W.Fast.tw1400233735976453209 : Nat := 0
def PySem.W.Fast.tw2354134380196739332 : Nat := 0
def PySem.W.Fast.tw9506351109680853629 : Nat := 0
def PySem.W.Fast.tw5884184188608571143 : Nat := 0
def PySem.W.Fast.tw15172850044915013415 : Nat := 0
def PySem.W.Fast.tw8004657228735975345 : Nat := 0
def PySem.W.Fast.tw7556062286013606941 : Nat := 0
def PySem.W.Fast.tw6456894028810020869 : Nat := 0
def PySem.W.Fast.tw4171720000255539758 : Nat := 0
def PySem.W.Fast.tw12242309053795481371 : Nat := 0
def PySem.W.Fast.tw17313034573994975142 : Nat := 0
def PySem.W.Fast.tw12922044730141465312 : Nat := 0
def PySem.W.Fast.tw6442558407637434897 : Nat := 0
def PySem.W.Fast.tw4955776908021345852 : Nat := 0
def PySem.W.Fast.tw4527942323717789727 : Nat := 0
def PySem.W.Fast.tw17705081284712671440 : Nat := 0
def PySem.W.Fast.tw609250112419665658 : Nat := 0
def PySem.W.Fast.tw9854695852612015350 : Nat := 0
def PySem.W.Fast.tw7052648105338329694 : Nat := 0
def PySem.W.Fast.tw12092092787767019139 : Nat := 0
def PySem.W.Fast.tw1008613182284271515 : Nat := 0
def PySem.W.Fast.tw9784693843086818959 : Nat := 0
def PySem.W.Fast.tw2194665304433154784 : Nat := 0
def PySem.W.Fast.tw15455128987810210939 : Nat := 0
def PySem.W.Fast.tw3237030412189397830 : Nat := 0
def PySem.W.Fast.tw5381728768034229882 : Nat := 0
def PySem.W.Fast.tw6263724972919127503 : Nat := 0
def PySem.W.Fast.tw2635898408351233973 : Nat := 0
def PySem.W.Fast.tw18302036721194568730 : Nat := 0
def PySem.W.Fast.tw14289279195051266260 : Nat := 0
def PySem.W.Fast.tw12707742632405976768 : Nat := 0
def PySem.W.Fast.tw5925158949279531706 : Nat := 0
def PySem.W.Fast.tw12624836558058764849 : Nat := 0
def PySem.W.Fast.tw7013591787125066381 : Nat := 0
def PySem.W.Fast.tw13569057903359270537 : Nat := 0
def PySem.W.Fast.tw15883644810097697912 : Nat := 0
def PySem.W.Fast.tw794382463975673721 : Nat := 0
def PySem.W.Fast.tw10377170877908748493 : Nat := 0
def PySem.W.Fast.tw2784585901925886174 : Nat := 0
def PySem.W.Fast.tw18240421972577366715 : Nat := 0
def PySem.W.Fast.tw13333886524006088571 : Nat := 0
def PySem.W.Fast.tw14984670854131025332 : Nat := 0
def PySem.W.Fast.tw6999193173140592963 : Nat := 0
def PySem.W.Fast.tw8154903382614409 : Nat := 0
def PySem.W.Fast.tw5294096783513326165 : Nat := 0
def PySem.W.Fast.tw8794666622237383649 : Nat := 0
def PySem.W.Fast.tw12311176383040598976 : Nat := 0
def PySem.W.Fast.tw5892339433182900846 : Nat := 0
def PySem.W.Fast.tw955085438156881072 : Nat := 0
def PySem.W.Fast.tw26713602505571399 : Nat := 0
def PySem.W.Fast.tw6967428938964734012 : Nat := 0
def PySem.W.Fast.tw3646001669588160972 : Nat := 0
def PySem.W.Fast.tw5521631394976553757 : Nat := 0
def PySem.W.Fast.tw14757052845445245922 : Nat := 0
def PySem.W.Fast.tw694187003506808349 : Nat := 0
def PySem.W.Fast.tw5465341202633402031 : Nat := 0
def PySem.W.Fast.tw6818493148101210879 : Nat := 0
def PySem.W.Fast.tw8002306631377526272 : Nat := 0
def PySem.W.Fast.tw12409217024753611393 : Nat := 0
def PySem.W.Fast.tw17460564907495642551 : Nat := 0
def PySem.W.Fast.tw5588701521963477655 : Nat := 0
def PySem.W.Fast.tw16461571977097694392 : Nat := 0
def PySem.W.Fast.tw4580626281502294333 : Nat := 0
def PySem.W.Fast.tw5044134949133587408 : Nat := 0
def PySem.W.Fast.tw9207178051055607611 : Nat := 0
def PySem.W.Fast.tw597520244239574431 : Nat := 0
def PySem.W.Fast.tw6244053059735522751 : Nat := 0
def PySem.W.Fast.tw8384170793030759172 : Nat := 0
def PySem.W.Fast.tw4534367299407480901 : Nat := 0
def PySem.W.Fast.tw980217629981688507 : Nat := 0
def PySem.W.Fast.tw3745739593934155997 : Nat := 0
def PySem.W.Fast.tw18039602045297407382 : Nat := 0
def PySem.W.Fast.tw6680771778343200722 : Nat := 0
def PySem.W.Fast.tw289126608770385424 : Nat := 0
def PySem.W.Fast.tw9982059113821573298 : Nat := 0
def PySem.W.Fast.tw11616118935877041107 : Nat := 0
def PySem.W.Fast.tw8752347539607069854 : Nat := 0
def PySem.W.Fast.tw12654367440520544113 : Nat := 0
def PySem.W.Fast.tw141478480564814906 : Nat := 0
def PySem.W.Fast.tw6336659023371139233 : Nat := 0
def PySem.W.Fast.tw6303707018374175074 : Nat := 0
def PySem.W.Fast.tw6904491432189618124 : Nat := 0
def PySem.W.Fast.tw9701201936965117405 : Nat := 0
def PySem.W.Fast.tw17526772274300136575 : Nat := 0
def PySem.W.Fast.tw4029026726721287637 : Nat := 0
def PySem.W.Fast.tw16346650519956365897 : Nat := 0
def PySem.W.Fast.tw17413034197183255850 : Nat := 0
def PySem.W.Fast.tw9570159950965050148 : Nat := 0
def PySem.W.Fast.tw8860587846474827099 : Nat := 0
def PySem.W.Fast.tw9880407434673211518 : Nat := 0
def PySem.W.Fast.tw8827671870899952371 : Nat := 0
def PySem.W.Fast.tw16234587421101289759 : Nat := 0
def PySem.W.Fast.tw7137495146894953380 : Nat := 0
def PySem.W.Fast.tw1380164727328646654 : Nat := 0
def PySem.W.Fast.tw11085197785521799874 : Nat := 0
def PySem.W.Fast.tw2184071099409525483 : Nat := 0
def PySem.W.Fast.tw12610874490878394258 : Nat := 0
def PySem.W.Fast.tw5926675238868238810 : Nat := 0
def PySem.W.Fast.tw10246734259904250877 : Nat := 0
def PySem.W.Fast.tw8246037304203847057 : Nat := 0
def PySem.W.Fast.tw7437150443334001019 : Nat := 0
def PySem.W.Fast.tw3674033580128011037 : Nat := 0
def PySem.W.Fast.tw10726848622061014069 : Nat := 0
def PySem.W.Fast.tw14922400096643810935 : Nat := 0
def PySem.W.Fast.tw568233870024286680 : Nat := 0
def PySem.W.Fast.tw13096546487130411921 : Nat := 0
def PySem.W.Fast.tw7434932099276680667 : Nat := 0
def PySem.W.Fast.tw2270689185698133795 : Nat := 0
def PySem.W.Fast.tw6631645848530481004 : Nat := 0
def PySem.W.Fast.tw17918031612530473150 : Nat := 0
def PySem.W.Fast.tw17273093181046543569 : Nat := 0
def PySem.W.Fast.tw13613814937130583303 : Nat := 0
def PySem.W.Fast.tw4087828810987556888 : Nat := 0
def PySem.W.Fast.tw18086266674142910880 : Nat := 0
def PySem.W.Fast.tw2445470830577786599 : Nat := 0
def PySem.W.Fast.tw4820359961606934651 : Nat := 0
def PySem.W.Fast.tw10064526835221653245 : Nat := 0
def PySem.W.Fast.tw8260667253048613092 : Nat := 0
def PySem.W.Fast.tw11381896973263808850 : Nat := 0
def PySem.W.Fast.tw7943556944399240622 : Nat := 0
def PySem.W.Fast.tw1879586364638354094 : Nat := 0
def PySem.W.Fast.tw15533704458086169138 : Nat := 0
def PySem.W.Fast.tw7063363715629719079 : Nat := 0
def PySem.W.Fast.tw6480473182100631212 : Nat := 0
def PySem.W.Fast.tw6162120080101195052 : Nat := 0
def PySem.W.Fast.tw6802405744875047126 : Nat := 0
def PySem.W.Fast.tw2675208736526874980 : Nat := 0
def PySem.W.Fast.tw1827667665174671828 : Nat := 0
def PySem.W.Fast.tw7335327386814863044 : Nat := 0
def PySem.W.Fast.tw7819132659346734326 : Nat := 0
def PySem.W.Fast.tw8138647527698285230 : Nat := 0
def PySem.W.Fast.tw12618899623616329524 : Nat := 0
def PySem.W.Fast.tw3905321889024365153 : Nat := 0
open PySem PySem.W PyProof.Rows
set_option maxRecDepth 100000 in
set_option maxHeartbeats 0 in
theorem PySem.Challenge.cw_nearsums_k48_rows_that_are_none_holds : PySem.Challenge.rw_nearsums_k48_rows_that_are_none.Holds := by
 w_on; o_law; k_head; (case hw => w_witness2)
 k_fill
 refine N48.walk (l := PySem.Challenge.rw_nearsums_k48_rows_that_are_none) rfl rfl (fun w h Y => PySem.W.kIn_of Y) ?F
 case F =>
  intro w mg fa h KX G hmg
  apply N48.all_mk KX G hmg
  iterate 3 (apply N48.dg_mk; k_is; apply N48.df0; (iterate 3 k_is); exact fun _ _ _ _ _ _=>rfl)
  iterate 37 (apply N48.dg_mk; k_is; apply N48.df1; (iterate 3 k_is); exact fun _ _ _ _ _ _ _=>rfl)
  iterate 20 (apply N48.dg_mk; k_is; apply N48.df2; (iterate 3 k_is); exact fun _ _ _ _ _ _ _ _=>rfl)
  iterate 5 (apply N48.dg_mk; k_is; apply N48.df3; (iterate 3 k_is); exact fun _ _ _ _ _ _ _ _ _=>rfl)
  iterate 5 (apply N48.cm_mk; (iterate 7 k_is))
  iterate 17 (apply N48.na_mk; k_is)
  iterate 4 (k_is)
  iterate 6 (apply N48.dm_mk; (iterate 2 k_is); apply N48.df1; (iterate 3 k_is); exact fun _ _ _ _ _ _ _=>rfl)
  iterate 10 (apply N48.dm_mk; (iterate 2 k_is); apply N48.df2; (iterate 3 k_is); exact fun _ _ _ _ _ _ _ _=>rfl)
  iterate 12 (apply N48.dm_mk; (iterate 2 k_is); apply N48.df3; (iterate 3 k_is); exact fun _ _ _ _ _ _ _ _ _=>rfl)
  iterate 4 (apply N48.dm_mk; (iterate 2 k_is); apply N48.df4; (iterate 3 k_is); exact fun _ _ _ _ _ _ _ _ _ _=>rfl)
  iterate 2 (k_is)
  apply N48.df3; (iterate 3 k_is); exact fun _ _ _ _ _ _ _ _ _=>rfl
  iterate 11 (apply N48.nv_mk; k_is)
  iterate 4 ((iterate 2 k_is); rfl)
  iterate 3 (k_is)
  iterate 13 (apply N48.nv_mk; k_is)
  iterate 8 (apply N48.exd_mk; (iterate 7 k_is); (iterate 5 kernel_rfl); decide)
  iterate 18 (apply N48.nv_mk; k_is)
