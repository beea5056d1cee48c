import PyProof.Rows.All
import Wide.All
import OpenK.AllK
import Wide.FinOn
import Lean
import PyProof.EqAt
import PyProof.EqKinds
import PyProof.TupleCall
import PyProof.NeKinds
import PyProof.EnumStmt
import PyProof.WalkInts
import PyProof.ZipIter
import PyProof.Rows.ZipGen
import PyProof.Rows.SumAny
import PyProof.Draws
import KE.KSortAsk
import PyProof.SetRoads
import PyProof.FactsAll.list_4
import PyProof.Rows.Range3
import KE.KStateDown
import PySem.Challenge.RW_nearsums_k55_whole_all_orders_tried
set_option Elab.async false
set_option linter.all false
set_option maxRecDepth 100000
abbrev qA:=@List.length_map
abbrev qB:=@List.getElem?_eq_getElem
abbrev qC:=@List.getD_eq_getElem?_getD
abbrev qD:=@PySem.wpAny_bind
abbrev qE:=@List.mem_cons_self
abbrev qF:=@List.mem_cons_of_mem
abbrev qG:=@Nat.le_refl
abbrev qH:=@PySem.Heap.get?_push_of_some
abbrev qI:=@PySem.wpAny_pure
abbrev qJ:=@List.length_append
abbrev qK:=@decide_eq_true
abbrev qM:=@List.getElem?_map
abbrev qN:=@List.map_append
abbrev qO:=@if_pos
abbrev qP:=@if_neg
abbrev qQ:=@Nat.le_trans
abbrev qR:=@Bool.false_ne_true
abbrev qS:=@List.mem_append_right
abbrev qT:=@List.length_cons
abbrev qU:=@PySem.boot_len
abbrev qV:=@PySem.Heap.lt_size
abbrev qW:=@PySem.Heap.get?_push_size
abbrev qX:=@List.mem_append_left
abbrev qY:=@List.length_filter_le
abbrev qZ:=@of_decide_eq_true
abbrev qa:=@decide_eq_false
abbrev qb:=@Nat.ne_of_lt
abbrev qc:=@Array.length_toList
abbrev qd:=@Nat.lt_of_lt_of_le
abbrev qe:=@List.map_cons
abbrev qf:=@Nat.le_of_lt
abbrev qg:=@List.getElem_mem
abbrev qh:=@List.filter_cons
abbrev qi:=@PySem.PassesOwn.never
abbrev qj:=@List.size_toArray
abbrev qk:=@PySem.F.plainAttrs_list
abbrev qo:=@List.map_map
abbrev qp:=@List.mem_of_getElem?
abbrev qq:=@PyProof.Rows.boot_list
abbrev qr:=@List.nodup_nil
abbrev qu:=@Bool.eq_iff_iff
abbrev qv:=@List.append_nil
abbrev qw:=@List.contains_iff_mem
abbrev qx:=@Array.getElem?_eq_getElem
abbrev qy:=@Int.toNat_natCast
abbrev qz:=@List.filter_append
abbrev q8:=@List.getElem?_append_right
abbrev q9:=@List.take_of_length_le
abbrev QB:=@List.length_range
abbrev QC:=@List.length_take
abbrev QD:=@List.find?_cons
abbrev QE:=@PyProof.Rows.callWith_type1
abbrev QF:=@Nat.zero_le
abbrev QG:=@Nat.lt_succ_of_lt
abbrev QH:=@List.flatMap_cons
abbrev QI:=@PySem.Heap.get?_update_other
abbrev QJ:=@Bool.true_and
abbrev QK:=@List.map_congr_left
abbrev QL:=@List.dropLast_concat_getLast
abbrev QM:=@List.getElem?_append_left
abbrev QN:=@beq_self_eq_true
abbrev QO:=@Nat.two_pow_pos
abbrev QP:=@List.pairwise_singleton
abbrev QQ:=@Nat.lt_irrefl
abbrev QR:=@List.take_add_one
abbrev QS:=@Array.getD_eq_getD_getElem?
abbrev QT:=@PySem.F.slot_list_append
abbrev QU:=@PySem.F.type_list_append
abbrev QV:=@Bool.and_eq_true
abbrev QW:=@PySem.wpAny_truthy_bool
abbrev QX:=@Nat.pow_le_pow_right
abbrev QY:=@List.pairwise_lt_range
abbrev QZ:=@List.mem_filter
abbrev Qb:=@List.length_erase_of_mem
abbrev Qc:=@Array.getElem?_toList
abbrev Qd:=@PySem.wpAny_newObj_type
abbrev Qe:=@congrArg
abbrev Qf:=@PySem.Around.under_plainId
abbrev Qg:=@List.length_drop
abbrev Qh:=@List.length_reverse
abbrev Qi:=@PySem.Heap.size_push
abbrev Qj:=@List.getElem?_eq_none
abbrev Qk:=@PySem.Heap.get?_update_self
abbrev Ql:=@PySem.sizeLine_eq
abbrev Qm:=@PySem.W.kia_one
abbrev Qn:=@Nat.not_lt_zero
abbrev Qo:=@List.filter_nil
abbrev Qp:=@PySem.wpAny_Call_Name_kw
abbrev Qq:=@Nat.lt_of_le_of_lt
abbrev Qr:=@decide_eq_true_iff
abbrev Qs:=@PySem.wpAny_call_entry
abbrev Qt:=@PySem.wpAny_holding
abbrev Qu:=@PySem.codeAny_builtin
abbrev Qv:=@List.mem_of_find?_eq_some
abbrev Qw:=@List.getLastD_eq_getLast?
abbrev Qx:=@List.exists_cons_of_length_eq_add_one
abbrev Qy:=@List.eq_nil_of_length_eq_zero
abbrev Qz:=@List.getLast?_eq_some_getLast
abbrev Q0:=@Nat.lt_succ_self
abbrev Q1:=@List.not_mem_nil
abbrev Q2:=@List.mem_cons
abbrev Q3:=@PySem.wpAny_callSpecial?_slot
abbrev Q4:=@PyProof.Rows.boot_tuple
abbrev Q5:=@PySem.F.slot_dict_keyiterator_next
abbrev Q6:=@List.find?_append
abbrev Q7:=@List.filter_map
abbrev Q8:=@PySem.wpAny_ite_split
abbrev Q9:=@List.filter_sublist
abbrev xA:=@List.length_pos_of_mem
abbrev xB:=@Int.ne_of_lt
abbrev xC:=@PySem.wpAny_mono
abbrev xD:=@List.exists_cons_of_ne_nil
abbrev xE:=@List.all_eq_true
abbrev xF:=@List.take_length
abbrev xG:=@Bool.false_and
abbrev xH:=@List.length_singleton
abbrev xI:=@List.getElem_idxOf
abbrev xJ:=@List.rel_of_pairwise_cons
abbrev xK:=@List.drop_eq_getElem_cons
abbrev xM:=@Nat.le_succ
abbrev xN:=@Nat.lt_or_ge
abbrev xO:=@List.range_succ
abbrev xP:=@Int.zero_add
abbrev xQ:=@PySem.wpAny_setState_of
abbrev xS:=@List.append_assoc
abbrev xT:=@List.filter_congr
abbrev xU:=@PySem.plainId_quiet
abbrev xV:=@PySem.wpAny_typeNameOfWhole_keyiter
abbrev xW:=@List.filterMap_cons
abbrev xX:=@PySem.F.plain_extend_loop
abbrev xY:=@PySem.wpAny_fieldsOf
abbrev xZ:=@PySem.Calls.spliced_cons
abbrev xa:=@List.getElem_range
abbrev xc:=@List.mem_singleton
abbrev xf:=@PySem.wpAny_setField_rec
abbrev xg:=@PySem.wpAny_passesOwn
abbrev xh:=@Option.map_some
abbrev xi:=@PySem.wpAny_updateSeq
abbrev xj:=@PyProof.Rows.boot_int
abbrev xk:=@List.any_cons
abbrev xn:=@Bool.and_true
abbrev xq:=@PySem.Calls.spliced_nil
abbrev xr:=@Nat.lt_trichotomy
abbrev xt:=@Array.getElem_toList
abbrev xu:=@List.mem_erase_of_ne
abbrev xv:=@List.getLast?_append
abbrev xx:=@PyProof.Rows.boot_sorted
abbrev xy:=@PySem.wpAny_seqItems
abbrev xz:=@List.mem_range
abbrev XA:=@Nat.ne_of_gt
abbrev XB:=@List.lookup_cons
abbrev XC:=@List.getElem_map
abbrev XD:=@Nat.zero_add
abbrev XE:=@List.mem_map
abbrev XF:=@PySem.wpAny_typeNameOf_keyiter
abbrev XG:=@PySem.F.slot_list_extend
abbrev XH:=@PySem.F.type_list_extend
abbrev XI:=@PySem.mem_of_lookup
abbrev XJ:=@List.flatMap_append
abbrev XL:=@Int.eq_ofNat_of_zero_le
abbrev XM:=@Nat.eq_zero_or_pos
abbrev XN:=@List.append_of_mem
abbrev XO:=@Int.emod_nonneg
abbrev XQ:=@List.getLast?_cons
abbrev XR:=@List.range_succ_eq_map
abbrev XS:=@Nat.testBit_lt_two_pow
abbrev XU:=@PySem.F.slot_list_pop
abbrev XV:=@List.take_append_drop
abbrev XW:=@List.ext_getElem
abbrev XX:=@PySem.wpAny_askSetting
abbrev XY:=@PySem.wpAny_isInstance
abbrev XZ:=@List.getLast?_concat
abbrev Xa:=@PySem.wpAny_attempt
abbrev Xb:=@PySem.Heap.SameBut.update
abbrev Xc:=@List.getElem_of_mem
abbrev Xd:=@PyProof.Rows.boot_isinstance
abbrev Xe:=@PySem.codeAny_mono
abbrev Xf:=@PySem.W.callWith_K
abbrev Xg:=@List.getElem?_take_of_lt
abbrev Xh:=@Nat.lt_trans
abbrev Xi:=@Nat.add_sub_cancel
abbrev Xj:=@Bool.false_eq_true
abbrev Xk:=@PySem.F.args_dict_keyiterator_next_1
abbrev Xl:=@List.pairwise_cons
abbrev Xm:=@Classical.em
abbrev Xn:=@Int.emod_lt_of_pos
abbrev Xo:=@beq_iff_eq
abbrev Xp:=@PySem.wpAny_tryCatch
abbrev Xq:=@PySem.F.entry_dict_keyiterator_next
abbrev Xr:=@PyProof.Rows.F.plain_set_update_loop
abbrev Xs:=@List.getLast_eq_getElem
abbrev Xt:=@PySem.F.slot_list_index
abbrev Xu:=@PySem.F.type_list_index
abbrev Xv:=@List.getLast?_cons_cons
abbrev Xw:=@PySem.wpAny_pyIter_list
abbrev Xx:=@Option.isSome_map
abbrev Xy:=@Nat.le_succ_of_le
abbrev Xz:=@Bool.not_eq_true'
abbrev X0:=@decide_eq_true_eq
abbrev X1:=@Nat.lt_succ_of_le
abbrev X2:=@List.all_cons
abbrev X3:=@Bool.false_or
abbrev X4:=@List.sum_cons
abbrev X5:=@if_false
abbrev X6:=@List.cons_append
abbrev X7:=@List.any_eq_true
abbrev X8:=@PySem.F.plain_max_loop
abbrev X9:=@Nat.zero_testBit
abbrev vA:=@List.cons_ne_nil
abbrev vB:=@PySem.W.methodCall_KW
abbrev vC:=@List.length_replicate
abbrev vD:=@List.getElem?_toArray
abbrev vE:=@PySem.builtinLookup_eq_fast
abbrev vF:=@PySem.wpAny_isOneOf_keyiter
abbrev vG:=@List.perm_append_comm
abbrev vH:=@PySem.F.type_list_pop
abbrev vI:=@PySem.wpAny_execs_nil
abbrev vJ:=@List.of_mem_zip
abbrev vK:=@PyProof.Rows.callWith_builtin1
abbrev vL:=@PySem.wpAny_specialOf
abbrev vM:=@List.any_map
abbrev vN:=@PySem.wpAny_rule
abbrev vO:=@Nat.sub_self
abbrev vP:=@Int.ediv_nonneg
abbrev vQ:=@List.pairwise_append
abbrev vR:=@List.find?_some
abbrev vS:=@List.Pairwise.filter
abbrev vT:=@Nat.sub_lt
abbrev vU:=@Nat.min_eq_left
abbrev vV:=@List.mem_of_getLast?
abbrev vW:=@Nat.mul_le_mul_right
abbrev vX:=@PySem.W.plainGet_of
abbrev vY:=@List.take_zero
abbrev vZ:=@Bool.and_assoc
abbrev vc:=@PySem.wpAny_letGo
abbrev vd:=@PySem.tupleKind_room_in1
abbrev ve:=@Nat.testBit_two_pow_sub_one
abbrev vf:=@List.length_eraseIdx_of_lt
abbrev vg:=@List.dropWhile_cons_of_neg
abbrev vh:=@List.takeWhile_cons_of_neg
abbrev vi:=@Array.toList_push
abbrev vj:=@PySem.fits_of_scanBound
abbrev vk:=@PySem.wpAny_dictEntries
abbrev vm:=@List.head?_filter
abbrev vn:=@Nat.sub_le
abbrev vo:=@List.getElem_inj
abbrev vp:=@Int.ediv_le_self
abbrev vq:=@List.all_map
abbrev vt:=@List.getLast_mem
abbrev vw:=@List.flatMap_nil
abbrev vx:=@List.mem_append
abbrev vy:=@List.map_id
abbrev vz:=@if_true
abbrev v3:=@Bool.and_false
abbrev v4:=@List.drop_zero
abbrev v5:=@List.find?_map
abbrev v6:=@absurd
namespace L2
open PySem PySem.Spec PyProof.Rows
variable {ds pD us:List Value} {C a b dx it:Addr} {cd u:Value} {P prog:Program} {w:World} {base h h':Heap} {g':Array GenState} {i j n t':Nat} {d':Drawn} {ch fp:List Addr} {m name qual x:Str} {c e iter tg:Expr} {pA pins':List (Addr×Obj)} {N ns ps:List Str} {M:Model} {A:Around} {E Q:Value->Shared->Prop} {s s':Shared} {α κ:Type} {Q':α->Shared->Prop} {p pos pos':Pos} {op:CmpOp} {K:W.Frag} {f:Value->Value->Sem Value} {body st:List Stmt} {es rest:List Expr} {g:Int->Int->Int} {R:Result->Shared->Prop} {lo:Int} {pl:Sem Bool} {mA mg:Str->Option Value} {expr:Bool} {kw:List (Str×Value)} {fd:FuncData} {outer:List Env} {sc scope:Scope} {params:Arguments} {osl:Array (Option Value)} {kws:List Keyword} {nm:Option Str}
abbrev zZ:=Sum Int Str
def zAE:zZ->Value->Bool
 | .inl k,v=>Value.isInt k v
 | .inr x,v=>Value.isStrOf x v
def zSj (w:World):zZ->Int
 | .inl k=>hashInt k
 | .inr x=>hashStr w x
theorem Z2:∀{k:zZ} {v:Value},zAE k v=true->(∃i t,k=Sum.inl i/\v=Value.int i t)\/(∃x t,k=Sum.inr x/\v=Value.str x t)
 | .inl i,v,h=>by
  obtain ⟨t,e⟩:=Value.isInt_shape (k:=i) (v:=v) h;exact .inl ⟨i,t,rfl,e⟩
 | .inr x,v,h=>by
  obtain ⟨t,e⟩:=Value.isStrOf_shape (x:=x) (v:=v) h;exact .inr ⟨x,t,rfl,e⟩
theorem zJv (i:Int) (t:Tok):zAE (.inl i) (.int i t)=true:=by simp [zAE,Value.isInt]
theorem zKu (x:Str) (t:Tok):zAE (.inr x) (.str x t)=true:=by simp [zAE,Value.isStrOf]
theorem zQM (a b:Int):decide ((Sum.inl a:zZ)=Sum.inl b)=(a==b):=by
 by_cases e:a=b
 .subst e; simp
 .have h:¬(Sum.inl a:zZ)=Sum.inl b:=λq=>e (Sum.inl.inj q)
  rw [qa h];exact (beq_eq_false_iff_ne.mpr e).symm
theorem zQU (a b:Str):decide ((Sum.inr a:zZ)=Sum.inr b)=decide (a=b):=by
 by_cases e:a=b
 .subst e; simp
 .have h:¬(Sum.inr a:zZ)=Sum.inr b:=λq=>e (Sum.inr.inj q)
  rw [qa h,qa e]
theorem zPt (a:Int) (b:Str):decide ((Sum.inl a:zZ)=Sum.inr b)=false:=qa (λq=>nomatch q)
theorem zPm (a:Str) (b:Int):decide ((Sum.inr a:zZ)=Sum.inl b)=false:=qa (λq=>nomatch q)
def Zu (prog:Program) (w:World):PySem.KeyKind prog w zZ where
 is:=zAE
 hash:=zSj w
 inj:=λv a b ha hb=>by
  rcases Z2 ha with ⟨i,t,rfl,rfl⟩ | ⟨x,t,rfl,rfl⟩
  .rcases Z2 hb with ⟨j,u,rfl,e⟩ | ⟨y,u,rfl,e⟩
   .injection e with e1 _; rw [e1]
   .exact nomatch e
  .rcases Z2 hb with ⟨j,u,rfl,e⟩ | ⟨y,u,rfl,e⟩
   .exact nomatch e
   .injection e with e1 _; rw [e1]
 byValue:=λk v h=>by
  rcases Z2 h with ⟨i,t,rfl,rfl⟩ | ⟨x,t,rfl,rfl⟩ <;> rfl
 pyHash:=λhv h=>by
  rcases Z2 hv with ⟨i,t,rfl,rfl⟩ | ⟨x,t,rfl,rfl⟩
  .exact wpAny_pyHash_int h
  .exact wpAny_pyHash_str h
 eqBool:=λhu hv h=>by
  rcases Z2 hu with ⟨i,t,rfl,rfl⟩ | ⟨x,t,rfl,rfl⟩
  .rcases Z2 hv with ⟨j,u,rfl,rfl⟩ | ⟨y,u,rfl,rfl⟩
   .rw [zQM] at h; exact wpAny_eqBool_int h
   .rw [zPt] at h; exact SeqAt.EqAt.int_str i t y u _ _ _ _ h
  .rcases Z2 hv with ⟨j,u,rfl,rfl⟩ | ⟨y,u,rfl,rfl⟩
   .rw [zPm] at h; exact SeqAt.EqAt.str_int x t j u _ _ _ _ h
   .rw [zQU] at h; exact wpAny_eqBool_str h
 «strs»:=λk x t v h=>by
  rcases Z2 h with ⟨i,u,rfl,e⟩ | ⟨y,u,rfl,e⟩
  .exact nomatch e
  .injection e with e1 _
   subst e1;cases v <;> rfl
theorem zGv (prog:Program) (w:World) (i:Int) (t:Tok):(Zu prog w).is (.inl i) (.int i t)=true:=zJv i t
theorem zHA (prog:Program) (w:World) (x:Str) (t:Tok):(Zu prog w).is (.inr x) (.str x t)=true:=zKu x t
inductive V where
 | non | bl (b:Bool) | int (i:Int) | str (x:Str) | byt (b:Array UInt8) | flt (b:UInt64) | ref (a:Addr) | ty (n:String)
 deriving DecidableEq
variable {dvs vs xs:List V} {v y:V} {pB:List (κ×V)} {fs':List (Str×V)} {gV:List V->List V->List V}
def zp:V->Value->Prop
 | .non,u=>u=Value.none
 | .bl b,u=>u=Value.bool b
 | .int i,u=>∃t,u=Value.int i t
 | .str x,u=>∃t,u=Value.str x t
 | .byt b,u=>∃t,u=Value.bytes b t
 | .flt b,u=>∃t,u=Value.float b t
 | .ref a,u=>u=Value.ref a
 | .ty n,u=>u=Value.type n
abbrev za:List V->List Value->Prop:=Paired zp
theorem za.length (r:za xs us):xs.length=us.length:=Paired.length r
theorem za.get:∀{xs:List V} {us:List Value} {i:Nat} {x:V},za xs us->xs[i]?=some x->∃u,us[i]?=some u/\zp x u
 | _,_,_,_, .nil,e=>by simp at e
 | _,_,0,_, .cons r _,e=>by simp at e; subst e; exact ⟨_,rfl,r⟩
 | _,_,i+1,x, .cons _ t,e=>by
  obtain ⟨u,h1,h2⟩:=za.get (i:=i) (x:=x) t (by simpa using e);exact ⟨u,by simpa using h1,h2⟩
theorem za.append:∀{xs ys:List V} {us ws:List Value},za xs us->za ys ws->za (xs++ys) (us++ws)
 | _,_,_,_, .nil,s=>s
 | _,_,_,_, .cons r t,s=> .cons r (za.append t s)
theorem za.take:∀{xs:List V} {us:List Value} (n:Nat),za xs us->za (xs.take n) (us.take n)
 | _,_,0,_=> .nil
 | _,_,_+1, .nil=> .nil
 | _,_,n+1, .cons r t=> .cons r (za.take n t)
theorem za.drop:∀{xs:List V} {us:List Value} (n:Nat),za xs us->za (xs.drop n) (us.drop n)
 | _,_,0,r=>r
 | _,_,_+1, .nil=> .nil
 | _,_,n+1, .cons _ t=>za.drop n t
def Y1:Option V->Option Value->Prop
 | some v,some u=>zp v u
 | none,none=>True
 | _,_=>False
def KV {κ:Type}:List (κ×V)->List (κ×Value)->Prop:=Paired λ(p:κ×V) (q:κ×Value)=>p.1=q.1/\zp p.2 q.2
def kV:zZ->V
 | .inl i=> .int i
 | .inr x=> .str x
inductive HO where
  | lst (xs:List V)
  | tup (xs:List V)
  | dK (pB:List (zZ×V)) | dT (pB:List (List zZ×V))
  | set (S:Int->Bool) (n:Nat)
  | ins (C dx:Addr) (fs:List (Str×V))
  | own (x:Addr)
  | xd (fs:List (Str×V))
  | met (f x:Addr)
  | rng (lo hi:Int)
  | frz (o:Obj) (u:HO)
  | tbl (ps:Array Value)
  | ext (φ:Heap->Prop)
variable {o:HO}
abbrev Hp:=Addr->Option HO
variable {H H':Hp}
def zH (H:Hp) (a:Addr) (o:HO):Hp:=λb=>if b=a then some o else H b
theorem zC:zH H a o a=some o:=by unfold zH; rw [qO rfl]
theorem zI (h:b≠a):zH H a o b=H b:=by unfold zH; rw [qP h]
theorem zOT {u:HO}:zH (zH H a o) a u=zH H a u:=by
 funext b; unfold zH; split <;> rfl
theorem zw {u:HO} (h:H a=some o) (h':H b=some u) (d:o≠u):a≠b:=by
 intro e; subst e; rw [h] at h'; exact d (Option.some.inj h')
theorem zF (h:H a=some o) (h':H b=none):a≠b:=by
 intro e; subst e; rw [h] at h'; cases h'
section
variable (P:Program) (w:World)
def ZH (H:Hp) (h:Heap) (a:Addr):HO->Prop
 | .lst xs=>xs.length<=sizeLine/\∃(pD:List Value) (n:Nat),za xs pD/\h.get? a=some {cls:= .type "list",data:= .seq pD.toArray n}
 | .tup xs=>xs.length<=sizeLine/\∃pD:List Value,za xs pD/\IsTup h a pD.toArray
 | .dK pB=>pB.length<=sizeLine/\(a==sysModules)=false/\∃vs,KV pB vs/\h.DictOf (Zu P w) a vs
 | .dT pB=>pB.length<=sizeLine/\(a==sysModules)=false/\∃xs:List (List zZ×Addr×Value),
   Paired (λ(p:List zZ×V) (q:List zZ×Addr×Value)=>p.1=q.1/\H q.2.1=some (.tup (p.1.map kV))/\zp p.2 q.2.2) pB xs/\
   ∃o es ep,h.get? a=some o/\o.ExactDict/\o.data= .dict es ep/\es.toList=xs.map (entryOfKey (tupleKind (Zu P w)))/\(xs.map (·.1)).Nodup
 | .set S n=>h.SetOf (intKind P w) a S n
 | .ins C dx fs=>H dx=some (.own a)/\fs.length<=1000/\dx≠a/\h.get? a=some (W.instObj C dx)/\
   ∃mA,h.Ns1 dx mA/\(∀f,Y1 (fs.lookup f) (mA f))/\PySem.Within mA (fs.map (·.1))
 | .own _=>∃o,h.get? a=some o
 | .xd fs=>∃mA,h.Ns1 a mA/\∀f,Y1 (fs.lookup f) (mA f)
 | .rng lo hi=>∃t u v,h.get? a=some {cls:= .type "range",data:= .fields #[.int lo t, .int hi u, .int 1 v]}
 | .frz o u=>h.get? a=some o/\ZH H h a u
 | .tbl ps=>h.get? a=some {cls:= .none,data:= .fields ps}
 | .met f x=>h.get? a=some (W.methodObj (.ref f) (.ref x))
 | .ext φ=>φ h/\(∃o,h.get? a=some o)/\∀h1 h2:Heap,φ h1->(∀o,h1.get? a=some o->h2.get? a=some o)->φ h2
def yk (H:Hp) (h:Heap):Prop:=∀a o,H a=some o->ZH P w H h a o
end
theorem ZH.lt (x:ZH P w H h a o):a<h.objs.size:=by
 cases o with
 | lst xs=>obtain ⟨_,_,_,_,e⟩:=x; exact qV e
 | tup xs=>obtain ⟨_,_,_,p⟩:=x; exact p.lt
 | dK pB=>obtain ⟨_,_,_,_,o,_,_,e,_⟩:=x; exact qV e
 | dT pB=>obtain ⟨_,_,_,_,o,_,_,e,_⟩:=x; exact qV e
 | set S n=>obtain ⟨o,_,_,_,e,_⟩:=x; exact qV e
 | ins C dx fs=>obtain ⟨_,_,_,e,_⟩:=x; exact qV e
 | own y=>obtain ⟨_,e⟩:=x; exact qV e
 | xd fs=>obtain ⟨_,⟨_,_,_,e,_⟩,_⟩:=x; exact qV e
 | rng lo hi=>obtain ⟨_,_,_,e⟩:=x; exact qV e
 | frz ob u=>obtain ⟨e,_⟩:=x; exact qV e
 | tbl ps=>exact qV (show h.get? a=some _ from x)
 | met f y=>exact qV (show h.get? a=some _ from x)
 | ext φ=>obtain ⟨_,⟨_,e⟩,_⟩:=x; exact qV e
theorem Paired.mapP {α β:Type} {F G:α->β->Prop}:∀{l₁:List α} {l₂:List β},Paired F l₁ l₂->(∀a b,F a b->G a b)->Paired G l₁ l₂
 | _,_, .nil,_=> .nil
 | _,_, .cons r t,f=> .cons (f _ _ r) (Paired.mapP t f)
theorem ZH.stay (x:ZH P w H h a o) (k:∀b u,(b=a\/H b=some (.own a))->h.get? b=some u->h'.get? b=some u)
  (ho:∀b,H b=some (.own a)->H' b=some (.own a)) (ht:∀b xs,H b=some (.tup xs)->H' b=some (.tup xs)):ZH P w H' h' a o:=by
 induction o with
 | lst xs=>obtain ⟨z,pD,n,r,e⟩:=x; exact ⟨z,pD,n,r,k _ _ (.inl rfl) e⟩
 | tup xs=>obtain ⟨z,pD,r,ob,e,c⟩:=x; exact ⟨z,pD,r,ob,k _ _ (.inl rfl) e,c⟩
 | dK pB=>obtain ⟨z,y,vs,r,ob,es,ep,e,c⟩:=x; exact ⟨z,y,vs,r,ob,es,ep,k _ _ (.inl rfl) e,c⟩
 | dT pB=>
  obtain ⟨z,y,xs,r,ob,es,ep,e,c⟩:=x;exact ⟨z,y,xs,Paired.mapP r λp q z=>⟨z.1,ht _ _ z.2.1,z.2.2⟩,ob,es,ep,k _ _ (.inl rfl) e,c⟩
 | set S n=>obtain ⟨ob,es,ep,t,e,c⟩:=x; exact ⟨ob,es,ep,t,k _ _ (.inl rfl) e,c⟩
 | ins C dx fs=>
  obtain ⟨d,z,ne,e,mA,⟨od,es,ep,e2,c⟩,r⟩:=x;exact ⟨ho _ d,z,ne,k _ _ (.inl rfl) e,mA,⟨od,es,ep,k _ _ (.inr d) e2,c⟩,r⟩
 | own y=>obtain ⟨ob,e⟩:=x; exact ⟨ob,k _ _ (.inl rfl) e⟩
 | xd fs=>obtain ⟨mA,⟨od,es,ep,e,c⟩,r⟩:=x; exact ⟨mA,⟨od,es,ep,k _ _ (.inl rfl) e,c⟩,r⟩
 | rng lo hi=>obtain ⟨t,u,v,e⟩:=x; exact ⟨t,u,v,k _ _ (.inl rfl) e⟩
 | frz ob u ih=>obtain ⟨e,q⟩:=x; exact ⟨k _ _ (.inl rfl) e,ih q⟩
 | tbl ps=>
  have e:h.get? a=some {cls:= .none,data:= .fields ps}:=x;show h'.get? a=some {cls:= .none,data:= .fields ps};exact k a _ (.inl rfl) e
 | met f y=>
  have e:h.get? a=some (W.methodObj (.ref f) (.ref y)):=x;show h'.get? a=some (W.methodObj (.ref f) (.ref y));exact k a _ (.inl rfl) e
 | ext φ=>obtain ⟨p,⟨o,e⟩,st⟩:=x; exact ⟨st _ _ p λo q=>k _ _ (.inl rfl) q,⟨o,k _ _ (.inl rfl) e⟩,st⟩
theorem yk.lt (x:yk P w H h) (e:H a=some o):a<h.objs.size:=(x a o e).lt
theorem yk.fresh (x:yk P w H h) (e:h.objs.size<=a):H a=none:=by
 cases q:H a with
 | none=>rfl
 | some u=>exact v6 (qd (x.lt q) e) (QQ _)
theorem yk.kept (x:yk P w H h) (k:∀b u,h.get? b=some u->h'.get? b=some u):yk P w H h':=λa o e=>
 (x a o e).stay (λb u _ q=>k b u q) (λ_ q=>q) λ_ _ q=>q
theorem yk.laid (x:yk P w H h) (k:∀b u,h.get? b=some u->h'.get? b=some u) (hp:h.objs.size<=a) (new:ZH P w (zH H a o) h' a o):yk P w (zH H a o) h':=λb u e=>by
 have hn:=x.fresh hp;by_cases hb:b=a
 .subst hb; rw [zC] at e; cases e; exact new
 .rw [zI hb] at e
  exact (x b u e).stay (λc v _ q=>k c v q) (λc q=>by rw [zI (zF q hn)]; exact q) λc xs q=>by rw [zI (zF q hn)]; exact q
def Rd (H:Hp) (a:Addr) (u:HO):Prop:=H a=some u\/∃o,H a=some (.frz o u)
theorem Rd.ok {u:HO} (r:Rd H a u) (x:yk P w H h):ZH P w H h a u:=by
 rcases r with r | ⟨o,r⟩
 .exact x a u r
 .obtain ⟨_,q⟩:=x a _ r
  exact q
def Mut:Option HO->Prop
 | some (.lst _)=>True
 | some (.dK _)=>True
 | some (.dT _)=>True
 | some (.set _ _)=>True
 | some (.ins _ _ _)=>True
 | some (.ext _)=>True
 | _=>False
section
variable {x e:Addr} {o':HO}
theorem yk.write (ok:yk P w H h) (mu:Mut (H x)) (he:e=x\/H e=some (.own x)) (k:∀b u,b≠e->h.get? b=some u->h'.get? b=some u) (heo:∃u,h'.get? e=some u)
  (new:ZH P w (zH H x o') h' x o'):yk P w (zH H x o') h':=λb u q=>by
 have nown:∀c y,H c=some (.own y)->c≠x:=λc y r z=>by subst z; rw [r] at mu; exact mu
 have ntup:∀c xs,H c=some (.tup xs)->c≠x:=λc xs r z=>by subst z; rw [r] at mu; exact mu
 by_cases hb:b=x
 .subst hb; rw [zC] at q; cases q; exact new
 .rw [zI hb] at q
  by_cases hbe:b=e
  .have q':H b=some (.own x):=by
    rcases he with z | z
    .exact v6 (hbe.trans z) hb
    .rw [hbe]; exact z
   rw [q] at q'; cases q';obtain ⟨v,hv⟩:=heo;exact ⟨v,by rw [hbe]; exact hv⟩
  .refine (ok b u q).stay (λc v hc r=>k c v ?_ r) (λc r=>by rw [zI (nown c b r)]; exact r) λc xs r=>by rw [zI (ntup c xs r)]; exact r
   rcases hc with rfl | hc
   .exact hbe
   .rintro rfl
    rcases he with z | z
    .exact nown c b hc z
    .rw [hc] at z; cases z; exact hb rfl
end
structure Un (fs ex:List Addr) (H H':Hp) (h h':Heap):Prop where
 keep:∀b o,h.get? b=some o->H b=none->b∉fs->b∉ex->h'.get? b=some o
 slot:∀b o,h.get? b=some o->H b=none->b∈fs->b∉ex->∃sl,h'.get? b=some {o with slots:=sl}
 free:∀b o,h.get? b=some o->H b=none->b∉ex->H' b=none
 there:∀b o,h.get? b=some o->b∉ex->∃o',h'.get? b=some o'
 tups:∀b xs,H b=some (.tup xs)->H' b=some (.tup xs)
 frzs:∀b o u,H b=some (.frz o u)->H' b=some (.frz o u)
 tbls:∀b ps,H b=some (.tbl ps)->∃more,H' b=some (.tbl (ps++more))
section
variable {fs fs' ex ex':List Addr} {H1 H2:Hp} {h1 h2:Heap} {x e:Addr}
theorem Un.any (u:Un fs ex H H1 h h1) {ob:Obj} (q:h.get? b=some ob) (n:H b=none) (hx:b∉ex):∃sl,h1.get? b=some {ob with slots:=sl}:=by
 by_cases hb:b∈fs
 .exact u.slot b ob q n hb hx
 .exact ⟨ob.slots,u.keep b ob q n hb hx⟩
theorem Un.trans (a:Un fs ex H H1 h h1) (b:Un fs ex H1 H2 h1 h2):Un fs ex H H2 h h2 where
 keep:=λc ob q n hc hx=>b.keep c ob (a.keep c ob q n hc hx) (a.free c ob q n hx) hc hx
 slot:=λc ob q n hc hx=>by
  obtain ⟨sl,e1⟩:=a.slot c ob q n hc hx;obtain ⟨sl',e2⟩:=b.slot c _ e1 (a.free c ob q n hx) hc hx;exact ⟨sl',e2⟩
 free:=λc ob q n hx=>by
  obtain ⟨o',e1⟩:=a.there c ob q hx;exact b.free c o' e1 (a.free c ob q n hx) hx
 there:=λc ob q hx=>by
  obtain ⟨o',e1⟩:=a.there c ob q hx;exact b.there c o' e1 hx
 tups:=λc xs q=>b.tups c xs (a.tups c xs q)
 frzs:=λc ob xs q=>b.frzs c ob xs (a.frzs c ob xs q)
 tbls:=λc ps q=>by
  obtain ⟨m1,e1⟩:=a.tbls c ps q;obtain ⟨m2,e2⟩:=b.tbls c _ e1;exact ⟨m1++m2,by rw [e2,Array.append_assoc]⟩
theorem Un.kept (k:∀b u,h.get? b=some u->h'.get? b=some u):Un fs ex H H h h':=
 ⟨λb ob q _ _ _=>k b ob q,λb ob q _ _ _=>⟨ob.slots,k b ob q⟩,λ_ _ _ n _=>n,λb ob q _=>⟨ob,k b ob q⟩,λ_ _ q=>q,λ_ _ _ q=>q,λ_ ps q=>⟨#[],by rw [q]; simp⟩⟩
theorem Un.refl:Un fs ex H H h h:=Un.kept λ_ _ q=>q
theorem Un.laid (k:∀b u,h.get? b=some u->h'.get? b=some u) (hp:h.objs.size<=a) (hn:H a=none):Un fs ex H (zH H a o) h h' where
 keep:=λb u q _ _ _=>k b u q
 slot:=λb u q _ _ _=>⟨u.slots,k b u q⟩
 free:=λb u q n _=>by rw [zI (qb (qd (qV q) hp))]; exact n
 there:=λb u q _=>⟨u,k b u q⟩
 tups:=λb xs q=>by rw [zI (zF q hn)]; exact q
 frzs:=λb u xs q=>by rw [zI (zF q hn)]; exact q
 tbls:=λb ps q=>⟨#[],by rw [zI (zF q hn),q]; simp⟩
theorem Un.write (mu:Mut (H x)) (he:e=x\/H e=some (.own x)) (k:∀b u,b≠e->h.get? b=some u->h'.get? b=some u) (heo:∃u,h'.get? e=some u):Un fs ex H (zH H x o) h h':=by
 have hx:∀b,H b=none->b≠x:=λb n z=>by subst z; rw [n] at mu; exact mu
 have hb:∀b,H b=none->b≠e:=λb n z=>by
  subst z;rcases he with r | r
  .exact hx b n r
  .rw [n] at r; cases r
 have hm:∀b u,H b=some u->¬Mut (some u)->b≠x:=λb u q nm z=>by subst z; rw [q] at mu; exact nm mu
 refine ⟨λb u q n _ _=>k b u (hb b n) q,λb u q n _ _=>⟨u.slots,k b u (hb b n) q⟩,λb u q n _=>by rw [zI (hx b n)]; exact n,λb u q _=>?_,
  λb xs q=>by rw [zI (hm b _ q λz=>z)]; exact q,λb u xs q=>by rw [zI (hm b _ q λz=>z)]; exact q,λb ps q=>⟨#[],by rw [zI (hm b _ q λz=>z),q]; simp⟩⟩
 by_cases hbe:b=e
 .subst hbe; exact heo
 .exact ⟨u,k b u hbe q⟩
end
def trk (h:Heap) (H:Hp):List Addr:=(List.range h.objs.size).filter λa=>(H a).isSome
def zBF (h:Heap) (H:Hp):Heap:=W.hideAll h (trk h H)
theorem zKf (h:Heap) (H:Hp):(zBF h H).objs.size=h.objs.size:=W.hideAll_size _ _
theorem zMA {o:Obj} (e:h.get? b=some o) (n:H b=none):(zBF h H).get? b=some o:=
 W.hideAll_get _ e λhm=>by
  have q:(H b).isSome=true:=(List.mem_filter.mp hm).2;rw [n] at q; simp at q
theorem zOV {o:Obj} (e:(zBF h H).get? b=some o):h.get? b=some o/\H b=none:=by
 have e':h.get? b=some o:=W.of_hideAll (trk h H) e;refine ⟨e',?_⟩;cases q:H b with
 | none=>rfl
 | some x=>
  have hm:b∈trk h H:=List.mem_filter.mpr ⟨List.mem_range.mpr (qV e'),by simp [q]⟩;have z:(zBF h H).get? b=none:=W.hideAll_none (trk h H) hm;rw [z] at e; cases e
structure Mod (K:W.Frag) (mg:Str->Option Value) (base:Heap):Prop where
 kin:K.In base
 glob:base.Ns mainGlobals mg
 blt:∃mb,base.Ns builtinsNs mb/\∀x:Str,x≠"__name__"->mb x=bootBuiltins x
 nolimit:base.NoLimit
structure Cx where
 prog:Program
 w:World
 K:W.Frag
 mg:Str->Option Value
 base:Heap
 A:Around
 N:List Str
 s₀:Shared
 H₀:Hp
 env:Env
 outer:List Env
 stack:List Env
 ex:List Addr
 fn:Str->Bool
 calm:Bool
 pn:List (Addr×Obj)
 xe:Value->Shared->Prop
variable {X:Cx}
def jT (l:List Env):List Addr:=l.filterMap (·.frame)
abbrev Cx.fs (X:Cx):List Addr:=jT X.outer
def Vis (sc:Scope) (x:Str):Prop:=sc.names.lookup x=some .local\/sc.names.lookup x=some .cell\/sc.names.lookup x=some .free
def Loc (sc:Scope) (x:Str):Prop:=sc.names.lookup x=some .local\/sc.names.lookup x=some .cell
def zSf (env:Env) (h:Heap) (m:Str->Option Value) (x:Str) (u:Value):Prop:=
 (env.kindOf x=some .local/\m x=some u)\/((env.kindOf x=some .cell\/env.kindOf x=some .free)/\∃c,env.cells.lookup x=some c/\h.IsCell c (some u))
structure Cx.Ok (X:Cx):Prop where
 mod:Mod X.K X.mg X.base
 kind:X.env.scope.kind= .function
 glob:X.env.globals=mainGlobals
 blt:X.env.builtins=builtinsNs
 above:X.s₀.heap.objs.size<=X.env.locals
 inj:∀x y c,X.env.cells.lookup x=some c->X.env.cells.lookup y=some c->x=y
 has:∀x,(X.env.kindOf x=some .cell\/X.env.kindOf x=some .free)->∃c,X.env.cells.lookup x=some c
 cab:∀x c,X.fn x=true->X.env.cells.lookup x=some c->X.s₀.heap.objs.size<=c
 hd:X.calm=true->X.A.handled=none
 frames:X.A.frames=some X.stack
 stk:X.stack=X.outer\/(X.stack=X.env::X.outer/\X.env.frame=some X.env.locals)
 exf:∀b∈X.ex,b≠X.env.locals/\∀x c,X.env.cells.lookup x=some c->c≠b
 bs:∀b o,X.base.get? b=some o->X.s₀.heap.get? b=some o/\X.H₀ b=none
 bsz:X.base.objs.size<=X.s₀.heap.objs.size
 noex:∀b o,X.base.get? b=some o->b∉X.ex
 exfs:∀b∈X.ex,b∉X.fs
 funs:X.s₀.heap.FunFrames X.base X.outer
 frf:∀b∈X.fs,X.H₀ b=none
structure zN (X:Cx) (pA:List (Addr×Obj)) (U:List (Option V)) (H:Hp) (s:Shared):Prop where
 ok:X.Ok
 os:s.os=X.s₀.os
 bare:AllBare s.gens
 base:Un X.fs X.ex X.H₀ H X.s₀.heap s.heap
 loc:∃m,s.heap.Ns X.env.locals m/\∀(i:Nat) (x:Str) (v:V),X.N[i]?=some x->U[i]?=some (some v)->Vis X.env.scope x->∃u,zp v u/\zSf X.env s.heap m x u
 cell:∀x c,X.env.cells.lookup x=some c->∃v,s.heap.IsCell c v
 free:H X.env.locals=none
 freeC:∀x c,X.env.cells.lookup x=some c->H c=none
 pin:∀p∈X.pn++pA,s.heap.get? p.1=some p.2/\H p.1=none/\p.1≠X.env.locals/\p.1∉X.fs/\∀v,p.2.data≠ .cell v
 hok:yk X.prog X.w H s.heap
 len:U.length=X.N.length
section
variable {U:List (Option V)}
theorem Cx.Ok.nofr (ok:X.Ok) {o:Obj} (e:X.base.get? b=some o):b∉X.fs:=λhb=>by
 have:=(ok.funs.mem hb).1;rw [e] at this; cases this
theorem zN.bs (I:zN X pA U H s):∀b o,X.base.get? b=some o->s.heap.get? b=some o/\H b=none:=λb o e=>
 ⟨I.base.keep b o (I.ok.bs b o e).1 (I.ok.bs b o e).2 (I.ok.nofr e) (I.ok.noex b o e),I.base.free b o (I.ok.bs b o e).1 (I.ok.bs b o e).2 (I.ok.noex b o e)⟩
theorem zN.bk (I:zN X pA U H s):∀b o,X.base.get? b=some o->s.heap.get? b=some o:=λb o e=>(I.bs b o e).1
theorem zN.mod (I:zN X pA U H s):Mod X.K X.mg X.base:=I.ok.mod
theorem zN.kIn (I:zN X pA U H s):X.K.In s.heap:=I.ok.mod.kin.keeps I.bk
theorem zN.lt (I:zN X pA U H s):X.env.locals<s.heap.objs.size:=let ⟨_,hn,_⟩:=I.loc; hn.lt
theorem zN.sz (I:zN X pA U H s):X.s₀.heap.objs.size<=s.heap.objs.size:=qQ I.ok.above (qf I.lt)
theorem zN.nofs (I:zN X pA U H s) (h:s.heap.objs.size<=a):a∉X.fs:=λhb=>by
 obtain ⟨_,o,ho,_⟩:=I.ok.funs.mem hb;exact v6 (qd (qV ho) (qQ I.sz h)) (QQ _)
theorem zN.cne (I:zN X pA U H s):∀x c,X.env.cells.lookup x=some c->c≠X.env.locals:=λx c e z=>by
 obtain ⟨v,o,ho,hd⟩:=I.cell x c e;obtain ⟨m,⟨o',es,ep,ho',hd',_⟩,_⟩:=I.loc;rw [z,ho'] at ho; cases ho; rw [hd'] at hd; cases hd
theorem zN.funs (I:zN X pA U H s):s.heap.FunFrames X.base X.outer:=by
 have all:∀(l:List Env),(∀b∈jT l,b∈X.fs)->X.s₀.heap.FunFrames X.base l->s.heap.FunFrames X.base l:=by
  intro l
  induction l with
  | nil=>intro _ _; trivial
  | cons env r ih=>
   intro hs hl;obtain ⟨hk,⟨L,o,hf,hn,ho,hd⟩,hr⟩:=hl;have hL:L∈X.fs:=hs L (by unfold jT; rw [xW,hf]; exact qE);obtain ⟨sl,e⟩:=I.base.slot L o ho (I.ok.frf L hL) hL λz=>I.ok.exfs L z hL;exact ⟨hk,⟨L,_,hf,hn,e,hd⟩,ih (λb hb=>hs b (by unfold jT; rw [xW,hf]; exact qF _ hb)) hr⟩
 exact all X.outer (λ_ hb=>hb) I.ok.funs
theorem zN.stack (I:zN X pA U H s):s.heap.FunFrames X.base X.stack:=by
 rcases I.ok.stk with e | ⟨e,hf⟩
 .rw [e]; exact I.funs
 .rw [e]
  obtain ⟨m,hn,_⟩:=I.loc;refine .cons (by rw [I.ok.kind]; decide) hf hn ?_ I.funs;exact Heap.get?_none_of_le (qQ I.ok.bsz I.ok.above)
theorem zN.stkSub (I:zN X pA U H s):∀b∈jT X.stack,b∈X.env.locals::X.fs:=λb hb=>by
 rcases I.ok.stk with e | ⟨e,hf⟩
 .rw [e] at hb; exact qF _ hb
 .rw [e] at hb
  unfold jT at hb;rw [xW,hf] at hb;exact hb
theorem zN.stkFree (I:zN X pA U H s):∀b∈jT X.stack,H b=none:=λb hb=>by
 rcases List.mem_cons.mp (I.stkSub b hb) with e | hb
 .rw [e]; exact I.free
 .obtain ⟨_,o,ho,_⟩:=I.ok.funs.mem hb
  exact I.base.free b o ho (I.ok.frf b hb) λz=>I.ok.exfs b z hb
theorem zN.step (I:zN X pA U H s)
  (hch:∀b∈ch,(b∈X.ex\/X.s₀.heap.objs.size<=b)/\b≠X.env.locals/\(∀x c,X.env.cells.lookup x=some c->c≠b)/\∀p∈X.pn++pA,p.1≠b)
  (keep:∀b o,b≠X.env.locals->b∉X.fs->b∉ch->s.heap.get? b=some o->H b=none->h'.get? b=some o)
  (slot:∀b o,b≠X.env.locals->b∈X.fs->b∉ch->s.heap.get? b=some o->H b=none->∃sl,h'.get? b=some {o with slots:=sl}) (free:∀b o,b∉ch->s.heap.get? b=some o->H b=none->H' b=none)
  (there:∀b o,b∉ch->s.heap.get? b=some o->∃o',h'.get? b=some o')
  (tups:∀b xs,H b=some (.tup xs)->H' b=some (.tup xs)) (frzs:∀b o u,H b=some (.frz o u)->H' b=some (.frz o u)) (tbls:∀b ps,H b=some (.tbl ps)->∃more,H' b=some (.tbl (ps++more)))
  (ns:∀m,s.heap.Ns X.env.locals m->h'.Ns X.env.locals m) (hok:yk X.prog X.w H' h') (hg:AllBare g'):
  zN X pA U H' {s with heap:=h',gens:=g',drawn:=d',toks:=t'}:=by
 have neL:∀b o,X.s₀.heap.get? b=some o->b≠X.env.locals:=λb o e=>qb (qd (qV e) I.ok.above);have neC:∀b o,X.s₀.heap.get? b=some o->b∉X.ex->b∉ch:=λb o e hx hb=>by
  rcases (hch b hb).1 with z | z
  .exact hx z
  .exact v6 (qd (qV e) z) (QQ _)
 have cellK:∀x c,X.env.cells.lookup x=some c->∀v,s.heap.IsCell c v->h'.IsCell c v:=λx c e v ⟨o,ho,hd⟩=>by
  have nch:c∉ch:=λz=>(hch c z).2.2.1 x c e rfl;by_cases hc:c∈X.fs
  .obtain ⟨sl,q⟩:=slot c o (I.cne x c e) hc nch ho (I.freeC x c e)
   exact ⟨_,q,hd⟩
  .exact ⟨o,keep c o (I.cne x c e) hc nch ho (I.freeC x c e),hd⟩
 refine ⟨I.ok,I.os,hg,⟨λb o e n hb hx=>?_,λb o e n hb hx=>?_,λb o e n hx=>?_,λb o e hx=>?_,λb xs e=>tups b xs (I.base.tups b xs e),λb o xs e=>frzs b o xs (I.base.frzs b o xs e),λb ps e=>?_⟩,?_,λx c e=>?_,?_,λx c e=>?_,λp hp=>?_,hok,I.len⟩
 .exact keep b o (neL b o e) hb (neC b o e hx) (I.base.keep b o e n hb hx) (I.base.free b o e n hx)
 .obtain ⟨sl,e1⟩:=I.base.slot b o e n hb hx
  obtain ⟨sl',e2⟩:=slot b _ (neL b o e) hb (neC b o e hx) e1 (I.base.free b o e n hx);exact ⟨sl',e2⟩
 .obtain ⟨o',e1⟩:=I.base.there b o e hx
  exact free b o' (neC b o e hx) e1 (I.base.free b o e n hx)
 .obtain ⟨o',e1⟩:=I.base.there b o e hx
  exact there b o' (neC b o e hx) e1
 .obtain ⟨m1,e1⟩:=I.base.tbls b ps e
  obtain ⟨m2,e2⟩:=tbls b _ e1;exact ⟨m1++m2,by rw [e2,Array.append_assoc]⟩
 .obtain ⟨m,hn,hl⟩:=I.loc
  refine ⟨m,ns m hn,λi x v e1 e2 e3=>?_⟩;obtain ⟨u,r,l⟩:=hl i x v e1 e2 e3;refine ⟨u,r,?_⟩;rcases l with l | ⟨k,c,e,z⟩
  .exact .inl l
  .exact .inr ⟨k,c,e,cellK x c e _ z⟩
 .obtain ⟨v,z⟩:=I.cell x c e
  exact ⟨v,cellK x c e v z⟩
 .obtain ⟨m,⟨o,_,_,ho,_⟩,_⟩:=I.loc
  exact free _ o (λz=>(hch _ z).2.1 rfl) ho I.free
 .obtain ⟨v,o,ho,hd⟩:=I.cell x c e
  exact free c o (λz=>(hch c z).2.2.1 x c e rfl) ho (I.freeC x c e)
 .obtain ⟨e,n,ne,nf,d⟩:=I.pin p hp
  have nch:p.1∉ch:=λz=>(hch p.1 z).2.2.2 p hp rfl;exact ⟨keep p.1 p.2 ne nf nch e n,free p.1 p.2 nch e n,ne,nf,d⟩
theorem zN.un (I:zN X pA U H s) (u:Un X.fs [] H H' s.heap h') (hok:yk X.prog X.w H' h'):zN X pA U H' {s with heap:=h',toks:=t'}:=by
 obtain ⟨m,⟨o,es,ep,ho,r⟩,_⟩:=id I.loc;obtain ⟨sl,hL⟩:=u.any ho I.free (by simp);exact I.step (g':=s.gens) (d':=s.drawn) (ch:=[]) (λ_ z=>nomatch z) (λb o _ hb _ e n=>u.keep b o e n hb (by simp)) (λb o _ hb _ e n=>u.slot b o e n hb (by simp)) (λb o _ e n=>u.free b o e n (by simp)) (λb o _ e=>u.there b o e (by simp)) u.tups u.frzs u.tbls (λm' hm=>by
  obtain ⟨o',es',ep',ho',r'⟩:=hm;rw [ho] at ho'; cases ho';exact ⟨_,es',ep',hL,r'⟩) hok I.bare
theorem zN.call (I:zN X pA U H s) (u:Un (jT X.stack) ch H H' s.heap h') (hok:yk X.prog X.w H' h') (hg:AllBare g')
  (hch:∀b∈ch,(b∈X.ex\/X.s₀.heap.objs.size<=b)/\b≠X.env.locals/\(∀x c,X.env.cells.lookup x=some c->c≠b)/\∀p∈X.pn++pA,p.1≠b):
  zN X pA U H' {s with heap:=h',gens:=g',drawn:=d',toks:=t'}:=by
 obtain ⟨m,⟨o,es,ep,ho,r⟩,_⟩:=id I.loc;obtain ⟨sl,hL⟩:=u.any ho I.free λz=>(hch _ z).2.1 rfl;exact I.step (ch:=ch) hch (λb o hL hb hc e n=>u.keep b o e n (λz=>(List.mem_cons.mp (I.stkSub b z)).elim hL hb) hc) (λb o _ _ hc e n=>u.any e n hc) (λb o hc e n=>u.free b o e n hc) (λb o hc e=>u.there b o e hc) u.tups u.frzs u.tbls (λm' hm=>by
  obtain ⟨o',es',ep',ho',r'⟩:=hm;rw [ho] at ho'; cases ho';exact ⟨_,es',ep',hL,r'⟩) hok hg
theorem zN.turned (I:zN X pA U H s) (k:∀b o,b≠it->s.heap.get? b=some o->h'.get? b=some o) (hn:H it=none) (hL:it≠X.env.locals)
  (h1:it∈X.ex\/X.s₀.heap.objs.size<=it) (h2:∀x c,X.env.cells.lookup x=some c->c≠it) (h3:∀p∈X.pn++pA,p.1≠it):zN X pA U H {s with heap:=h',toks:=t'}:=by
 have nit:∀b u,H b=some u->b≠it:=λb u e z=>by rw [z,hn] at e; cases e
 refine I.step (g':=s.gens) (d':=s.drawn) (ch:=[it]) (λb hb=>?_) (λb o _ _ hc e _=>k b o (λz=>hc (by simp [z])) e) (λb o _ _ hc e _=>⟨o.slots,k b o (λz=>hc (by simp [z])) e⟩) (λ_ _ _ _ n=>n)
  (λb o hc e=>⟨o,k b o (λz=>hc (by simp [z])) e⟩) (λ_ _ e=>e) (λ_ _ _ e=>e) (λb ps e=>⟨#[],by rw [e]; simp⟩) (λm hm=>?_) (λb u e=>?_) I.bare
 .have e:b=it:=by simpa using hb
  subst e;exact ⟨h1,hL,h2,h3⟩
 .obtain ⟨o,es,ep,ho,r⟩:=hm
  exact ⟨o,es,ep,k _ o (Ne.symm hL) ho,r⟩
 .refine (I.hok b u e).stay (λc v hc q=>k c v ?_ q) (λ_ q=>q) λ_ _ q=>q
  rcases hc with z | z
  .rw [z]; exact nit b u e
  .exact nit c _ z
theorem zN.tok (I:zN X pA U H s) (t:Nat):zN X pA U H {s with toks:=t}:=I.un (h':=s.heap) (t':=t) Un.refl I.hok
theorem zN.kept (I:zN X pA U H s) (k:∀b u,s.heap.get? b=some u->h'.get? b=some u):zN X pA U H {s with heap:=h',toks:=t'}:=I.un (Un.kept k) (I.hok.kept k)
theorem zN.laid (I:zN X pA U H s) (k:∀b u,s.heap.get? b=some u->h'.get? b=some u) (hp:s.heap.objs.size<=a) (new:ZH X.prog X.w (zH H a o) h' a o):
  zN X pA U (zH H a o) {s with heap:=h',toks:=t'}:=I.un (Un.laid k hp (I.hok.fresh hp)) (I.hok.laid k hp new)
theorem zN.write {x e:Addr} (I:zN X pA U H s) (mu:Mut (H x)) (he:e=x\/H e=some (.own x)) (k:∀b u,b≠e->s.heap.get? b=some u->h'.get? b=some u) (heo:∃u,h'.get? e=some u)
  (new:ZH X.prog X.w (zH H x o) h' x o):zN X pA U (zH H x o) {s with heap:=h',toks:=t'}:=I.un (Un.write mu he k heo) (I.hok.write mu he k heo new)
theorem zN.pins_of (I:zN X pA U H s) (h:∀p∈pins',s.heap.get? p.1=some p.2/\H p.1=none/\p.1≠X.env.locals/\p.1∉X.fs/\∀v,p.2.data≠ .cell v):zN X pins' U H s:=
 ⟨I.ok,I.os,I.bare,I.base,I.loc,I.cell,I.free,I.freeC,λp hp=>(List.mem_append.mp hp).elim (λz=>I.pin p (qX _ z)) (h p),I.hok,I.len⟩
theorem zFd (hN:N.Nodup) (a:N[i]?=some x) (b:N[j]?=some x):i=j:=by
 obtain ⟨h1,e1⟩:=List.getElem?_eq_some_iff.mp a;obtain ⟨h2,e2⟩:=List.getElem?_eq_some_iff.mp b;exact (vo hN).mp (e1.trans e2.symm)
theorem zEe {Q:Unit->Shared->Prop} (I:zN X pA U H s) (hN:X.N.Nodup) (hi:X.N[i]?=some x) (hx:Loc X.env.scope x) (r:zp v u)
  (h:∀s',zN X pA (U.set i (some v)) H s'->(∃a,Heap.SameBut a s.heap s'.heap/\(a=X.env.locals\/X.env.cells.lookup x=some a))->Q () s') (hf:X.fn x=true\/X.env.scope.names.lookup x=some .local:=by first | exact .inl rfl | exact .inr rfl | assumption):wpAny M A (storeName X.env x u) Q E s:=by
 obtain ⟨m,hn,hl⟩:=id I.loc;have hcls:(X.env.scope.kind== .class||(X.env.scope.kind== .module&&X.env.locals !=X.env.globals))=false:=by rw [I.ok.kind]; rfl
 have hiσ:i<U.length:=by rw [I.len]; exact (List.getElem?_eq_some_iff.mp hi).1
 have cne:=I.cne;have tracked:∀{a:Addr} {h':Heap},(∃o,s.heap.get? a=some o/\H a=none)->Heap.SameBut a s.heap h'->yk X.prog X.w H h':=λ{a h'} ha hs b ob e=>by
  obtain ⟨_,_,hfree⟩:=ha;refine (I.hok b ob e).stay (λc w' hc q=>(hs.2 c ?_).trans q) (λ_ q=>q) λ_ _ q=>q;rintro rfl;rcases hc with rfl | hc
  .rw [hfree] at e; cases e
  .rw [hfree] at hc; cases hc
 rcases hx with hk | hk
 .refine wpAny_storeName_local hk hn (λh' hn' hs=>?_) hcls
  obtain ⟨oL,_,_,hoL,_⟩:=id hn;refine h _ ⟨I.ok,I.os,I.bare,⟨λb o e n hb hx=>?_,λb o e n hb hx=>?_,I.base.free,λb o e hx=>?_,I.base.tups,I.base.frzs,I.base.tbls⟩,⟨_,hn',λj y v' e1 e2 e3=>?_⟩,λy c e=>?_,I.free,I.freeC,λp hp=>?_,tracked ⟨oL,hoL,I.free⟩ hs,by simpa using I.len⟩ ⟨_,hs, .inl rfl⟩
  .exact (hs.2 b (qb (qd (qV e) I.ok.above))).trans (I.base.keep b o e n hb hx)
  .obtain ⟨sl,e1⟩:=I.base.slot b o e n hb hx
   exact ⟨sl,(hs.2 b (qb (qd (qV e) I.ok.above))).trans e1⟩
  .obtain ⟨o',e1⟩:=I.base.there b o e hx
   exact ⟨o',(hs.2 b (qb (qd (qV e) I.ok.above))).trans e1⟩
  .by_cases hj:j=i
   .subst hj
    rw [hi] at e1; cases e1;rw [List.getElem?_set_self hiσ] at e2;cases e2;exact ⟨u,r, .inl ⟨hk,by simp⟩⟩
   .rw [List.getElem?_set_ne (Ne.symm hj)] at e2
    obtain ⟨u',r',q⟩:=hl j y v' e1 e2 e3;refine ⟨u',r',?_⟩;rcases q with ⟨k,e⟩ | ⟨k,c,e,z⟩
    .refine .inl ⟨k,?_⟩
     have:y≠x:=λe=>hj (zFd hN e1 (e▸hi));simp [this,e]
    .exact .inr ⟨k,c,e,z.sameBut hs (cne y c e)⟩
  .obtain ⟨w',z⟩:=I.cell y c e
   exact ⟨w',z.sameBut hs (cne y c e)⟩
  .obtain ⟨e,n,ne,nf,d⟩:=I.pin p hp
   exact ⟨(hs.2 p.1 ne).trans e,n,ne,nf,d⟩
 .have hfn:X.fn x=true:=by
   rcases hf with z | z
   .exact z
   .rw [z] at hk; cases hk
  obtain ⟨c,hc⟩:=I.ok.has x (.inl hk);obtain ⟨w',z⟩:=I.cell x c hc;refine wpAny_storeName_cell I.ok.kind hk hc z (λh' hc' hs=>?_);obtain ⟨oc,hoc,hocd⟩:=id z;refine h {s with heap:=h'} ⟨I.ok,I.os,I.bare,⟨λb o e n hb hx=>?_,λb o e n hb hx=>?_,I.base.free,λb o e hx=>?_,I.base.tups,I.base.frzs,I.base.tbls⟩,⟨m,hn.sameBut hs (Ne.symm (cne x c hc)),λj y v' e1 e2 e3=>?_⟩,λy c' e=>?_,I.free,I.freeC,λp hp=>?_,tracked ⟨oc,hoc,I.freeC x c hc⟩ hs,by simpa using I.len⟩ ⟨c,hs, .inr hc⟩
  .exact (hs.2 b (qb (qd (qV e) (I.ok.cab x c hfn hc)))).trans (I.base.keep b o e n hb hx)
  .obtain ⟨sl,e1⟩:=I.base.slot b o e n hb hx
   exact ⟨sl,(hs.2 b (qb (qd (qV e) (I.ok.cab x c hfn hc)))).trans e1⟩
  .obtain ⟨o',e1⟩:=I.base.there b o e hx
   exact ⟨o',(hs.2 b (qb (qd (qV e) (I.ok.cab x c hfn hc)))).trans e1⟩
  .by_cases hj:j=i
   .subst hj
    rw [hi] at e1; cases e1;rw [List.getElem?_set_self hiσ] at e2;cases e2;exact ⟨u,r, .inr ⟨.inl hk,c,hc,hc'⟩⟩
   .rw [List.getElem?_set_ne (Ne.symm hj)] at e2
    obtain ⟨u',r',q⟩:=hl j y v' e1 e2 e3;refine ⟨u',r',?_⟩;rcases q with q | ⟨k,c',e,z'⟩
    .exact .inl q
    .refine .inr ⟨k,c',e,z'.sameBut hs ?_⟩
     rintro rfl;exact hj (zFd hN e1 (I.ok.inj _ _ _ e hc▸hi))
  .by_cases hcc:c'=c
   .subst hcc; exact ⟨_,hc'⟩
   .obtain ⟨w2,z2⟩:=I.cell y c' e
    exact ⟨w2,z2.sameBut hs hcc⟩
  .obtain ⟨e,n,ne,nf,d⟩:=I.pin p hp
   refine ⟨(hs.2 p.1 ?_).trans e,n,ne,nf,d⟩;intro q;rw [q,hoc] at e;have q':oc=p.2:=Option.some.inj e;exact d w' (by rw [<-q']; exact hocd)
theorem zGk {Q:Unit->Shared->Prop} (I:zN X pA U H s) (hN:X.N.Nodup) (hi:X.N[i]?=some x) (hx:Loc X.env.scope x) (r:zp v u)
  (h:∀s',zN X pA (U.set i (some v)) H s'->Q () s') (hf:X.fn x=true\/X.env.scope.names.lookup x=some .local:=by first | exact .inl rfl | exact .inr rfl | assumption):wpAny M A (storeName X.env x u) Q E s:=
 zEe I hN hi hx r (λs' I' _=>h s' I') hf
theorem zN.call' (I:zN X pA U H s) (ho:s'.os=s.os) (u:Un (jT X.stack) ch H H' s.heap s'.heap) (hok:yk X.prog X.w H' s'.heap) (hg:AllBare s'.gens)
  (hch:∀b∈ch,(b∈X.ex\/X.s₀.heap.objs.size<=b)/\b≠X.env.locals/\(∀x c,X.env.cells.lookup x=some c->c≠b)/\∀p∈X.pn++pA,p.1≠b):zN X pA U H' s':=by
 obtain ⟨h',g',d',t',o'⟩:=s';have e:o'=s.os:=ho;subst e;exact I.call (g':=g') (t':=t') (d':=d') u hok hg hch
end
abbrev XK:=Value->Option Addr->Hp->Prop
abbrev St:=List (Option V)
variable {U:St}
abbrev VK:=V->Hp->Prop
abbrev TE:=St->Hp->VK->Prop
variable {ta te:TE}
abbrev TT:=St->Hp->(Bool->Hp->Prop)->Prop
variable {tc:TT}
abbrev TA:=St->Hp->(List V->Hp->Prop)->Prop
structure zAV where
 nx:St->Hp->Prop
 rt:VK
 bk:St->Hp->Prop:=λ_ _=>False
 ct:St->Hp->Prop:=λ_ _=>False
variable {D:zAV}
abbrev TS:=zAV->St->Hp->Prop
variable {tb:TS}
def EP (X:Cx) (pA:List (Addr×Obj)) (U:St) (Q:VK) (u:Value) (s':Shared):Prop:=∃v H',zN X pA U H' s'/\zp v u/\Q v H'
def TP (X:Cx) (pA:List (Addr×Obj)) (U:St) (Q:Bool->Hp->Prop) (b:Bool) (s':Shared):Prop:=∃H',zN X pA U H' s'/\Q b H'
def AP (X:Cx) (pA:List (Addr×Obj)) (U:St) (Q:List V->Hp->Prop) (us:List Value) (s':Shared):Prop:=∃vs H',zN X pA U H' s'/\za vs us/\Q vs H'
def SP (X:Cx) (pA:List (Addr×Obj)) (D:zAV) (f:Flow) (s':Shared):Prop:=
 match f with
 | .next=>∃U' H',zN X pA U' H' s'/\D.nx U' H'
 | .brk=>∃U' H',zN X pA U' H' s'/\D.bk U' H'
 | .cont=>∃U' H',zN X pA U' H' s'/\D.ct U' H'
 | .ret u=>∃v U' H',zN X pA U' H' s'/\zp v u/\D.rt v H'
def PE (X:Cx) (e:Expr) (t:TE):Prop:=
 ∀(pA:List (Addr×Obj)) (s:Shared) (U:St) (H:Hp) (Q:VK),zN X pA U H s->t U H Q->wpAny (model X.prog X.w) X.A (eval e X.env) (EP X pA U Q) X.xe s
def PT (X:Cx) (e:Expr) (t:TT):Prop:=
 ∀(pA:List (Addr×Obj)) (s:Shared) (U:St) (H:Hp) (Q:Bool->Hp->Prop),zN X pA U H s->t U H Q->wpAny (model X.prog X.w) X.A (isTrue e X.env (eval e X.env)) (TP X pA U Q) X.xe s
def PW (X:Cx) (e:Expr) (t:TT):Prop:=
 ∀(whole:Sem Value) (pA:List (Addr×Obj)) (s:Shared) (U:St) (H:Hp) (Q:Bool->Hp->Prop),zN X pA U H s->t U H Q->wpAny (model X.prog X.w) X.A (isTrue e X.env whole) (TP X pA U Q) X.xe s
theorem PW.pt {t:TT} (h:PW X e t):PT X e t:=h _
def PA (X:Cx) (es:List Expr) (t:TA):Prop:=
 ∀(pos:Pos) (pA:List (Addr×Obj)) (s:Shared) (U:St) (H:Hp) (Q:List V->Hp->Prop),zN X pA U H s->t U H Q->wpAny (model X.prog X.w) X.A (spliced (backTo pos (starEach es X.env))) (AP X pA U Q) X.xe s
def PS (X:Cx) (st:Stmt) (t:TS):Prop:=
 ∀(pA:List (Addr×Obj)) (s:Shared) (U:St) (H:Hp) (D:zAV),zN X pA U H s->t D U H->wpAny (model X.prog X.w) X.A (exec st X.env) (SP X pA D) X.xe s
def JK (X:Cx) (st:List Stmt) (t:TS):Prop:=
 ∀(pA:List (Addr×Obj)) (s:Shared) (U:St) (H:Hp) (D:zAV),zN X pA U H s->t D U H->wpAny (model X.prog X.w) X.A (execs st X.env) (SP X pA D) X.xe s
theorem zg {t:Sem α} {Q:α->Shared->Prop} (h:wpAny M A t Q E s) (hQ:∀a s,Q a s->Q' a s):wpAny M A t Q' E s:=xC h hQ λ_ _ x=>x
section
inductive zQk (i:Nat) (U:St) (H:Hp) (Q:VK):Prop
 | mk (v:V):U[i]?=some (some v)->Q v H->zQk i U H Q
def zNQ (i:Nat):TE:=zQk i
def tC (v:V):TE:=λ_ H Q=>Q v H
theorem zQE (hN:X.N[i]?=some x) (hv:Vis X.env.scope x) (hd:(x==("__debug__":Str))=false:=by decide) (hcd:(x==("__classdict__":Str))=false:=by decide):PE X (.Name x pos) (zNQ i):=by
 intro pA s U H Q I h;obtain ⟨v,e,h⟩:=h;obtain ⟨m,hn,hl⟩:=I.loc;obtain ⟨u,r,l⟩:=hl i x v hN e hv;have fin:EP X pA U Q u s:=⟨v,H,I,r,h⟩;rcases l with ⟨hk,hm⟩ | ⟨hk,c,hc,hcell⟩
 .exact wpAny_Name (wpAny_loadName_local I.ok.kind hk hn hm fin) hd
 .rcases hk with hk | hk
  .exact wpAny_Name (wpAny_loadName_cell I.ok.kind hk hc hcell fin) hd
  .exact wpAny_Name (wpAny_loadName_free I.ok.kind hk hc hcell fin hcd) hd
theorem zJ {i j pos}:PE X (.Constant (.int i) j pos) (tC (.int i)):=λ_ _ _ H _ I h=>wpAny_Constant_int ⟨.int i,H,I.tok _,⟨_,rfl⟩,h⟩
theorem ZU {b j pos}:PE X (.Constant (.bool b) j pos) (tC (.bl b)):=λ_ _ _ H _ I h=>Constant_bool ⟨.bl b,H,I,rfl,h⟩
theorem Y4 {j pos}:PE X (.Constant .none j pos) (tC .non):=λ_ _ _ H _ I h=>Constant_none ⟨.non,H,I,rfl,h⟩
def Gl (X:Cx) (x:Str):Prop:=X.env.kindOf x=some .globalImplicit
theorem zEL (I:zN X pA U H s) (hg:Gl X x) (hm:X.mg x=some u) (h:Q u s)
  (hd:(x==("__debug__":Str))=false:=by decide):wpAny (model X.prog X.w) X.A (eval (.Name x pos) X.env) Q E s:=
 Calls.Name_function_global I.ok.kind hg (Calls.loadGlobal_global (by rw [I.ok.glob]; exact I.mod.glob.keeps I.bk) hm h) hd
theorem yZ (I:zN X pA U H s) (hg:Gl X x) (hm:X.mg x=none) (hv:bootBuiltins x=some u) (h:Q u s)
  (hn:x≠"__name__":=by decide) (hd:(x==("__debug__":Str))=false:=by decide):wpAny (model X.prog X.w) X.A (eval (.Name x pos) X.env) Q E s:=by
 obtain ⟨mb,h1,h2⟩:=I.mod.blt;exact Calls.Name_function_global I.ok.kind hg (Calls.loadGlobal_builtin (by rw [I.ok.glob]; exact I.mod.glob.keeps I.bk) hm (by rw [I.ok.blt]; exact h1.keeps I.bk) ((h2 x hn).trans hv) h) hd
theorem jR (hg:Gl X x) (hm:X.mg x=some u) (r:zp v u) (hd:(x==("__debug__":Str))=false:=by decide):PE X (.Name x pos) (tC v):=
 λ_ _ _ H _ I h=>zEL I hg hm ⟨v,H,I,r,h⟩ hd
theorem zAb (hg:Gl X x) (hm:X.mg x=none) (hv:bootBuiltins x=some u) (r:zp v u) (hn:x≠"__name__":=by decide) (hd:(x==("__debug__":Str))=false:=by decide):PE X (.Name x pos) (tC v):=
 λ_ _ _ H _ I h=>yZ I hg hm hv ⟨v,H,I,r,h⟩ hn hd
variable {a b:Expr} {tb:TE}
def PC (X:Cx) (op:CmpOp) (a b:Expr) (t:TE):Prop:=
 ∀(pA:List (Addr×Obj)) (s:Shared) (U:St) (H:Hp) (Q:VK),zN X pA U H s->t U H Q->
  wpAny (model X.prog X.w) X.A (eval a X.env) (λv s₁=>wpAny (model X.prog X.w) X.A (eval b X.env) (λu s₂=>wpAny (model X.prog X.w) X.A (compareOp op v u) (EP X pA U Q) X.xe s₂) X.xe s₁) X.xe s
inductive IBl (Q:Bool->Hp->Prop) (x:V) (H:Hp):Prop
 | mk (c:Bool):x= .bl c->Q c H->IBl Q x H
def tB (t:TE):TT:=λU H Q=>t U H (IBl Q)
theorem zBo {t:TE} (h:PC X op a b t) (h1:behindInMarks op b=false:=by first | exact nobehind _ (by decide) (by decide) | rfl):PT X (.Compare a [op] [b] pos) (tB t):=by
 intro pA s U H Q I hw;refine wpAny_isTrue_Compare1 (zg (h pA s U H _ I hw) λv s1 h1=>zg h1 λu s2 h2=>zg h2 λc s3 ⟨x,H1,I1,r1,q1⟩=>?_) h1;obtain ⟨d,rfl,q⟩:=q1;cases r1;exact QW ⟨H1,I1,q⟩
theorem ZN {t:TE} (h:PE X e t) (he:∀whole,isTrue e X.env whole=(do let v <-whole; standAt e.pos; holding [v] (truthy v)):=by intro _; rfl):PT X e (tB t):=by
 intro pA s U H Q I hw;refine isTrue_plain (zg (h pA s U H _ I hw) λv s1 ⟨x,H1,I1,r1,q1⟩=>?_) (he _);obtain ⟨d,rfl,q⟩:=q1;cases r1;exact QW ⟨H1,I1,q⟩
variable {tA tB':TT}
def zSV (t u:TT):TT:=λU H Q=>t U H λc H1=>if c=true then u U H1 Q else Q false H1
def tOr (t u:TT):TT:=λU H Q=>t U H λc H1=>if c=true then Q true H1 else u U H1 Q
def zSY (t:TT):TT:=λU H Q=>t U H λc H1=>Q (!c) H1
theorem Jj (ha:PT X a tA):PW X (.BoolOp .And [a] pos) tA:=by
 intro wh pA s U H Q I h;refine isTrue_and (zg (ha pA s U H Q I h) λc s1 e=>?_);cases c with
 | true=>exact isTrue_and_nil e
 | false=>exact e
theorem yA (ha:PT X a tA):PW X (.BoolOp .Or [a] pos) tA:=by
 intro wh pA s U H Q I h;refine isTrue_or (zg (ha pA s U H Q I h) λc s1 e=>?_);cases c with
 | false=>exact isTrue_or_nil e
 | true=>exact e
theorem Jx (ha:PT X a tA) (hb:PW X (.BoolOp .And (b::rest) pos) tB'):PW X (.BoolOp .And (a::b::rest) pos) (zSV tA tB'):=by
 intro wh pA s U H Q I h;refine isTrue_and (zg (ha pA s U H _ I h) λc s1 ⟨H1,I1,q1⟩=>?_);cases c with
 | true=>exact hb wh pA s1 U H1 Q I1 q1
 | false=>exact ⟨H1,I1,q1⟩
theorem yi (ha:PT X a tA) (hb:PW X (.BoolOp .Or (b::rest) pos) tB'):PW X (.BoolOp .Or (a::b::rest) pos) (tOr tA tB'):=by
 intro wh pA s U H Q I h;refine isTrue_or (zg (ha pA s U H _ I h) λc s1 ⟨H1,I1,q1⟩=>?_);cases c with
 | true=>exact ⟨H1,I1,q1⟩
 | false=>exact hb wh pA s1 U H1 Q I1 q1
theorem Zi (ha:PT X a tA):PT X (.UnaryOp .Not a pos) (zSY tA):=by
 intro pA s U H Q I h;exact isTrue_not (ha pA s U H (λc H1=>Q (!c) H1) I h)
def zRb (ta tb:TE):TE:=λU H Q=>ta U H λx H1=>∃c,x= .bl c/\if c=true then tb U H1 Q else Q (.bl false) H1
def zSt (ta tb:TE):TE:=λU H Q=>ta U H λx H1=>∃c,x= .bl c/\if c=true then Q (.bl true) H1 else tb U H1 Q
def zRU (ta:TE):TE:=λU H Q=>ta U H λx H1=>∃c,x= .bl c/\Q (.bl (!c)) H1
theorem yf {op} {t:TE} (h:PE X a t):PE X (.BoolOp op [a] pos) t:=λpA s U H Q I hw=>BoolOp_one (h pA s U H Q I hw)
theorem YL (ha:PE X a ta) (hb:PE X (.BoolOp .And (b::rest) pos) tb):PE X (.BoolOp .And (a::b::rest) pos) (zRb ta tb):=by
 intro pA s U H Q I h;refine BoolOp_and (zg (ha pA s U H _ I h) λv s1 ⟨x,H1,I1,r1,q1⟩=>?_);obtain ⟨c,rfl,q1⟩:=q1;cases r1;refine QW ?_;cases c with
 | true=>exact hb pA s1 U H1 Q I1 q1
 | false=>exact ⟨.bl false,H1,I1,rfl,q1⟩
theorem zNp (ha:PE X a ta) (hb:PE X (.BoolOp .Or (b::rest) pos) tb):PE X (.BoolOp .Or (a::b::rest) pos) (zSt ta tb):=by
 intro pA s U H Q I h;refine BoolOp_or (zg (ha pA s U H _ I h) λv s1 ⟨x,H1,I1,r1,q1⟩=>?_);obtain ⟨c,rfl,q1⟩:=q1;cases r1;refine QW ?_;cases c with
 | false=>exact hb pA s1 U H1 Q I1 q1
 | true=>exact ⟨.bl true,H1,I1,rfl,q1⟩
theorem zQq (ha:PE X a ta):PE X (.UnaryOp .Not a pos) (zRU ta):=by
 intro pA s U H Q I h;refine UnaryOp_ (zg (ha pA s U H _ I h) λv s1 ⟨x,H1,I1,r1,q1⟩=>?_);obtain ⟨c,rfl,q1⟩:=q1;cases r1;exact not_of (QW ⟨.bl (!c),H1,I1,rfl,q1⟩)
def tIf (t:TT) (ta tb:TE):TE:=λU H Q=>t U H λc H1=>if c=true then ta U H1 Q else tb U H1 Q
theorem zNR (hc:PT X c tA) (ha:PE X a ta) (hb:PE X b tb):PE X (.IfExp c a b pos) (tIf tA ta tb):=by
 intro pA s U H Q I h;refine wpAny_IfExp (zg (hc pA s U H _ I h) λd s1 ⟨H1,I1,q1⟩=>?_);cases d with
 | true=>exact ha pA s1 U H1 Q I1 q1
 | false=>exact hb pA s1 U H1 Q I1 q1
end
def zK (K:W.Frag) (H:Hp) (a:Addr) (xs:List V):Prop:=
 Rd H a (.lst xs)\/
  ∃(o:Obj) (pD:Array Value) (n:Nat),K.lookup a=some o/\o.cls= .type "list"/\o.dict=none/\o.data= .seq pD n/\pD.size<=sizeLine/\za xs pD.toList
def ZD (K:W.Frag) (H:Hp) (a:Addr) (xs:List V):Prop:=
 Rd H a (.tup xs)\/
  ∃(o:Obj) (pD:Array Value) (n:Nat),K.lookup a=some o/\o.cls= .type "tuple"/\o.data= .seq pD n/\pD.size<=sizeLine/\za xs pD.toList
def zSy:Value->Option V
 | .none=>some .non
 | .bool b=>some (.bl b)
 | .int i _=>some (.int i)
 | .str x _=>some (.str x)
 | .bytes b _=>some (.byt b)
 | .float b _=>some (.flt b)
 | .ref a=>some (.ref a)
 | .type n=>some (.ty n)
 | _=>none
theorem zp.abs {x:V} (r:zp x u):zSy u=some x:=by
 cases x with
 | non=>cases r; rfl
 | bl _=>cases r; rfl
 | int _=>obtain ⟨t,rfl⟩:=r; rfl
 | str _=>obtain ⟨t,rfl⟩:=r; rfl
 | byt _=>obtain ⟨t,rfl⟩:=r; rfl
 | flt _=>obtain ⟨t,rfl⟩:=r; rfl
 | ref _=>cases r; rfl
 | ty _=>cases r; rfl
theorem zp.inj {x:V} (r:zp x u) (q:zp y u):x=y:=Option.some.inj (r.abs.symm.trans q.abs)
theorem za.inj:∀{xs ys:List V} {us:List Value},za xs us->za ys us->xs=ys
 | _,_,_, .nil, .nil=>rfl
 | _,_,_, .cons r t, .cons r' t'=>by rw [r.inj r',za.inj t t']
section
variable {ys:List V}
theorem zK.of (h:H a=some (.lst xs)):zK K H a xs:= .inl (.inl h)
theorem ZD.of (h:H a=some (.tup xs)):ZD K H a xs:= .inl (.inl h)
theorem zN.list (I:zN X pA U H s) (h:zK X.K H a xs):∃pD:List Value,za xs pD/\PlainL s.heap a pD.toArray/\xs.length<=sizeLine:=by
 rcases h with h | ⟨o,pD,n,hk,hc,hd,hs,hz,r⟩
 .obtain ⟨z,pD,n,r,e⟩:=h.ok I.hok
  exact ⟨pD,r,⟨_,n,e,rfl,rfl,rfl⟩,z⟩
 .refine ⟨pD.toList,r,⟨o,n,I.kIn a o hk,hc,hd,by simpa using hs⟩,?_⟩
  have e:=r.length;simp only [qc] at e;lia
theorem zN.tuple (I:zN X pA U H s) (h:ZD X.K H a xs):∃pD:List Value,za xs pD/\IsTup s.heap a pD.toArray/\xs.length<=sizeLine:=by
 rcases h with h | ⟨o,pD,n,hk,hc,hs,hz,r⟩
 .obtain ⟨z,pD,r,p⟩:=h.ok I.hok
  exact ⟨pD,r,p,z⟩
 .refine ⟨pD.toList,r,⟨o,I.kIn a o hk,hc,n,by simpa using hs⟩,?_⟩
  have e:=r.length;simp only [qc] at e;lia
theorem zN.list_inj (I:zN X pA U H s) (h:zK X.K H a xs) (h':zK X.K H a ys):xs=ys:=by
 obtain ⟨pD,r,⟨o,n,e,_,_,d⟩,_⟩:=I.list h;obtain ⟨its',r',⟨o',n',e',_,_,d'⟩,_⟩:=I.list h';rw [e] at e'; cases e';rw [d] at d';injection d' with d1 _
 have:pD=its':=by simpa using Qe Array.toList d1
 subst this;exact r.inj r'
end
abbrev Cx.wish (X:Cx) (E:Value->Shared->Prop):Cx:={X with xe:=E}
abbrev Cx.nox (X:Cx):Cx:=X.wish λ_ _=>False
theorem Cx.Ok.wish (ok:X.Ok) (E:Value->Shared->Prop):(X.wish E).Ok:=
 ⟨ok.mod,ok.kind,ok.glob,ok.blt,ok.above,ok.inj,ok.has,ok.cab,ok.hd,ok.frames,ok.stk,ok.exf,ok.bs,ok.bsz,ok.noex,ok.exfs,ok.funs,ok.frf⟩
theorem Cx.Ok.unwish (ok:(X.wish E).Ok):X.Ok:=
 ⟨ok.mod,ok.kind,ok.glob,ok.blt,ok.above,ok.inj,ok.has,ok.cab,ok.hd,ok.frames,ok.stk,ok.exf,ok.bs,ok.bsz,ok.noex,ok.exfs,ok.funs,ok.frf⟩
theorem zN.wish (I:zN X pA U H s) (E:Value->Shared->Prop):zN (X.wish E) pA U H s:=⟨I.ok.wish E,I.os,I.bare,I.base,I.loc,I.cell,I.free,I.freeC,I.pin,I.hok,I.len⟩
theorem zN.unwish (I:zN (X.wish E) pA U H s):zN X pA U H s:=⟨I.ok.unwish,I.os,I.bare,I.base,I.loc,I.cell,I.free,I.freeC,I.pin,I.hok,I.len⟩
theorem SP.unwish {f:Flow} (h:SP (X.wish E) pA D f s'):SP X pA D f s':=by
 cases f with
 | next=>obtain ⟨U',H',I,q⟩:=h; exact ⟨U',H',I.unwish,q⟩
 | brk=>obtain ⟨U',H',I,q⟩:=h; exact ⟨U',H',I.unwish,q⟩
 | cont=>obtain ⟨U',H',I,q⟩:=h; exact ⟨U',H',I.unwish,q⟩
 | ret u=>obtain ⟨v,U',H',I,r,q⟩:=h; exact ⟨v,U',H',I.unwish,r,q⟩
theorem JK.nox {t:TS} (h:JK X.nox st t):JK X st t:=λpA s U H D I hw=>
 xC (h pA s U H D (I.wish _) hw) (λ_ _ q=>q.unwish) λ_ _ z=>False.elim z
section
variable {st:Stmt} {rest:List Stmt} {t u:TS}
def zCF:TS:=λD U H=>D.nx U H
def JL (t u:TS):TS:=λD U H=>t {D with nx:=u D} U H
theorem zW:JK X [] zCF:=λ_ _ U H _ I h=>vI ⟨U,H,I,h⟩
theorem zD (h1:PS X st t) (h2:JK X rest u):JK X (st::rest) (JL t u):=by
 intro pA s U H D I h;refine wpAny_execs_cons (zg (h1 pA s U H {D with nx:=u D} I h) λf s1 q=>?_);cases f with
 | next=>
  obtain ⟨U',H',I',q⟩:=q;exact h2 pA s1 U' H' D I' q
 | ret v=>exact q
 | brk=>exact q
 | cont=>exact q
theorem zG (h1:PS X st t):JK X [st] t:=by
 intro pA s U H D I h;refine wpAny_execs_cons (zg (h1 pA s U H D I h) λf s1 q=>?_);cases f with
 | next=>exact vI q
 | ret v=>exact q
 | brk=>exact q
 | cont=>exact q
theorem zN.quiet (I:zN X pA U H s):interactive X.env=false:=by simp [interactive,I.ok.kind]
def zSJ (te:TE):TS:=λD U H=>te U H λ_ H1=>D.nx U H1
theorem zo (he:PE X e te) (hs:swapsWith e none pos.line X.env=pure false:=by rfl):PS X (.Expr e pos) (zSJ te):=by
 intro pA s U H D I h;exact wpAny_Expr_any (zg (he pA s U H _ I h) λv s1 ⟨x,H1,I1,r1,q1⟩=>⟨U,H1,I1,q1⟩) I.quiet hs
def zSw (te:TE):TS:=λD U H=>te U H D.rt
theorem zM (he:PE X e te):PS X (.Return (some e) pos) (zSw te):=by
 intro pA s U H D I h;exact wpAny_Return_some (zg (he pA s U H _ I h) λv s1 ⟨x,H1,I1,r1,q1⟩=>⟨x,U,H1,I1,r1,q1⟩)
def zSi (c:TT) (t u:TS):TS:=λD U H=>c U H λb H1=>if b=true then t D U H1 else u D U H1
theorem zd {a b:List Stmt} (hc:PT X c tc) (ha:JK X a t) (hb:JK X b u):PS X (.If c a b pos) (zSi tc t u):=by
 intro pA s U H D I h;refine wpAny_If (zg (hc pA s U H _ I h) λd s1 ⟨H1,I1,q1⟩=>?_);cases d with
 | true=>exact ha pA s1 U H1 D I1 q1
 | false=>exact hb pA s1 U H1 D I1 q1
def zPp:TS:=λ_ _ _=>False
theorem yS:PS X st zPp:=λ_ _ _ _ _ _ h=>h.elim
end
abbrev TG:=V->St->Hp->(St->Hp->Prop)->Prop
abbrev TGs:=List V->St->Hp->(St->Hp->Prop)->Prop
def PG (X:Cx) (target:Expr) (t:TG):Prop:=
 ∀(pA:List (Addr×Obj)) (s:Shared) (U:St) (H:Hp) (v:V) (u:Value) (Q:St->Hp->Prop),zN X pA U H s->zp v u->t v U H Q->
  wpAny (model X.prog X.w) X.A (assign target X.env u) (λ_ s'=>∃U' H',zN X pA U' H' s'/\Q U' H') X.xe s
def PGs (X:Cx) (ts:List Expr) (t:TGs):Prop:=
 ∀(pA:List (Addr×Obj)) (s:Shared) (U:St) (H:Hp) (vs:List V) (us:List Value) (Q:St->Hp->Prop),zN X pA U H s->za vs us->t vs U H Q->
  wpAny (model X.prog X.w) X.A (assignInOrder ((assignEach ts X.env).map (·.2)) us) (λ_ s'=>∃U' H',zN X pA U' H' s'/\Q U' H') X.xe s
def ZW (i:Nat):TG:=λv U H Q=>Q (U.set i (some v)) H
theorem jw (hN:X.N.Nodup) (hi:X.N[i]?=some x) (hx:Loc X.env.scope x) (hf:X.fn x=true\/X.env.scope.names.lookup x=some .local:=by first | exact .inl rfl | exact .inr rfl | assumption):PG X (.Name x pos) (ZW i):=by
 intro pA s U H v u Q I r h;exact wpAny_assign_Name (zGk I hN hi hx r (λs' I'=>⟨_,H,I',h⟩) hf)
def zMx:TGs:=λvs U H Q=>vs=[]/\Q U H
def zDW (t:TG) (u:TGs):TGs:=λvs U H Q=>∃v r,vs=v::r/\t v U H λU' H'=>u r U' H' Q
theorem zCE:PGs X [] zMx:=by
 intro pA s U H vs us Q I r h;obtain ⟨e,h⟩:=h;subst e;cases r;exact assignInOrder_nil ⟨U,H,I,h⟩
theorem Yq {t:TG} {u:TGs} (h1:PG X e t) (h2:PGs X es u)
  (hs:(assignEach (e::es) X.env).map (·.2)=assign e X.env::(assignEach es X.env).map (·.2):=by rfl):PGs X (e::es) (zDW t u):=by
 intro pA s U H vs us Q I r h;obtain ⟨v,vr,e1,h⟩:=h;subst e1;cases r with
 | cons r rr=>
  rw [hs];refine assignInOrder_cons (zg (h1 pA s U H _ _ _ I r h) λ_ s1 ⟨U1,H1,I1,q1⟩=>?_);exact h2 pA s1 U1 H1 _ _ Q I1 rr q1
def zJH (K:W.Frag) (n:Nat) (t:TGs):TG:=λv U H Q=>∃a xs,v= .ref a/\ZD K H a xs/\xs.length=n/\t xs U H Q
theorem zGp {k:Nat} {t:TGs} (hc:X.calm=true) (h:PGs X es t)
  (hn:(assignEach es X.env).length=n:=by rfl) (hst:(assignEach es X.env).findIdx? (·.1)=none:=by rfl):PG X (.Tuple es k pos) (zJH X.K n t):=by
 intro pA s U H v u Q I r hw;obtain ⟨a,xs,e1,hq,hl,hw⟩:=hw;subst e1;cases r;obtain ⟨pD,rv,ht,hz⟩:=I.tuple hq;refine assign_Tuple_tuple (I.ok.hd hc) ht (by simp [hn,<-hl,rv.length]) hst λh' hx=>?_;have I1:zN X pA U H {s with heap:=h'}:=I.kept (t':=s.toks) λb o e=>hx b o (qb (qV e)) e;exact h pA _ U H xs _ Q I1 (by simpa using rv) hw
def zIo (te:TE) (g:TG):TS:=λD U H=>te U H λx H1=>g x U H1 D.nx
theorem zQa {g:TG} (he:PE X e te) (hg:PG X tg g) (hs:swapsWithSole [tg] e pos.line X.env=pure false:=by rfl) (hw:swappedStores [tg] e X.env=pure none:=by rfl)
  (h1:(assignEach [tg] X.env).map (·.2)=[assign tg X.env]:=by rfl):PS X (.Assign [tg] e pos) (zIo te g):=by
 intro pA s U H D I h;refine wpAny_Assign_stores (zg (he pA s U H _ I h) λv s1 ⟨x,H1,I1,r1,q1⟩=>?_) hs hw;rw [h1];exact zg (hg pA s1 U H1 x v _ I1 r1 q1) λ_ s2 q=>q
theorem zJd (hN:X.N.Nodup) (hi:X.N[i]?=some x) (hx:Loc X.env.scope x) (he:PE X e te) (hs:swapsWith e (some (.Name x pos')) pos.line X.env=pure false:=by rfl) (hf:X.fn x=true\/X.env.scope.names.lookup x=some .local:=by first | exact .inl rfl | exact .inr rfl | assumption):
  PS X (.Assign [.Name x pos'] e pos) (zIo te (ZW i)):=by
 intro pA s U H D I h;refine wpAny_Assign_Name (zg (he pA s U H _ I h) λv s1 ⟨y,H1,I1,r1,q1⟩=>?_) hs;exact zGk I1 hN hi hx r1 (λs2 I2=>⟨_,H1,I2,q1⟩) hf
def zJo (c:TT) (tb:TS):TS:=λD U H=>∃Z:Nat->St->Hp->Prop,(∃m,Z m U H)/\∀m U H,Z m U H->
 c U H λb H1=>if b=true then ∃N:St->Hp->Prop,(∀U' H',N U' H'->∃m',m'<m/\Z m' U' H')/\tb {D with nx:=N,ct:=N,bk:=D.nx} U H1 else D.nx U H1
theorem YV (hp:PassesOwn (model X.prog X.w) X.A X.env X.xe) (hc:PT X c tc) (hb:JK X body tb):PS X (.While c body [] pos) (zJo tc tb):=by
 intro pA s U H D I h;obtain ⟨Z,⟨m0,w0⟩,turn⟩:=h;refine wpAny_While (codeAny_whileLoop (λn s'=>∃U' H',zN X pA U' H' s'/\Z n U' H') ?_ m0 ⟨U,H,I,w0⟩);rintro n s1 ⟨U1,H1,I1,w1⟩;refine xg hp (zg (hc pA s1 U1 H1 _ I1 (turn n U1 H1 w1)) λb s2 ⟨H2,I2,q2⟩=>?_);cases b with
 | true=>
  obtain ⟨N,hN,q2⟩:=q2;rw [qO rfl];refine xg hp (zg (hb pA s2 U1 H2 _ I2 q2) λf s3 q3=>?_);cases f with
  | next=>
   obtain ⟨U3,H3,I3,n3⟩:=q3;obtain ⟨m',hm,w3⟩:=hN U3 H3 n3;exact ⟨m',hm,U3,H3,I3,w3⟩
  | cont=>
   obtain ⟨U3,H3,I3,n3⟩:=q3;obtain ⟨m',hm,w3⟩:=hN U3 H3 n3;exact ⟨m',hm,U3,H3,I3,w3⟩
  | brk=>exact q3
  | ret v=>exact q3
 | false=>
  rw [qP qR];exact vI ⟨U1,H2,I2,q2⟩
structure It where
 go:Nat->Hp->Prop
 yld:Nat->Hp->V->Hp->Prop
 stop:Nat->Hp->Prop
def JN (X:Cx) (pA:List (Addr×Obj)) (H:Hp) (b:Addr):Prop:=
 H b=none/\b≠X.env.locals/\b∉X.fs/\(b∈X.ex\/X.s₀.heap.objs.size<=b)/\(∀x c,X.env.cells.lookup x=some c->c≠b)/\∀p∈X.pn++pA,p.1≠b
theorem zN.fpOk (I:zN X pA U H s) (hb:s.heap.objs.size<=b) (hn:H' b=none):JN X pA H' b:=by
 refine ⟨hn,XA (qd I.lt hb),I.nofs hb, .inr (qQ I.sz hb),λx c e z=>?_,λp hp z=>?_⟩
 .obtain ⟨v,q⟩:=I.cell x c e
  exact v6 (qd q.lt (by rw [z]; exact hb)) (QQ _)
 .exact v6 (qd (qV (I.pin p hp).1) (by rw [z]; exact hb)) (QQ _)
structure zAn (P:Program) (w:World) (K:W.Frag) (tg:Expr) (J:It) (fp:List Addr) (it:Addr) (tn:Nat->Heap->Prop):Prop where
 mem:it∈fp
 obj:∀i h,tn i h->∀b∈fp,∃o,h.get? b=some o/\∀v,o.data≠ .cell v
 keep:∀i h h',tn i h->(∀b∈fp,∀o,h.get? b=some o->h'.get? b=some o)->tn i h'
 item:∀(X:Cx),X.prog=P->X.w=w->X.K=K->X.calm=true->∀(i:Nat) (pA:List (Addr×Obj)) (s:Shared) (U:St) (H:Hp) (E:Value->Shared->Prop),zN X pA U H s->(∀b∈fp,JN X pA H b)->tn i s.heap->J.go i H->
  wpAny (model P w) X.A (pyNext (.ref it)) (λr s1=>∃u,r=some u/\
   wpAny (model P w) X.A (letOwnedTupleGo tg (.ref it) u) (λ_ s2=>∃x H',zN X pA U H' s2/\zp x u/\J.yld i H x H'/\tn (i+1) s2.heap/\∀b∈fp,H' b=none) E s1) E s
 done:∀(X:Cx),X.prog=P->X.w=w->X.K=K->X.calm=true->∀(i:Nat) (pA:List (Addr×Obj)) (s:Shared) (U:St) (H:Hp) (E:Value->Shared->Prop),zN X pA U H s->(∀b∈fp,JN X pA H b)->tn i s.heap->J.stop i H->
  wpAny (model P w) X.A (pyNext (.ref it)) (λr s1=>r=none/\zN X pA U H s1) E s
 self:∀(A:Around) (i:Nat) (s:Shared) (Q:Value->Shared->Prop) (E:Value->Shared->Prop),tn i s.heap->Q (.ref it) s->wpAny (model P w) A (pyIter (.ref it)) Q E s
abbrev TI:=St->Hp->(It->Hp->Prop)->Prop
def PIE (X:Cx) (pA:List (Addr×Obj)) (U:St) (tg:Expr) (R:It->Hp->Prop) (itv:Value) (s2:Shared):Prop:=
 ∃(it:Addr) (fp:List Addr) (tn:Nat->Heap->Prop) (J:It) (H':Hp),itv= .ref it/\zN X pA U H' s2/\zAn X.prog X.w X.K tg J fp it tn/\tn 0 s2.heap/\(∀b∈fp,JN X pA H' b)/\R J H'
def PI (X:Cx) (tg iter:Expr) (wi:TI):Prop:=
 ∀(pA:List (Addr×Obj)) (s:Shared) (U:St) (H:Hp) (R:It->Hp->Prop),zN X pA U H s->wi U H R->
  wpAny (model X.prog X.w) X.A (eval iter X.env) (λv s1=>wpAny (model X.prog X.w) X.A (pyIter v) (PIE X pA U tg R) X.xe s1) X.xe s
theorem zDI {o:Obj} {n:String} {vs:Array Value} {Q:Unit->Shared->Prop} (ho:s.heap.get? it=some o) (hc:o.cls= .type n) (hd:o.data= .fields vs)
    (hn:["enumerate","zip","dict_itemiterator","dict_reverseitemiterator","odict_iterator","itertools.zip_longest","itertools.pairwise"].contains n=false) (hQ:Q () s):wpAny M A (letOwnedTupleGo tg (.ref it) u) Q E s:=by
  unfold letOwnedTupleGo;cases tg <;> first
    | exact qI hQ
    | (cases u <;> first
        | exact qI hQ
        | (refine qD (wpAny_load ho ?_)
           rw [hc,hd];show wpAny M A (if (["enumerate","zip","dict_itemiterator","dict_reverseitemiterator","odict_iterator","itertools.zip_longest","itertools.pairwise"].contains n&&vs[0]?==some (rawInt _))=true then _ else _) Q E s;rw [qP (by intro h; rw [hn,xG] at h; cases h)];exact qI hQ))
def Itl (K:W.Frag) (a:Addr):It:=
 ⟨λi H=>∃xs x,zK K H a xs/\xs[i]?=some x,λi H x H'=>H'=H/\∀xs,zK K H a xs->xs[i]?=some x,λi H=>∃xs,zK K H a xs/\xs.length<=i⟩
def Itr (lo:Int) (n:Nat):It:=⟨λi _=>i<n,λi H x H'=>H'=H/\x= .int (lo+i),λi _=>n<=i⟩
theorem zJf (a it:Addr):zAn P w K tg (Itl K a) [it] it (λi h=>h.IsListIter it a i) where
 mem:=by simp
 obj:=λi h st b hb=>by
  have e:b=it:=by simpa using hb
  subst e;obtain ⟨o,e,c,d⟩:=st;exact ⟨o,e,λv z=>by rw [d] at z; cases z⟩
 keep:=λi h h' st k=>st.at λo e=>k it (by simp) o e
 item:=by
  intro X hP hw hK hc i pA s U H E I hf st hg;subst hP hw hK;obtain ⟨xs,x,hq,hx⟩:=hg;obtain ⟨pD,rv,p,hz⟩:=I.list hq;obtain ⟨u,hu,ru⟩:=rv.get hx;obtain ⟨f0,f1,f2,f3,f4,f5⟩:=hf it (by simp);refine wpAny_pyNext_list_item st p.isList (x:=u) (by simpa using hu) λh' st' sb=>?_;have I1:zN X pA U H {s with heap:=h'}:=I.turned (t':=s.toks) (λb o hb e=>(sb.2 b hb).trans e) f0 f1 f3 f4 f5;obtain ⟨o,e,c,d⟩:=id st';exact ⟨u,rfl,zDI (s:={s with heap:=h'}) e c d (by decide) ⟨x,H,I1,ru,⟨rfl,λys hy=>by rw [I.list_inj hy hq]; exact hx⟩,st',λb hb=>(hf b hb).1⟩⟩
 done:=by
  intro X hP hw hK hc i pA s U H E I hf st hg;subst hP hw hK;obtain ⟨xs,hq,hx⟩:=hg;obtain ⟨pD,rv,p,hz⟩:=I.list hq;obtain ⟨f0,f1,f2,f3,f4,f5⟩:=hf it (by simp);have hl:=rv.length;exact wpAny_pyNext_list_end (I.ok.hd hc) st p.isList (by simp; lia) λh' eb=>⟨rfl,I.turned (t':=s.toks) (λb o hb e=>eb b o hb e) f0 f1 f3 f4 f5⟩
 self:=λ_ _ _ _ _ st h=>wpAny_pyIter_listiter st h
theorem zHv (it:Addr) (lo:Int) (n:Nat):zAn P w K tg (Itr lo n) [it] it (λi h=>IsRangeIter h it (lo+(i:Nat)*1) ((n:Int) - (i:Nat)) 1) where
 mem:=by simp
 obj:=λi h st b hb=>by
  have e:b=it:=by simpa using hb
  subst e;exact ⟨_,st,λv z=>by
   have z':Data.fields _=Data.cell v:=z;cases z'⟩
 keep:=λi h h' st k=>k it (by simp) _ st
 item:=by
  intro X hP hw hK hc i pA s U H E I hf st hg;subst hP hw hK;obtain ⟨f0,f1,f2,f3,f4,f5⟩:=hf it (by simp);have Z:=Walks.range (prog:=X.prog) (w:=X.w) (I.ok.hd hc) it lo 1 n;refine Z.item i s _ _ hg st λv h' tk hv st' kk=>?_;obtain ⟨t,rfl⟩:=hv;have I1:zN X pA U H {s with heap:=h',toks:=tk}:=I.turned (λb o hb e=>kk b o (by simpa using hb) e) f0 f1 f3 f4 f5;refine ⟨_,rfl,zDI (s:={s with heap:=h',toks:=tk}) (n:="range_iterator") st' rfl rfl (by decide) ⟨.int (lo+i),H,I1,⟨t,?_⟩,⟨rfl,rfl⟩,st',λb hb=>(hf b hb).1⟩⟩;rw [Int.mul_one]
 done:=by
  intro X hP hw hK hc i pA s U H E I hf st hg;subst hP hw hK;obtain ⟨f0,f1,f2,f3,f4,f5⟩:=hf it (by simp);exact wpAny_pyNext_range_end (I.ok.hd hc) st (by have:n<=i:=hg; lia) λh' eb=>⟨rfl,I.turned (t':=s.toks) (λb o hb e=>eb b o hb e) f0 f1 f3 f4 f5⟩
 self:=λ_ _ _ _ _ st h=>wpAny_pyIter_rangeiter st h
def zRq (K:W.Frag) (tl:TE):TI:=λU H R=>tl U H λx H1=>∃a,x= .ref a/\(∃xs,zK K H1 a xs)/\R (Itl K a) H1
theorem zj {l:Expr} {tl:TE} (hl:PE X l tl):PI X tg l (zRq X.K tl):=by
 intro pA s U H R I h;refine zg (hl pA s U H _ I h) λv s1 ⟨x,H1,I1,r1,q1⟩=>?_;obtain ⟨a,e,⟨xs,hq⟩,q⟩:=q1;subst e;cases r1;obtain ⟨pD,rv,p,hz⟩:=I1.list hq;refine Xw p.isList ?_;refine ⟨s1.heap.objs.size,[s1.heap.objs.size],_,_,H1,rfl,I1.kept (t':=s1.toks) λb o e=>qH _ e,zJf a _,⟨_,qW _ rfl,rfl,rfl⟩,λb hb=>?_,q⟩;have e:b=s1.heap.objs.size:=by simpa using hb
 subst e;exact I1.fpOk (qG _) (I1.hok.fresh (qG _))
theorem zFk {R:It->Hp->Prop} {hi:Int} {t u v:Tok} {tk:Nat} (I:zN X pA U H s) (h1: -(2^62)<=lo) (h2:lo<2^62) (h3: -(2^62)<=hi) (h4:hi<2^62)
  (q:R (Itr lo (hi - lo).toNat) H):wpAny (model X.prog X.w) X.A (pyIter (.ref s.heap.objs.size)) (PIE X pA U tg R) E {s with heap:=s.heap.push {cls:= .type "range",data:= .fields #[.int lo t, .int hi u, .int 1 v]},toks:=tk}:=by
 refine wpAny_pyIter_range (IsRange.new ..) (small_one h1 h2 h3 h4) ?_;have I1:zN X pA U H {s with heap:=s.heap.push {cls:= .type "range",data:= .fields #[.int lo t, .int hi u, .int 1 v]},toks:=tk}:=I.kept λb o e=>qH _ e;refine ⟨(s.heap.push {cls:= .type "range",data:= .fields #[.int lo t, .int hi u, .int 1 v]}).objs.size,[(s.heap.push {cls:= .type "range",data:= .fields #[.int lo t, .int hi u, .int 1 v]}).objs.size],_,_,H,rfl,
  I1.kept (t':=tk) λb o e=>qH _ e,zHv _ lo (hi - lo).toNat,?_,λb hb=>?_,q⟩
 .have e1:lo+((0:Nat):Int)*1=lo:=by simp
  have e2:(((hi - lo).toNat:Nat):Int) - ((0:Nat):Int)=Builtin.Range.rangeSize lo hi 1:=by rw [rangeSize_one]; split <;> lia
  show IsRangeIter _ _ (lo+((0:Nat):Int)*1) ((((hi - lo).toNat:Nat):Int) - ((0:Nat):Int)) 1;rw [e1,e2];exact qW _ rfl
 .have e:b=(s.heap.push {cls:= .type "range",data:= .fields #[.int lo t, .int hi u, .int 1 v]}).objs.size:=by simpa using hb
  subst e;exact I1.fpOk (qG _) (I1.hok.fresh (qG _))
def zSF (ta:TA):TI:=λU H R=>ta U H λvs H1=>∃j:Int,vs=[.int j]/\ -(2^62)<=j/\j<2^62/\R (Itr 0 j.toNat) H1
def zRD (ta:TA):TI:=λU H R=>ta U H λvs H1=>∃i j:Int,vs=[.int i, .int j]/\(-(2^62)<=i/\i<2^62/\ -(2^62)<=j/\j<2^62)/\R (Itr i (j - i).toNat) H1
theorem yx {a:Expr} {ta:TA} (hg:Gl X "range") (hm:X.mg "range"=none) (ha:PA X [a] ta) (hs:starEach [a] X.env=[(false,eval a X.env)]:=by rfl):PI X tg (.Call (.Name "range" p) [a] [] pos) (zSF ta):=by
 intro pA s U H R I h;refine Call_ (yZ I hg hm boot_range (QE (zg (ha pos pA s U H _ I h) λus s1 ⟨vs,H1,I1,r1,q1⟩=>?_) hs rfl));obtain ⟨j,e,q1,q2,q⟩:=q1;subst e;cases r1 with
 | cons r rr=>
  cases rr;obtain ⟨t,rfl⟩:=r;exact call_range_1 (zFk I1 (by lia) (by lia) q1 q2 (by simpa using q))
theorem zEk {a b:Expr} {ta:TA} (hg:Gl X "range") (hm:X.mg "range"=none) (ha:PA X [a,b] ta) (hs:starEach [a,b] X.env=[(false,eval a X.env),(false,eval b X.env)]:=by rfl) (hs2:starEach [b] X.env=[(false,eval b X.env)]:=by rfl):
  PI X tg (.Call (.Name "range" p) [a,b] [] pos) (zRD ta):=by
 intro pA s U H R I h;refine Call_ (yZ I hg hm boot_range (QE (zg (ha pos pA s U H _ I h) λus s1 ⟨vs,H1,I1,r1,q1⟩=>?_) (by rw [hs,hs2]) (by rw [hs2]; rfl)));obtain ⟨i,j,e,⟨q1,q2,q3,q4⟩,q⟩:=q1;subst e;cases r1 with
 | cons r rr=>
  cases rr with
  | cons r' rr=>
   cases rr;obtain ⟨t,rfl⟩:=r;obtain ⟨t',rfl⟩:=r';exact call_range_2 (zFk I1 q1 q2 q3 q4 q)
def zTF (wi:TI) (g:TG) (tb:TS):TS:=λD U H=>wi U H λJ H1=>∃Z:Nat->Nat->St->Hp->Prop,(∃m,Z 0 m U H1)/\∀i m U H,Z i m U H->
 (J.stop i H/\D.nx U H)\/(J.go i H/\∃N:St->Hp->Prop,(∀U' H',N U' H'->∃m',m'<m/\Z (i+1) m' U' H')/\∀x H',J.yld i H x H'->g x U H' λU2 H2=>tb {D with nx:=N,ct:=N,bk:=D.nx} U2 H2)
def zBN (fp:List Addr) (h:Heap):List (Addr×Obj):=fp.filterMap λb=>(h.get? b).map λo=>(b,o)
theorem JZ {o:Obj} (hb:b∈fp) (e:h.get? b=some o):(b,o)∈zBN fp h:=List.mem_filterMap.mpr ⟨b,hb,by rw [e]; rfl⟩
theorem zKb {p:Addr×Obj} (hp:p∈zBN fp h):p.1∈fp/\h.get? p.1=some p.2:=by
 obtain ⟨b,hb,e⟩:=List.mem_filterMap.mp hp;cases q:h.get? b with
 | none=>rw [q] at e; cases e
 | some o=>
  rw [q] at e;have e':(b,o)=p:=Option.some.inj e;subst e';exact ⟨hb,q⟩
theorem zN.pinned (I:zN X pA U H s) (hf:∀b∈fp,JN X pA H b) (ho:∀b∈fp,∃o,s.heap.get? b=some o/\∀v,o.data≠ .cell v):zN X (pA++zBN fp s.heap) U H s:=
 I.pins_of λp hp=>(List.mem_append.mp hp).elim (λz=>I.pin p (qS _ z)) λz=>by
  obtain ⟨hb,e⟩:=zKb z;obtain ⟨f0,f1,f2,_⟩:=hf p.1 hb;obtain ⟨o,e',d⟩:=ho p.1 hb;rw [e] at e'; cases e';exact ⟨e,f0,f1,f2,d⟩
theorem zN.unpinned {pl:List (Addr×Obj)} (I:zN X (pA++pl) U H s):zN X pA U H s:=I.pins_of λp hp=>I.pin p (qS _ (qX _ hp))
theorem Zq {wi:TI} {g:TG} (hp:PassesOwn (model X.prog X.w) X.A X.env X.xe) (hc:X.calm=true) (hi:PI X tg iter wi) (hg:PG X tg g) (hb:JK X body tb)
  (hs:∀x,foldedSetIterable iter X.env x=pure x:=by intro _; rfl):PS X (.For tg iter body [] pos) (zTF wi g tb):=by
 intro pA s U H D I h;refine wpAny_For (zg (hi pA s U H _ I h) λv s1 h1=>zg h1 λitv s2 h2=>?_) hs;obtain ⟨it,fp,tn,J,H2,e,I2,T,st2,f2,Z,⟨m0,w0⟩,turn⟩:=h2;subst e;have stat:∀{H':Hp},(∀b∈fp,H' b=none)->∀b∈fp,JN X pA H' b:=λhn b hb=>⟨hn b hb,(f2 b hb).2⟩;refine codeAny_forLoop_any (λn s'=>∃i U' H',zN X pA U' H' s'/\tn i s'.heap/\(∀b∈fp,H' b=none)/\Z i n U' H') ?_ m0 ⟨0,U,H2,I2,st2,λb hb=>(f2 b hb).1,w0⟩;rintro n s3 ⟨i,U3,H3,I3,st3,fr3,w3⟩;rcases turn i n U3 H3 w3 with ⟨stop,qn⟩ | ⟨go,N,hN,step⟩
 .refine xg hp (zg (T.done X rfl rfl rfl hc i pA s3 U3 H3 X.xe I3 (stat fr3) st3 stop) λr s4 ⟨hr,I4⟩=>?_)
  subst hr;exact vI ⟨U3,H3,I4,qn⟩
 .refine xg hp (zg (T.item X rfl rfl rfl hc i pA s3 U3 H3 X.xe I3 (stat fr3) st3 go) λr s4 ⟨u,hr,h4⟩=>?_)
  subst hr;refine xg hp (zg h4 λ_ s5 ⟨x,H5,I5,r5,y5,st5,fr5⟩=>?_);have I5':=I5.pinned (stat fr5) (T.obj _ _ st5);refine xg hp (zg (hg _ s5 U3 H5 x u _ I5' r5 (step x H5 y5)) λ_ s6 ⟨U6,H6,I6,q6⟩=>?_);refine xg hp (zg (hb _ s6 U6 H6 _ I6 q6) λf s7 q7=>?_);have again:∀{U7:St} {H7:Hp},zN X (pA++zBN fp s5.heap) U7 H7 s7->N U7 H7->∃m,m<n/\∃i U' H',zN X pA U' H' s7/\tn i s7.heap/\(∀b∈fp,H' b=none)/\Z i m U' H':=λ{U7 H7} I7 n7=>by
   obtain ⟨m',hm,w7⟩:=hN U7 H7 n7;refine ⟨m',hm,i+1,U7,H7,I7.unpinned,T.keep _ _ _ st5 λb hb o e=>(I7.pin (b,o) (qS _ (qS _ (JZ hb e)))).1,λb hb=>?_,w7⟩;obtain ⟨o,e,d⟩:=T.obj _ _ st5 b hb;exact (I7.pin (b,o) (qS _ (qS _ (JZ hb e)))).2.1
  cases f with
  | next=>obtain ⟨U7,H7,I7,n7⟩:=q7; exact again I7 n7
  | cont=>obtain ⟨U7,H7,I7,n7⟩:=q7; exact again I7 n7
  | brk=>obtain ⟨U7,H7,I7,q7⟩:=q7; exact ⟨U7,H7,I7.unpinned,q7⟩
  | ret v=>obtain ⟨x7,U7,H7,I7,r7,q7⟩:=q7; exact ⟨x7,U7,H7,I7.unpinned,r7,q7⟩
theorem yz {g:TG} (Pv:Nat->St->Hp->Prop) (h0:Pv 0 U H) (hl:∀i U H,i<=xs.length->Pv i U H->zK K H a xs)
  (hs:∀i x U H,xs[i]?=some x->Pv i U H->g x U H λU2 H2=>tb {D with nx:=Pv (i+1),ct:=Pv (i+1),bk:=D.nx} U2 H2) (hd:∀U H,Pv xs.length U H->D.nx U H):
  ∃Z:Nat->Nat->St->Hp->Prop,(∃m,Z 0 m U H)/\∀i m U H,Z i m U H->
   ((Itl K a).stop i H/\D.nx U H)\/((Itl K a).go i H/\∃N:St->Hp->Prop,(∀U' H',N U' H'->∃m',m'<m/\Z (i+1) m' U' H')/\∀x H',(Itl K a).yld i H x H'->g x U H' λU2 H2=>tb {D with nx:=N,ct:=N,bk:=D.nx} U2 H2):=by
 refine ⟨λi m U H=>m=xs.length - i/\i<=xs.length/\Pv i U H,⟨xs.length,by simp,QF _,h0⟩,?_⟩;rintro i m U H ⟨rfl,hi,p⟩;have q:=hl i U H hi p;by_cases pL:i<xs.length
 .refine .inr ⟨⟨xs,xs[i],q,by simp [pL]⟩,Pv (i+1),λU' H' p'=>⟨xs.length - (i+1),by lia,rfl,pL,p'⟩,λx H' y=>?_⟩
  obtain ⟨e,y⟩:=y;subst e;exact hs i x U _ (y xs q) p
 .have e:i=xs.length:=by lia
  subst e;exact .inl ⟨⟨xs,q,qG _⟩,hd U H p⟩
theorem yv {g:TG} (Pv:Nat->St->Hp->Prop) (h0:Pv 0 U H)
  (hs:∀i U H,i<n->Pv i U H->g (.int (lo+i)) U H λU2 H2=>tb {D with nx:=Pv (i+1),ct:=Pv (i+1),bk:=D.nx} U2 H2) (hd:∀U H,Pv n U H->D.nx U H):
  ∃Z:Nat->Nat->St->Hp->Prop,(∃m,Z 0 m U H)/\∀i m U H,Z i m U H->
   ((Itr lo n).stop i H/\D.nx U H)\/((Itr lo n).go i H/\∃N:St->Hp->Prop,(∀U' H',N U' H'->∃m',m'<m/\Z (i+1) m' U' H')/\∀x H',(Itr lo n).yld i H x H'->g x U H' λU2 H2=>tb {D with nx:=N,ct:=N,bk:=D.nx} U2 H2):=by
 refine ⟨λi m U H=>m=n - i/\i<=n/\Pv i U H,⟨n,by simp,QF _,h0⟩,?_⟩;rintro i m U H ⟨rfl,hi,p⟩;by_cases pL:i<n
 .refine .inr ⟨pL,Pv (i+1),λU' H' p'=>⟨n - (i+1),by lia,rfl,pL,p'⟩,λx H' y=>?_⟩
  obtain ⟨e,y⟩:=y;subst e y;exact hs i U _ pL p
 .have e:i=n:=by lia
  subst e;exact .inl ⟨qG _,hd U H p⟩
abbrev R2:=V->V->Hp->VK->Prop
variable {r':R2}
def Z1 (X:Cx) (f:Value->Value->Sem Value) (r:R2):Prop:=
 ∀(pA:List (Addr×Obj)) (s:Shared) (U:St) (H:Hp) (x y:V) (v u:Value) (Q:VK),zN X pA U H s->zp x v->zp y u->r x y H Q->
  wpAny (model X.prog X.w) X.A (f v u) (EP X pA U Q) X.xe s
def UnR (X:Cx) (f:Value->Sem Value) (r:V->Hp->VK->Prop):Prop:=
 ∀(pA:List (Addr×Obj)) (s:Shared) (U:St) (H:Hp) (x:V) (v:Value) (Q:VK),zN X pA U H s->zp x v->r x H Q->
  wpAny (model X.prog X.w) X.A (f v) (EP X pA U Q) X.xe s
def yh (X:Cx) (f:Value) (r:List V->Hp->VK->Prop):Prop:=
 ∀(pA:List (Addr×Obj)) (s:Shared) (U:St) (H:Hp) (xs:List V) (us:List Value) (Q:VK),zN X pA U H s->za xs us->r xs H Q->
  wpAny (model X.prog X.w) X.A (call f us) (EP X pA U Q) X.xe s
def zSx (X:Cx) (r:V->Hp->(Bool->Hp->Prop)->Prop):Prop:=
 ∀(pA:List (Addr×Obj)) (s:Shared) (U:St) (H:Hp) (x:V) (v:Value) (Q:Bool->Hp->Prop),zN X pA U H s->zp x v->r x H Q->
  wpAny (model X.prog X.w) X.A (truthy v) (TP X pA U Q) X.xe s
def tOp (r:R2) (ta tb:TE):TE:=λU H Q=>ta U H λx H1=>tb U H1 λy H2=>r x y H2 Q
def tUn (r:V->Hp->VK->Prop) (ta:TE):TE:=λU H Q=>ta U H λx H1=>r x H1 Q
def rI (C:Int->Int->Prop) (g:Int->Int->V):R2:=λx y H Q=>∃i j,x= .int i/\y= .int j/\C i j/\Q (g i j) H
inductive II0 (g:Int->Int->V) (x y:V) (H:Hp) (Q:VK):Prop
 | mk (i j:Int):x= .int i->y= .int j->Q (g i j) H->II0 g x y H Q
def rI0 (g:Int->Int->V):R2:=II0 g
def rU (g:Int->V):V->Hp->VK->Prop:=λx H Q=>∃i,x= .int i/\Q (g i) H
section
variable {a b:Expr} {tb tc:TE}
theorem zLX (ha:PE X a ta) (hb:PE X b tb) {R:V->V->Hp->Prop} (I:zN X pA U H s)
  (h:ta U H λx H1=>tb U H1 λy H2=>R x y H2)
  (hf:∀v u s2 x y H2,zN X pA U H2 s2->zp x v->zp y u->R x y H2->wpAny (model X.prog X.w) X.A (f v u) Q X.xe s2):
  wpAny (model X.prog X.w) X.A (eval a X.env) (λv s₁=>wpAny (model X.prog X.w) X.A (eval b X.env) (λu s₂=>wpAny (model X.prog X.w) X.A (f v u) Q X.xe s₂) X.xe s₁) X.xe s:=by
 refine zg (ha pA s U H _ I h) λv s1 ⟨x,H1,I1,r1,q1⟩=>?_;refine zg (hb pA s1 U H1 _ I1 q1) λu s2 ⟨y,H2,I2,r2,q2⟩=>?_;exact hf v u s2 x y H2 I2 r1 r2 q2
theorem zS {op:Operator} {r:R2} (ho:Z1 X (binaryOp op) r) (ha:PE X a ta) (hb:PE X b tb):PE X (.BinOp a op b pos) (tOp r ta tb):=by
 intro pA s U H Q I h;exact wpAny_BinOp (zLX ha hb I h λv u s2 x y H2 I2 rx ry q=>ho pA s2 U H2 x y v u Q I2 rx ry q)
theorem Y9 {op:UnaryOp} {r:V->Hp->VK->Prop} (ho:UnR X (unaryOp op) r) (ha:PE X a ta):PE X (.UnaryOp op a pos) (tUn r ta):=by
 intro pA s U H Q I h;exact UnaryOp_ (zg (ha pA s U H _ I h) λv s1 ⟨x,H1,I1,r1,q1⟩=>ho pA s1 U H1 x v Q I1 r1 q1)
theorem opI {C:Int->Int->Prop}
  (rule:∀(i j:Int) (t u:Tok) (s:Shared) (Q:Value->Shared->Prop) (E:Value->Shared->Prop),C i j->Q (.int (g i j) s.toks) {s with toks:=s.toks+1}->wpAny (model X.prog X.w) X.A (f (.int i t) (.int j u)) Q E s):
  Z1 X f (rI C λi j=> .int (g i j)):=by
 intro pA s U H x y v u Q I rx ry h;obtain ⟨i,j,rfl,rfl,hc,q⟩:=h;obtain ⟨t,rfl⟩:=rx;obtain ⟨t',rfl⟩:=ry;exact rule i j t t' s _ _ hc ⟨.int (g i j),H,I.tok _,⟨_,rfl⟩,q⟩
theorem zLG
  (rule:∀(i j:Int) (t u:Tok) (s:Shared) (Q:Value->Shared->Prop) (E:Value->Shared->Prop),Q (.int (g i j) s.toks) {s with toks:=s.toks+1}->wpAny (model X.prog X.w) X.A (f (.int i t) (.int j u)) Q E s):
  Z1 X f (rI0 λi j=> .int (g i j)):=by
 intro pA s U H x y v u Q I rx ry h;obtain ⟨i,j,rfl,rfl,q⟩:=h;obtain ⟨t,rfl⟩:=rx;obtain ⟨t',rfl⟩:=ry;exact rule i j t t' s _ _ ⟨.int (g i j),H,I.tok _,⟨_,rfl⟩,q⟩
theorem zIi {g:Int->Int->Bool}
  (rule:∀(i j:Int) (t u:Tok) (s:Shared) (Q:Value->Shared->Prop) (E:Value->Shared->Prop),Q (.bool (g i j)) s->wpAny (model X.prog X.w) X.A (f (.int i t) (.int j u)) Q E s):
  Z1 X f (rI0 λi j=> .bl (g i j)):=by
 intro pA s U H x y v u Q I rx ry h;obtain ⟨i,j,rfl,rfl,q⟩:=h;obtain ⟨t,rfl⟩:=rx;obtain ⟨t',rfl⟩:=ry;exact rule i j t t' s _ _ ⟨.bl (g i j),H,I,rfl,q⟩
def zSp (i j:Int):Prop:=0<j/\j<1073741824
def zQI (i j:Int):Prop:=0<=j/\j<=1000000/\i.natAbs<2^64
def zLs (i j:Int):Prop:=(-(2^64)<i/\i<2^64)\/(-(2^64)<j/\j<2^64)
theorem zLs.ok {i j:Int} (h:zLs i j):IntMulOk i j:=by
 rcases h with ⟨h1,h2⟩ | ⟨h1,h2⟩
 .exact .of_left (intBits_le_64 h1 h2)
 .exact .of_right (intBits_le_64 h1 h2)
theorem ZA:Z1 X (binaryOp .Add) (rI0 λi j=> .int (i+j)):=zLG λ_ _ _ _ _ _ _ q=>add_int q
theorem yc:Z1 X (binaryOp .Sub) (rI0 λi j=> .int (i - j)):=zLG λ_ _ _ _ _ _ _ q=>sub_int q
theorem YZ:Z1 X (binaryOp .Mult) (rI zLs λi j=> .int (i*j)):=opI λ_ _ _ _ _ _ _ hc q=>mul_int q hc.ok
theorem zAZ:Z1 X (binaryOp .FloorDiv) (rI zSp λi j=> .int (i / j)):=opI λi j _ _ _ _ _ hc q=>by
 have h1:(0:Int)<j:=hc.1;have h2:j<1073741824:=hc.2;exact floordiv_int (by lia) (by rw [Int.fdiv_eq_ediv_of_nonneg i (by lia)]; exact q) (.inl (PyProof.noPylong_small (by lia)))
theorem yq:Z1 X (binaryOp .Mod) (rI (λ_ j=>0<j) λi j=> .int (i % j)):=opI λi j _ _ _ _ _ hc q=>by
 have h1:(0:Int)<j:=hc;exact mod_int' (by lia) (by rw [Int.fmod_eq_emod_of_nonneg i (by lia)]; exact q)
theorem zPK:Z1 X (binaryOp .Pow) (rI zQI λi j=> .int (i^j.toNat)):=opI λ_ _ _ _ _ _ _ hc q=>pow_int_small hc.1 hc.2.1 hc.2.2 q
theorem jc:Z1 X (binaryOp .LShift) (rI zQI λi j=> .int (i*2^j.toNat)):=opI λ_ _ _ _ _ _ _ hc q=>lshift_int_small hc.1 hc.2.1 hc.2.2 q
theorem zPM:Z1 X (binaryOp .BitAnd) (rI0 λi j=> .int (Builtin.bitAnd i j)):=zLG λ_ _ _ _ _ _ _ q=>and_int q
theorem unI {f:Value->Sem Value} {g:Int->Int}
  (rule:∀(i:Int) (t:Tok) (s:Shared) (Q:Value->Shared->Prop) (E:Value->Shared->Prop),Q (.int (g i) s.toks) {s with toks:=s.toks+1}->wpAny (model X.prog X.w) X.A (f (.int i t)) Q E s):
  UnR X f (rU λi=> .int (g i)):=by
 intro pA s U H x v Q I rx h;obtain ⟨i,rfl,q⟩:=h;obtain ⟨t,rfl⟩:=rx;exact rule i t s _ _ ⟨.int (g i),H,I.tok _,⟨_,rfl⟩,q⟩
theorem Yc:UnR X (unaryOp .USub) (rU λi=> .int (-i)):=unI λ_ _ _ _ _ q=>neg_int q
end
def zPy:V->V->Bool
 | .non, .non=>true | .non, .int _=>true | .int _, .non=>true | .non, .bl _=>true | .bl _, .non=>true | .non, .str _=>true | .str _, .non=>true
 | .int _, .int _=>true | .bl _, .bl _=>true | .str _, .str _=>true | .byt _, .byt _=>true
 | .int _, .str _=>true | .str _, .int _=>true | .bl _, .str _=>true | .str _, .bl _=>true
 | _,_=>false
def rEq:R2:=λx y H Q=>zPy x y=true/\Q (.bl (decide (x=y))) H
def rNe:R2:=λx y H Q=>zPy x y=true/\Q (.bl (!decide (x=y))) H
theorem zHi {i j:Int}:decide (V.int i=V.int j)=(i==j):=by
 rw [qu];simp
theorem zJc {i j:Bool}:decide (V.bl i=V.bl j)=(i==j):=by
 rw [qu];simp
theorem zHO {i j:Str}:decide (V.str i=V.str j)=(i==j):=by
 rw [qu];simp
theorem zHH {i j:Array UInt8}:decide (V.byt i=V.byt j)=(i.toList==j.toList):=by
 rw [qu];cases i;cases j;simp
section
variable {a b:Expr} {tb tc:TE}
theorem ZS {Q:VK} {k k':Bool} (I:zN X pA U H s) (q:Q (.bl k) H) (e:k=k'):EP X pA U Q (.bool k') s:=by
 subst e;exact ⟨.bl k,H,I,rfl,q⟩
theorem YQ:Z1 X (compareOp .Eq) rEq:=by
 intro pA s U H x y v u Q I rx ry h;obtain ⟨hs,q⟩:=h;cases x with
 | non=>
  cases rx;cases y with
  | non=>cases ry; exact PySem.EqNone.eq_none_none (ZS I q (by simp))
  | bl j=>cases ry; exact PySem.EqNone.eq_none_bool (ZS I q (by simp))
  | int j=>obtain ⟨t',rfl⟩:=ry; exact PySem.EqNone.eq_none_int (ZS I q (by simp))
  | str j=>obtain ⟨t',rfl⟩:=ry; exact PySem.EqNone.eq_none_str (ZS I q (by simp))
  | _=>exact v6 (show false=true from hs) qR
 | bl i=>
  cases rx;cases y with
  | non=>cases ry; exact PySem.EqNone.eq_bool_none (ZS I q (by simp))
  | bl j=>cases ry; exact eq_bool (ZS I q zJc)
  | str j=>obtain ⟨t',rfl⟩:=ry; exact PySem.EqMixed.eq_bool_str (ZS I q (by simp))
  | _=>exact v6 (show false=true from hs) qR
 | int i=>
  obtain ⟨t,rfl⟩:=rx;cases y with
  | non=>cases ry; exact PySem.EqNone.eq_int_none (ZS I q (by simp))
  | int j=>obtain ⟨t',rfl⟩:=ry; exact eq_int (ZS I q zHi)
  | str j=>obtain ⟨t',rfl⟩:=ry; exact PySem.EqMixed.eq_int_str (ZS I q (by simp))
  | _=>exact v6 (show false=true from hs) qR
 | str i=>
  obtain ⟨t,rfl⟩:=rx;cases y with
  | non=>cases ry; exact PySem.EqNone.eq_str_none (ZS I q (by simp))
  | bl j=>cases ry; exact PySem.EqMixed.eq_str_bool (ZS I q (by simp))
  | int j=>obtain ⟨t',rfl⟩:=ry; exact PySem.EqMixed.eq_str_int (ZS I q (by simp))
  | str j=>obtain ⟨t',rfl⟩:=ry; exact eq_str (ZS I q zHO)
  | _=>exact v6 (show false=true from hs) qR
 | byt i=>
  obtain ⟨t,rfl⟩:=rx;cases y with
  | byt j=>obtain ⟨t',rfl⟩:=ry; exact W.eq_bytes (ZS I q zHH)
  | _=>exact v6 (show false=true from hs) qR
 | _=>cases y <;> exact v6 (show false=true from hs) qR
theorem Yl:Z1 X (compareOp .NotEq) rNe:=by
 intro pA s U H x y v u Q I rx ry h;obtain ⟨hs,q⟩:=h;cases x with
 | non=>
  cases rx;cases y with
  | non=>cases ry; exact PySem.EqNone.ne_none_none (ZS I q (by simp))
  | bl j=>cases ry; exact PySem.EqNone.ne_none_bool (ZS I q (by simp))
  | int j=>obtain ⟨t',rfl⟩:=ry; exact PySem.EqNone.ne_none_int (ZS I q (by simp))
  | str j=>obtain ⟨t',rfl⟩:=ry; exact PySem.EqNone.ne_none_str (ZS I q (by simp))
  | _=>exact v6 (show false=true from hs) qR
 | bl i=>
  cases rx;cases y with
  | non=>cases ry; exact PySem.EqNone.ne_bool_none (ZS I q (by simp))
  | bl j=>cases ry; exact ne_bool (ZS I q (Qe not zJc))
  | str j=>obtain ⟨t',rfl⟩:=ry; exact PySem.EqMixed.ne_bool_str (ZS I q (by simp))
  | _=>exact v6 (show false=true from hs) qR
 | int i=>
  obtain ⟨t,rfl⟩:=rx;cases y with
  | non=>cases ry; exact PySem.EqNone.ne_int_none (ZS I q (by simp))
  | int j=>obtain ⟨t',rfl⟩:=ry; exact ne_int (ZS I q (Qe not zHi))
  | str j=>obtain ⟨t',rfl⟩:=ry; exact PySem.EqMixed.ne_int_str (ZS I q (by simp))
  | _=>exact v6 (show false=true from hs) qR
 | str i=>
  obtain ⟨t,rfl⟩:=rx;cases y with
  | non=>cases ry; exact PySem.EqNone.ne_str_none (ZS I q (by simp))
  | bl j=>cases ry; exact PySem.EqMixed.ne_str_bool (ZS I q (by simp))
  | int j=>obtain ⟨t',rfl⟩:=ry; exact PySem.EqMixed.ne_str_int (ZS I q (by simp))
  | str j=>obtain ⟨t',rfl⟩:=ry; exact ne_str (ZS I q (Qe not zHO))
  | _=>exact v6 (show false=true from hs) qR
 | byt i=>
  obtain ⟨t,rfl⟩:=rx;cases y with
  | byt j=>obtain ⟨t',rfl⟩:=ry; exact W.ne_bytes (ZS I q (Qe not zHH))
  | _=>exact v6 (show false=true from hs) qR
 | _=>cases y <;> exact v6 (show false=true from hs) qR
theorem ji:Z1 X (compareOp .Lt) (rI0 λi j=> .bl (decide (i<j))):=zIi λ_ _ _ _ _ _ _ q=>lt_int q
theorem zDt:Z1 X (compareOp .LtE) (rI0 λi j=> .bl (decide (i<=j))):=zIi λ_ _ _ _ _ _ _ q=>le_int q
theorem zFI:Z1 X (compareOp .Gt) (rI0 λi j=> .bl (decide (j<i))):=zIi λ_ _ _ _ _ _ _ q=>gt_int q
theorem zCP:Z1 X (compareOp .GtE) (rI0 λi j=> .bl (decide (j<=i))):=zIi λ_ _ _ _ _ _ _ q=>ge_int q
theorem zQV:Z1 X (compareOp .Is) (λx y H Q=>y= .non/\Q (.bl (decide (x= .non))) H):=by
 intro pA s U H x y v u Q I rx ry h;obtain ⟨rfl,q⟩:=h;cases ry;refine is_none_gen (ZS I q ?_);cases x <;> first
  | (cases rx; rfl)
  | (obtain ⟨t,rfl⟩:=rx; rfl)
theorem zOv:Z1 X (compareOp .IsNot) (λx y H Q=>y= .non/\Q (.bl (!decide (x= .non))) H):=by
 intro pA s U H x y v u Q I rx ry h;obtain ⟨rfl,q⟩:=h;cases ry;refine isnot_none_gen (ZS I q ?_);cases x <;> first
  | (cases rx; rfl)
  | (obtain ⟨t,rfl⟩:=rx; rfl)
theorem Z1.or {r:R2} (h:Z1 X f r) (h':Z1 X f r'):Z1 X f (λx y H Q=>r x y H Q\/r' x y H Q):=by
 intro pA s U H x y v u Q I rx ry q;rcases q with q | q
 .exact h pA s U H x y v u Q I rx ry q
 .exact h' pA s U H x y v u Q I rx ry q
theorem zV (b:Expr) (h:op≠ .In:=by decide) (h2:op≠ .NotIn:=by decide):behindInMarks op b=false:=by
 have e1:(op==CmpOp.In)=false:=by cases op <;> first | rfl | exact v6 rfl h
 have e2:(op==CmpOp.NotIn)=false:=by cases op <;> first | rfl | exact v6 rfl h2
 cases b <;> simp [behindInMarks,e1,e2]
theorem ZT {r:R2} (ho:Z1 X (compareOp op) r) (ha:PE X a ta) (hb:PE X b tb) (hm:behindInMarks op b=false):PE X (.Compare a [op] [b] pos) (tOp r ta tb):=by
 intro pA s U H Q I h;exact wpAny_Compare1 (zLX ha hb I h λv u s2 x y H2 I2 rx ry q=>ho pA s2 U H2 x y v u Q I2 rx ry q) hm
def zNh (t:TE):TT:=λU H Q=>t U H (IBl Q)
theorem zT {r:R2} (ho:Z1 X (compareOp op) r) (ha:PE X a ta) (hb:PE X b tb) (hm:behindInMarks op b=false):PT X (.Compare a [op] [b] pos) (zNh (tOp r ta tb)):=by
 intro pA s U H Q I h;refine wpAny_isTrue_Compare1 (zg (ha pA s U H _ I h) λv s1 ⟨x,H1,I1,r1,q1⟩=>zg (hb pA s1 U H1 _ I1 q1) λu s2 ⟨y,H2,I2,r2,q2⟩=>
  zg (ho pA s2 U H2 x y v u _ I2 r1 r2 q2) λc s3 ⟨z,H3,I3,r3,k,e,q3⟩=>?_) hm
 subst e;cases r3;exact QW ⟨H3,I3,q3⟩
def zPL (r r':R2) (ta tb tc:TE):TE:=λU H Q=>ta U H λx H1=>tb U H1 λy H2=>r x y H2 λz H3=>∃k,z= .bl k/\
 (if k=true then tc U H3 λw' H4=>r' y w' H4 Q else Q (.bl false) H3)
theorem zFj {op':CmpOp} {r:R2} (ho:Z1 X (compareOp op) r) (ho':Z1 X (compareOp op') r') (ha:PE X a ta) (hb:PE X b tb) (hc:PE X c tc)
  (hm:lastMarks [op,op'] [b,c]=false:=by with_unfolding_all rfl):PT X (.Compare a [op,op'] [b,c] pos) (zNh (zPL r r' ta tb tc)):=by
 intro pA s U H Q I h;refine isTrue_chain (zg (ha pA s U H _ I h) λv s1 ⟨x,H1,I1,r1,q1⟩=>test_link (zg (hb pA s1 U H1 _ I1 q1) λu s2 ⟨y,H2,I2,r2,q2⟩=>
  zg (ho pA s2 U H2 x y v u _ I2 r1 r2 q2) λd s3 ⟨z,H3,I3,r3,k,e,q3⟩=>?_)) hm
 subst e;cases r3;refine QW ?_;cases k with
 | false=>
  obtain ⟨k',e',q'⟩:=q3;cases e';exact ite_ff ⟨H3,I3,q'⟩
 | true=>
  refine ite_tt (test_last (zg (hc pA s3 U H3 _ I3 q3) λw' s4 ⟨z',H4,I4,r4,q4⟩=>zg (ho' pA s4 U H4 y z' u w' _ I4 r2 r4 q4) λd' s5 ⟨z2,H5,I5,r5,k2,e2,q5⟩=>?_));subst e2;cases r5;exact QW ⟨H5,I5,q5⟩
def zLk (K:W.Frag) (x:V) (H:Hp) (k:Bool):Prop:=
 match x with
 | .non=>k=false
 | .bl b=>k=b
 | .int i=>k=(i !=0)
 | .str y=>y.length<=sizeLine/\k=((y.length:Int) !=0)
 | .byt y=>y.size<=sizeLine/\k=((y.size:Int) !=0)
 | .ref p=>(∃xs,zK K H p xs/\k= !xs.isEmpty)\/(∃xs,ZD K H p xs/\k= !xs.isEmpty)\/∃pB,H p=some (.dK pB)/\k= !pB.isEmpty
 | _=>False
theorem zJA {vs:List (κ×Value)} (r:KV pB vs):(!vs.isEmpty)= !pB.isEmpty:=by
 cases r <;> rfl
theorem zDs (r:za xs pD):(!pD.toArray.isEmpty)= !xs.isEmpty:=by
 cases r <;> simp
theorem zDU:(sizeLine:Nat)<2^63:=by rw [Ql]; decide
theorem zJu:zSx X (λx H Q=>∃k,zLk X.K x H k/\Q k H):=by
 intro pA s U H x v Q I rx h;obtain ⟨k,e,q⟩:=h;have hl:=zDU;have hs:sizeLine=16777216:=Ql;cases x with
 | non=>
  cases rx;have e':k=false:=e;subst e';exact truthy_none ⟨H,I,q⟩
 | bl b=>
  cases rx;have e':k=b:=e;subst e';exact QW ⟨H,I,q⟩
 | int i=>
  obtain ⟨t,rfl⟩:=rx;have e':k=(i !=0):=e;subst e';exact PySem.P.truthy_int ⟨H,I,q⟩
 | str y=>
  obtain ⟨t,rfl⟩:=rx;obtain ⟨hy,e'⟩:y.length<=sizeLine/\k=((y.length:Int) !=0):=e;subst e';exact PySem.P.truthy_str (by lia) ⟨H,I.tok _,q⟩
 | byt y=>
  obtain ⟨t,rfl⟩:=rx;obtain ⟨hy,e'⟩:y.size<=sizeLine/\k=((y.size:Int) !=0):=e;subst e';exact W.truthy_bytes (by lia) ⟨H,I.tok _,q⟩
 | ref p=>
  cases rx;have e':(∃xs,zK X.K H p xs/\k= !xs.isEmpty)\/(∃xs,ZD X.K H p xs/\k= !xs.isEmpty)\/∃pB,H p=some (.dK pB)/\k= !pB.isEmpty:=e;rcases e' with ⟨xs,hx,e'⟩ | ⟨xs,hx,e'⟩ | ⟨pB,hx,e'⟩
  .subst e'
   obtain ⟨pD,r,pl,hz⟩:=I.list hx;have pF:=r.length;exact wpAny_truthy_list pl.isList (by simp only [qj]; lia) ⟨H,I.tok _,by rw [zDs r]; exact q⟩
  .subst e'
   obtain ⟨pD,r,pl,hz⟩:=I.tuple hx;have pF:=r.length;exact truthy_tuple pl (by simp only [qj]; lia) ⟨H,I.tok _,by rw [zDs r]; exact q⟩
  .subst e'
   obtain ⟨hz,hS,vs,r,m⟩:pB.length<=sizeLine/\(p==sysModules)=false/\∃vs,KV pB vs/\s.heap.DictOf (Zu X.prog X.w) p vs:=I.hok p _ hx;have pF:pB.length=vs.length:=Paired.length r;exact wpAny_truthy_dict hS m (by lia) ⟨H,I.tok _,by rw [zJA r]; exact q⟩
 | _=>exact (show False from e).elim
theorem zGV (ha:PE X a ta) (he:∀whole,isTrue a X.env whole=(do let v <-whole; standAt a.pos; holding [v] (truthy v))):
  PT X a (λU H Q=>ta U H λx H'=>∃k,zLk X.K x H' k/\Q k H'):=by
 intro pA s U H Q I h;exact isTrue_plain (zg (ha pA s U H _ I h) λv s1 ⟨x,H1,I1,r1,q1⟩=>zJu pA s1 U H1 x v Q I1 r1 q1) (he _)
theorem zAu {x:V} (r:za [x] us):∃u,us=[u]/\zp x u:=by
 cases r with
 | cons r1 r2=>cases r2; exact ⟨_,rfl,r1⟩
theorem zNi {x:V} (r:za [x,y] us):∃u w',us=[u,w']/\zp x u/\zp y w':=by
 cases r with
 | cons r1 r2=>
  cases r2 with
  | cons r3 r4=>cases r4; exact ⟨_,_,rfl,r1,r3⟩
theorem zLu:yh X (.builtin "abs") (λxs H Q=>∃i,xs=[.int i]/\Q (.int (if i<0 then -i else i)) H):=by
 intro pA s U H xs us Q I r h;obtain ⟨i,rfl,q⟩:=h;obtain ⟨u,rfl,t,rfl⟩:=zAu r;exact call_abs_int λu tk=>⟨.int (if i<0 then -i else i),H,I.tok _,⟨_,rfl⟩,q⟩
theorem zEx (hc:X.calm=true):yh X (.builtin "max") (λxs H Q=>∃i j,xs=[.int i, .int j]/\Q (.int (if j > i then j else i)) H):=by
 intro pA s U H xs us Q I r h;obtain ⟨i,j,rfl,q⟩:=h;obtain ⟨u,w',rfl,⟨t,rfl⟩,⟨t',rfl⟩⟩:=zNi r;refine max_two_ints (I.ok.hd hc) λh' tk k=>⟨_,H,I.kept k,?_,q⟩;by_cases hj:j > i
 .rw [qO hj,qO hj]; exact ⟨_,rfl⟩
 .rw [qP hj,qP hj]; exact ⟨_,rfl⟩
theorem zEr (hc:X.calm=true):yh X (.builtin "min") (λxs H Q=>∃i j,xs=[.int i, .int j]/\Q (.int (if j<i then j else i)) H):=by
 intro pA s U H xs us Q I r h;obtain ⟨i,j,rfl,q⟩:=h;obtain ⟨u,w',rfl,⟨t,rfl⟩,⟨t',rfl⟩⟩:=zNi r;refine min_two_ints (I.ok.hd hc) λh' tk k=>⟨_,H,I.kept k,?_,q⟩;by_cases hj:j<i
 .rw [qO hj,qO hj]; exact ⟨_,rfl⟩
 .rw [qP hj,qP hj]; exact ⟨_,rfl⟩
theorem zAI:yh X (.type "int") (λxs H Q=>(∃i,xs=[.int i]/\Q (.int i) H)\/∃k,xs=[.bl k]/\Q (.int (if k then 1 else 0)) H):=by
 intro pA s U H xs us Q I r h;rcases h with ⟨i,rfl,q⟩ | ⟨k,rfl,q⟩
 .obtain ⟨u,rfl,t,rfl⟩:=zAu r
  exact call_int_int ⟨.int i,H,I,⟨_,rfl⟩,q⟩
 .obtain ⟨u,rfl,r1⟩:=zAu r
  cases r1;exact call_int_bool ⟨.int (if k then 1 else 0),H,I.tok _,⟨_,rfl⟩,q⟩
end
structure zCi (h:Heap) (x dx C:Addr) (mA:Str->Option Value):Prop where
 obj:h.get? x=some (W.instObj C dx)
 ns:h.Ns1 dx mA
 ne:dx≠x
theorem zJz (n:h.Ns1 dx mA):∃od,h.get? dx=some od/\∀name,W.lookIn name od=some (mA name):=by
 obtain ⟨o,es,ep,ho,hd,hk,_,hm⟩:=n;refine ⟨o,ho,λname=>?_⟩;have e:=hm name;unfold nsFind findBy at e;rw [<-Array.find?_toList] at e;unfold W.lookIn;rw [hd];dsimp only;split
 .rename_i y q
  rw [q] at e;exact Qe some e
 .rename_i q
  rw [q] at e;have a:es.toList.any (·.refKey)=false:=by
   rw [List.any_eq_false];intro y hy;obtain ⟨z,t,hkey⟩:=hk y (Array.mem_toList_iff.mp hy);simp [DictEntry.refKey,hkey]
  have a':¬es.toList.any (·.refKey)=true:=by rw [a]; exact qR
  rw [qP a'];exact Qe some e
theorem zCi.look {x:Addr} (I:zCi h x dx C mA):∃od,W.InstAt h x (W.instObj C dx) C (some od)/\∀name,W.lookIn name od=some (mA name):=
 let ⟨od,ho,hl⟩:=zJz I.ns
 ⟨od,⟨I.obj,rfl,rfl,ho⟩,hl⟩
section
variable {x f:Addr} {v:Value}
theorem zOn (X:K.In s.heap) (I:zCi s.heap x dx C mA) (hg:W.plainGet K C name=true) (hh:W.hasDictIn K C=true)
  (ha:W.findIn K (.ref C) name=some none) (hv:mA name=some v) (hv':W.handedIn v=true) (h:Q v {s with toks:=s.toks+1}):
  wpAny (model prog w) A (getAttr (.ref x) name expr) Q E s:=by
 obtain ⟨od,J,hl⟩:=I.look;exact W.get_value X J (vX hg).1 (W.findObj_own hh ha rfl (by rw [hl,hv])) hv' h
theorem zLP {Q:Value×List Value->Shared->Prop} (X:K.In s.heap) (I:zCi s.heap x dx C mA) (hg:W.plainGet K C name=true)
  (hf:W.findIn K (.ref C) name=some (some (.ref f))) (ht:W.isFn K (.ref f)=true) (hv:mA name=none) (h:Q (.ref f,[.ref x]) s):
  wpAny (model prog w) A (getMethod (.ref x) name pl) Q E s:=by
 obtain ⟨od,J,hl⟩:=I.look;exact W.method_fn X J (vX hg).1 (vX hg).2 hf (beq_iff_eq.mp ht) (by show (W.lookIn name od).map (·.isSome)=some false; rw [hl,hv]; rfl) h
theorem zOU {Q:Unit->Shared->Prop} (X:K.In s.heap) (I:zCi s.heap x dx C mA)
  (hs:W.findIn K (.ref C) "__setattr__"=some (some (.builtin "object.__setattr__"))) (hp:W.plainOver K C=true) (ht:W.takerIn K C name=some none) (hh:W.hasDictIn K C=true)
  (hw:PySem.Within mA ns) (hsz:ns.length<=sizeLine)
  (h:∀h',zCi h' x dx C (λy=>if y=name then some v else mA y)->Heap.SameBut dx s.heap h'->Q () {s with heap:=h',toks:=s.toks+2}):
  wpAny (model prog w) A (setAttr (.ref x) name v) Q E s:=by
 obtain ⟨od,J,hl⟩:=I.look;refine W.set_plain X J hs (W.osa_open (s:={s with toks:=s.toks+1}) (r:=none) X J hp ht λb=>?_);obtain ⟨cd,hc,hd'⟩:=W.any_some hh;have hx:s.heap.get? x=some ⟨.ref C,some dx, .plain,#[]⟩:=I.obj;refine qD (qI (qD (qD (wpAny_loadPart hx (qD (W.Looks.here (s:={s with toks:=s.toks+1}) (W.looks_clsIn X hc) ?_))))));rw [hd'];refine qI (a:=some dx) (qD (qI (qD ?_)));refine wpAny_nsSet1 (s:={s with toks:=s.toks+1}) I.ns λh' hn2 hs2=>?_;obtain ⟨oD,esD,epD,hoD,hdD,hcD⟩:=hn2.count (PySem.Within.cons name v hw);refine qD (wpAny_lookBehind hoD (by rw [hdD]; exact pastItsLine_dict (qQ hcD (by rw [qT]; lia))) ?_);exact qI (h _ ⟨(hs2.2 _ (Ne.symm I.ne)).trans I.obj,hn2,I.ne⟩ hs2)
theorem zNA {vs:List Value} (X:K.In s.heap) (hm:W.makesIn K C=true)
  (hi:W.findIn K (.ref C) "__init__"=some (some (.ref f))) (hf:W.typeIn K (.ref f)=some (.type "function"))
  (h:codeAny (model prog w) (A.under (.builtin "type.__call__" ⟨.ref C::vs,kw⟩)) (.call (.ref f) ⟨.ref (s.heap.objs.size+1)::vs,kw⟩) (W.InitBack (s.heap.objs.size+1) R)
   {s with heap:=(s.heap.push W.emptyDict).push (W.instObj C s.heap.objs.size)}):
  codeAny (model prog w) A (.call (.ref C) ⟨vs,kw⟩) R s:=by
 obtain ⟨hh,g,d,t,os⟩:=s;exact W.make_core (W.makes_of X hm) (W.looks_findIn X hi) (λself=>W.bind_fn X self hf) (.inl rfl) h
end
def yl (f:Str) (v:V):List (Str×V)->List (Str×V)
 | []=>[(f,v)]
 | (g,x)::r=>if g=f then (g,v)::r else (g,x)::yl f v r
theorem zCV (f g:Str) (v:V):∀fs:List (Str×V),(yl f v fs).lookup g=if g=f then some v else fs.lookup g
 | []=>by
  show List.lookup g [(f,v)]=_;by_cases h:g=f
  .have hb:(g==f)=true:=beq_iff_eq.mpr h
   simp only [List.lookup,hb,qO h]
  .have hb:(g==f)=false:=beq_eq_false_iff_ne.mpr h
   simp only [List.lookup,hb,qP h]
 | (k,x)::r=>by
  have ih:=zCV f g v r;rw [show yl f v ((k,x)::r)=(if k=f then (k,v)::r else (k,x)::yl f v r) from rfl];by_cases hk:k=f
  .rw [qO hk]
   by_cases h:g=k
   .have hb:(g==k)=true:=beq_iff_eq.mpr h
    simp only [List.lookup,hb,qO (h.trans hk)]
   .have hb:(g==k)=false:=beq_eq_false_iff_ne.mpr h
    simp only [List.lookup,hb,qP (λe:g=f=>h (e.trans hk.symm))]
  .rw [qP hk]
   by_cases h:g=k
   .have hb:(g==k)=true:=beq_iff_eq.mpr h
    simp only [List.lookup,hb,qP (λe:g=f=>hk (h.symm.trans e))]
   .have hb:(g==k)=false:=beq_eq_false_iff_ne.mpr h
    simp only [List.lookup,hb];exact ih
theorem zBg (f:Str) (v:V):∀fs:List (Str×V),f∈(yl f v fs).map (·.1)/\∀g,g∈fs.map (·.1)->g∈(yl f v fs).map (·.1)
 | []=>⟨by simp [yl],λg h=>by simp at h⟩
 | (k,x)::r=>by
  obtain ⟨i1,i2⟩:=zBg f v r;rw [show yl f v ((k,x)::r)=(if k=f then (k,v)::r else (k,x)::yl f v r) from rfl];by_cases hk:k=f
  .rw [qO hk]
   subst hk;exact ⟨by simp,λg h=>by simpa using h⟩
  .rw [qP hk]
   refine ⟨?_,λg h=>?_⟩
   .rw [qe]
    exact qF _ i1
   .rw [qe] at h ⊢
    rcases List.mem_cons.mp h with e | e
    .exact List.mem_cons.mpr (.inl e)
    .exact qF _ (i2 g e)
theorem zCU (f:Str) (v:V):∀fs:List (Str×V),(yl f v fs).length<=fs.length+1
 | []=>by simp [yl]
 | (k,x)::r=>by
  have ih:=zCU f v r;rw [show yl f v ((k,x)::r)=(if k=f then (k,v)::r else (k,x)::yl f v r) from rfl];by_cases hk:k=f
  .rw [qO hk,qT,qT]; lia
  .rw [qP hk,qT,qT]; lia
theorem Y1.some_of {o:Option Value} (r:Y1 (some v) o):∃u,o=some u/\zp v u:=by
 cases o with
 | none=>exact (show False from r).elim
 | some u=>exact ⟨u,rfl,r⟩
theorem Y1.none_of {o:Option Value} (r:Y1 none o):o=none:=by
 cases o with
 | none=>rfl
 | some u=>exact (show False from r).elim
theorem zKa (r:zp v u):W.handedIn u=true:=by
 cases v with
 | non=>cases (show u=Value.none from r); rfl
 | bl b=>cases (show u=Value.bool b from r); rfl
 | int i=>obtain ⟨t,e⟩:=(show ∃t,u=Value.int i t from r); cases e; rfl
 | str x=>obtain ⟨t,e⟩:=(show ∃t,u=Value.str x t from r); cases e; rfl
 | byt b=>obtain ⟨t,e⟩:=(show ∃t,u=Value.bytes b t from r); cases e; rfl
 | flt b=>obtain ⟨t,e⟩:=(show ∃t,u=Value.float b t from r); cases e; rfl
 | ref a=>cases (show u=Value.ref a from r); rfl
 | ty n=>cases (show u=Value.type n from r); rfl
section
variable {fs:List (Str×V)}
theorem zBy (hok:yk P w H h) (e:H a=some (.ins C dx fs)):∃mA,zCi h a dx C mA/\(∀f,Y1 (fs.lookup f) (mA f))/\PySem.Within mA (fs.map (·.1))/\fs.length<=1000/\H dx=some (.own a):=by
 obtain ⟨d,z,ne,ob,mA,n,r,q⟩:=(show ZH P w H h a (.ins C dx fs) from hok a _ e);exact ⟨mA,⟨ob,n,ne⟩,r,q,z,d⟩
end
structure Cls (K:W.Frag) (C:Addr):Prop where
 pg:W.plainGet K C Str.empty=true
 hd:W.hasDictIn K C=true
 po:W.plainOver K C=true
 sa:W.findIn K (.ref C) "__setattr__"=some (some (.builtin "object.__setattr__"))
theorem Cls.get (c:Cls K C) (f:Str):W.plainGet K C f=true:=c.pg
def ZM (K:W.Frag) (C:Addr) (f:Str):Prop:=W.findIn K (.ref C) f=some none
theorem ZM.taker {f:Str} (n:ZM K C f):W.takerIn K C f=some none:=by
 unfold W.takerIn;rw [show W.findIn K (.ref C) f=some none from n];rfl
structure ZC (K:W.Frag) (C:Addr) (m:Str) (f:Addr):Prop where
 at_:W.findIn K (.ref C) m=some (some (.ref f))
 fn:W.isFn K (.ref f)=true
 kp:W.keepIn K (.ref f)=true
section
variable {fs:List (Str×V)} {f:Str}
theorem zIC {b:Bool} (I:zN X pA U H s) (e:H a=some (.ins C dx fs)) (c:Cls X.K C) (n:ZM X.K C f) (l:fs.lookup f=some v)
  (h:∀u s',zN X pA U H s'->zp v u->Q u s'):wpAny (model X.prog X.w) A (getAttr (.ref a) f b) Q E s:=by
 obtain ⟨mA,O,r,_,_,_⟩:=zBy I.hok e;obtain ⟨u,hu,ru⟩:=Y1.some_of (v:=v) (o:=mA f) (by rw [<-l]; exact r f);exact zOn I.kIn O (c.get f) c.hd n hu (zKa ru) (h u _ (I.tok _) ru)
theorem zDT {g:Addr} {Q:Value×List Value->Shared->Prop} (I:zN X pA U H s) (e:H a=some (.ins C dx fs)) (c:Cls X.K C) (k:ZC X.K C m g) (l:fs.lookup m=none)
  (h:Q (.ref g,[.ref a]) s):wpAny (model X.prog X.w) A (getMethod (.ref a) m pl) Q E s:=by
 obtain ⟨mA,O,r,_,_,_⟩:=zBy I.hok e;have hn:mA m=none:=Y1.none_of (by rw [<-l]; exact r m);exact zLP I.kIn O (c.get m) k.at_ k.fn hn h
theorem zHp {Q:Unit->Shared->Prop} (I:zN X pA U H s) (e:H a=some (.ins C dx fs)) (c:Cls X.K C) (n:ZM X.K C f) (hl:fs.length<1000) (ry:zp y u)
  (h:∀s',zN X pA U (zH H a (.ins C dx (yl f y fs))) s'->Q () s'):wpAny (model X.prog X.w) A (setAttr (.ref a) f u) Q E s:=by
 obtain ⟨mA,O,r,wi,_,ho⟩:=zBy I.hok e;have hz:(fs.map (·.1)).length<=sizeLine:=by rw [qA,Ql]; lia
 refine zOU I.kIn O c.sa c.po n.taker c.hd wi hz λh' O' sb=>h _ ?_;have hd:∃o,h'.get? dx=some o:=let ⟨o,_,_,e',_⟩:=O'.ns; ⟨o,e'⟩;refine I.write (x:=a) (e:=dx) (by rw [e]; exact True.intro) (.inr ho) (λb q hb z=>(sb.2 b hb).trans z) hd ?_;refine ⟨by rw [zI O.ne]; exact ho,?_,O.ne,O'.obj,_,O'.ns,λg=>?_,λg hg=>?_⟩
 .have:=zCU f y fs; lia
 .show Y1 ((yl f y fs).lookup g) (if g=f then some u else mA g)
  rw [zCV];by_cases q:g=f
  .rw [qO q,qO q]; exact ry
  .rw [qP q,qP q]; exact r g
 .by_cases q:g=f
  .rw [q]; exact (zBg f y fs).1
  .refine (zBg f y fs).2 g (wi g λz=>hg ?_)
   show (if g=f then some u else mA g)=none;rw [qP q]; exact z
theorem zN.made (I:zN X pA U H s):zN X pA U (zH (zH H s.heap.objs.size (.own (s.heap.objs.size+1))) (s.heap.objs.size+1) (.ins C s.heap.objs.size []))
  {s with heap:=(s.heap.push W.emptyDict).push (W.instObj C s.heap.objs.size)}:=by
 have e1:(s.heap.push W.emptyDict).get? s.heap.objs.size=some W.emptyDict:=qW s.heap rfl;have e2:((s.heap.push W.emptyDict).push (W.instObj C s.heap.objs.size)).get? (s.heap.objs.size+1)=some (W.instObj C s.heap.objs.size):=by
  have:=qW (s.heap.push W.emptyDict) (o:=W.instObj C s.heap.objs.size) rfl
  rwa [Qi] at this
 have e3:(s.heap.push W.emptyDict).Ns s.heap.objs.size (λ_=>none):=⟨W.emptyDict,#[],_,e1,rfl,(λe he=>v6 he (by simp)),λ_=>rfl⟩;have I1:=I.laid (a:=s.heap.objs.size) (o:= .own (s.heap.objs.size+1)) (h':=s.heap.push W.emptyDict) (t':=s.toks) (λb u q=>qH _ q) (qG _) ⟨_,e1⟩;refine I1.laid (a:=s.heap.objs.size+1) (o:= .ins C s.heap.objs.size []) (t':=s.toks) (λb u q=>qH _ q) (Nat.le_of_eq (Qi _ _)) ?_;have ne:s.heap.objs.size≠s.heap.objs.size+1:=qb (Q0 _);refine ⟨by rw [zI ne,zC],QF _,ne,e2,λ_=>none,(Heap.Ns1.of_empty e3).at λo q=>qH _ q,λ_=>True.intro,λy hy=>v6 rfl hy⟩
theorem zOt {env:Env} {f:Str} (hb:attributeBase e f env (eval e env)=eval e env)
  (h:wpAny (model prog w) A (eval e env) (λo s₁=>wpAny (model prog w) A (getAttr o f true) Q E s₁) E s):wpAny (model prog w) A (eval (.Attribute e f pos) env) Q E s:=
 Attribute_any_ h (by rw [arm_eval_Attribute,hb])
end
inductive zPu (K:W.Frag) (f:Str) (Q:VK) (x:V) (H:Hp):Prop
 | mk (a C dx:Addr) (fs:List (Str×V)) (v:V):x= .ref a->H a=some (.ins C dx fs)->Cls K C->ZM K C f->fs.lookup f=some v->Q v H->zPu K f Q x H
def zSu (K:W.Frag) (ta:TE) (f:Str):TE:=λU H Q=>ta U H (zPu K f Q)
def zSr (K:W.Frag) (ta tv:TE) (f:Str):TS:=λD U H=>tv U H λy H1=>ta U H1 λx H2=>∃a C dx fs,x= .ref a/\H2 a=some (.ins C dx fs)/\Cls K C/\ZM K C f/\fs.length<1000/\
 D.nx U (zH H2 a (.ins C dx (yl f y fs)))
section
variable {o value:Expr} {f:Str} {tpos:Pos} {tv:TE}
theorem zk (he:PE X e ta) (hb:attributeBase e f X.env (eval e X.env)=eval e X.env):PE X (.Attribute e f pos) (zSu X.K ta f):=by
 intro pA s U H Q I h;refine zOt hb (zg (he pA s U H _ I h) λu s1 ⟨x,H1,I1,rx,a,C,dx,fs,v,ex,ea,c,n,l,q⟩=>?_);subst ex;obtain rfl:u=Value.ref a:=rx;exact zIC I1 ea c n l λu' s2 I2 ru=>⟨v,H1,I2,ru,q⟩
theorem Ya (ha:PE X o ta) (hv:PE X value tv) (hs:swapsWith value (some (.Attribute o f pos')) pos.line X.env=pure false):PS X (.Assign [.Attribute o f pos'] value pos) (zSr X.K ta tv f):=by
 intro pA s U H D I h;refine plainObj_wpAny_Assign_Attribute (zg (hv pA s U H _ I h) λu s1 ⟨y,H1,I1,ry,q⟩=>zg (ha pA s1 U H1 _ I1 q) λov s2 ⟨x,H2,I2,rx,a,C,dx,fs,ex,ea,c,n,l,q2⟩=>?_) hs;subst ex;obtain rfl:ov=Value.ref a:=rx;exact zHp I2 ea c n l ry λs3 I3=>⟨U,_,I3,q2⟩
end
section
variable {c:Value} {b:Bool}
inductive ju (K:W.Frag) (H:Hp):V->Value->Prop where
 | non:ju K H .non (.type "NoneType")
 | bl (x:Bool):ju K H (.bl x) (.type "bool")
 | int (i:Int):ju K H (.int i) (.type "int")
 | str (x:Str):ju K H (.str x) (.type "str")
 | flt (x:UInt64):ju K H (.flt x) (.type "float")
 | lst {a:Addr} {xs:List V} (e:H a=some (.lst xs)):ju K H (.ref a) (.type "list")
 | frz {a:Addr} {o:Obj} {xs:List V} (e:H a=some (.frz o (.lst xs))):ju K H (.ref a) (.type "list")
 | tup {a:Addr} {xs:List V} (e:H a=some (.tup xs)):ju K H (.ref a) (.type "tuple")
 | dK {a:Addr} {pB:List (zZ×V)} (e:H a=some (.dK pB)):ju K H (.ref a) (.type "dict")
 | dT {a:Addr} {pB:List (List zZ×V)} (e:H a=some (.dT pB)):ju K H (.ref a) (.type "dict")
 | ins {a C dx:Addr} {fs:List (Str×V)} (e:H a=some (.ins C dx fs)) (cl:Cls K C) (ha:W.findIn K (.ref C) "__class__"=some (some (.builtin "object.__class__")))
   (hn:W.specialIn K (.builtin "object.__class__") "__get__"=some (some (.builtin "getset_descriptor.__get__"))) (htk:W.takesIn K (.builtin "object.__class__")=some true)
   (hm:W.mroIn K C (.type "object")=some true):ju K H (.ref a) (.ref C)
theorem zJt {x:V} {t:Value} (I:zN X pA U H s) (rx:zp x u) (ty:ju X.K H x t) (e:W.kitOne X.K t c=some b) (h:∀tk,Q (.bool b) {s with toks:=tk}):
  wpAny (model X.prog X.w) A (call (.builtin "isinstance") [u,c]) Q E s:=by
 cases ty with
 | non=>cases (show u=Value.none from rx); exact Qm W.kitx_none I.kIn True.intro e (λz=>nomatch z) h
 | bl y=>cases (show u=Value.bool y from rx); exact Qm W.kitx_bool I.kIn True.intro e (λz=>nomatch z) h
 | int i=>obtain ⟨t,q⟩:=(show ∃t,u=Value.int i t from rx); cases q; exact Qm W.kitx_int I.kIn True.intro e (λz=>nomatch z) h
 | str y=>obtain ⟨t,q⟩:=(show ∃t,u=Value.str y t from rx); cases q; exact Qm W.kitx_str I.kIn True.intro e (λz=>nomatch z) h
 | flt y=>obtain ⟨t,q⟩:=(show ∃t,u=Value.float y t from rx); cases q; exact Qm W.kitx_float I.kIn True.intro e (λz=>nomatch z) h
 | @lst a xs ea=>
  cases (show u=Value.ref a from rx);obtain ⟨_,_,n,_,h1⟩:=(show ZH X.prog X.w H s.heap a (.lst xs) from I.hok a _ ea);exact Qm W.kitx_list I.kIn ⟨_,h1,rfl⟩ e (λz=>nomatch z) h
 | @frz a ob xs ea=>
  cases (show u=Value.ref a from rx);obtain ⟨_,_,_,n,_,h1⟩:=(show ZH X.prog X.w H s.heap a (.frz ob (.lst xs)) from I.hok a _ ea);exact Qm W.kitx_list I.kIn ⟨_,h1,rfl⟩ e (λz=>nomatch z) h
 | @tup a xs ea=>
  cases (show u=Value.ref a from rx);obtain ⟨_,_,_,p⟩:=(show ZH X.prog X.w H s.heap a (.tup xs) from I.hok a _ ea);obtain ⟨o,h1,h2,_⟩:=p;exact Qm W.kitx_tuple I.kIn ⟨o,h1,h2⟩ e (λz=>nomatch z) h
 | @dK a pB ea=>
  cases (show u=Value.ref a from rx);obtain ⟨_,_,vs,_,p⟩:=(show ZH X.prog X.w H s.heap a (.dK pB) from I.hok a _ ea);obtain ⟨o,es,ep,h1,h2,_⟩:=p;exact Qm W.kitx_dict I.kIn ⟨o,h1,h2.1⟩ e (λz=>nomatch z) h
 | @dT a pB ea=>
  cases (show u=Value.ref a from rx);obtain ⟨_,_,xs,_,o,es,ep,h1,h2,_⟩:=(show ZH X.prog X.w H s.heap a (.dT pB) from I.hok a _ ea);exact Qm W.kitx_dict I.kIn ⟨o,h1,h2.1⟩ e (λz=>nomatch z) h
 | @ins a C dx fs ea cl ha hn htk hm=>
  cases (show u=Value.ref a from rx);obtain ⟨mA,O,_⟩:=zBy I.hok ea;obtain ⟨od,J,_⟩:=O.look;exact Qm (W.kitx_own (cl.get _) cl.hd ha hn htk hm) I.kIn J e (λz=>nomatch z) h
end
structure yD (k:Nat) (A:Around):Prop where
 hd:A.handled=none
 dp:A.depth+3*k+5<recursionLimit
 un:A.units+16*k+200<cLine
theorem yD.mono {k:Nat} (r:yD k A) (h:j<=k):yD j A:=⟨r.hd,by have:=r.dp; lia,by have:=r.un; lia⟩
theorem yD.deeper {k:Nat} (r:yD (k+1) A) (env:Env):yD k (A.deeper env):=
 ⟨r.hd,by have:=r.dp; show A.depth+1+3*k+5<_; lia,by have:=r.un; show A.units+3+16*k+200<_; lia⟩
theorem zIj:(A.under (.builtin "type.__call__" ⟨.ref C::us,kw⟩)).depth=A.depth+1:=by
 first | rfl | simp [Around.under,Code.weight,Code.isCreation,Code.isGuard,Code.isCaller,Code.frames,Code.isFrame,guardIds]
theorem zIP:(A.under (.builtin "type.__call__" ⟨.ref C::us,kw⟩)).units=A.units+1:=by
 first | rfl | simp [Around.under,Code.cUnits,Code.frames,Code.isFrame]
theorem yD.make {k:Nat} (r:yD (k+1) A) (C:Addr) (us:List Value) (kw:List (Str×Value)):yD k (A.under (.builtin "type.__call__" ⟨.ref C::us,kw⟩)):=
 ⟨r.hd,by have:=r.dp; rw [zIj]; lia,by have:=r.un; rw [zIP]; lia⟩
theorem yD.depth {k:Nat} (r:yD k A):A.depth<recursionLimit:=by have:=r.dp; lia
theorem yD.units {k:Nat} (r:yD k A):A.units+64<cLine:=by have:=r.un; lia
def zFq:TA:=λ_ H Q=>Q [] H
def zRi (ta:TE) (tr:TA):TA:=λU H Q=>ta U H λx H1=>tr U H1 λxs H2=>Q (x::xs) H2
section
variable {t:TA}
theorem zB:PA X [] zFq:=λ_ _ _ _ H Q I h=>xq ⟨[],H,I, .nil,h⟩
theorem zA (ha:PE X e te) (hr:PA X es t) (hs:starEach (e::es) X.env=(false,eval e X.env)::starEach es X.env:=by rfl):PA X (e::es) (zRi te t):=by
 intro pos pA s U H Q I h;rw [hs];show wpAny _ _ (spliced ((false,eval e X.env)::backTo pos (starEach es X.env))) _ _ s;refine xZ (zg (ha pA s U H _ I h) λu s1 ⟨x,H1,I1,r1,q1⟩=>?_);exact zg (hr pos pA s1 U H1 _ I1 q1) λus s2 ⟨xs,H2,I2,r2,q2⟩=>⟨x::xs,H2,I2, .cons r1 r2,q2⟩
def zTB (t:TA):TE:=λU H Q=>t U H λxs H1=>xs.length<=sizeLine/\∀p,H1 p=none->Q (.ref p) (zH H1 p (.tup xs))
def zTC (t:TA):TE:=λU H Q=>t U H λxs H1=>xs.length<=sizeLine/\∀p,H1 p=none->Q (.ref p) (zH H1 p (.lst xs))
theorem ya {x1} (h:PA X es t):PE X (.Tuple es x1 pos) (zTB t):=by
 intro pA s U H Q I hq;refine wpAny_Tuple_spliced (zg (h pos pA s U H _ I hq) λus s1 ⟨xs,H1,I1,r,z,q⟩=>⟨by rw [<-r.length]; exact z,?_⟩);have hf:H1 s1.heap.objs.size=none:=I1.hok.fresh (qG _);refine ⟨.ref s1.heap.objs.size,zH H1 s1.heap.objs.size (.tup xs),I1.laid (t':=s1.toks) (λb u e=>qH _ e) (qG _) ?_,rfl,q _ hf⟩;exact ⟨z,us,r,⟨_,qW _ rfl,rfl,_,rfl⟩⟩
theorem zv (h:PA X es t):PE X (.List es pos) (zTC t):=by
 intro pA s U H Q I hq;refine wpAny_List_spliced (zg (h pos pA s U H _ I hq) λus s1 ⟨xs,H1,I1,r,z,q⟩=>⟨by rw [<-r.length]; exact z,?_⟩);have hf:H1 s1.heap.objs.size=none:=I1.hok.fresh (qG _);refine ⟨.ref s1.heap.objs.size,zH H1 s1.heap.objs.size (.lst xs),I1.laid (t':=s1.toks) (λb u e=>qH _ e) (qG _) ?_,rfl,q _ hf⟩;exact ⟨z,us,0,r,qW _ rfl⟩
end
abbrev Sp:=List V->Hp->VK->XK->Prop
variable {sp:Sp}
abbrev CXT:=List Env->Hp->Shared->XK->Value->Shared->Prop
variable {CX:CXT}
structure zCn (P:Program) (w:World) (K:W.Frag) (mg:Str->Option Value) (base:Heap) (A:Around) (outer:List Env) (s:Shared) (H:Hp):Prop where
 frames:A.frames=some outer
 mod:Mod K mg base
 bs:∀b o,base.get? b=some o->s.heap.get? b=some o/\H b=none
 bsz:base.objs.size<=s.heap.objs.size
 funs:s.heap.FunFrames base outer
 frf:∀b∈jT outer,H b=none
 hok:yk P w H s.heap
 bare:AllBare s.gens
def CE (outer:List Env) (P:Program) (w:World) (H:Hp) (s:Shared) (Q:VK) (u:Value) (s':Shared):Prop:=
 ∃v H',s'.os=s.os/\AllBare s'.gens/\Un (jT outer) [] H H' s.heap s'.heap/\yk P w H' s'.heap/\zp v u/\Q v H'
def CR (CX:CXT) (outer:List Env) (P:Program) (w:World) (H:Hp) (s:Shared) (Q:VK) (E:XK) (r:Result) (s':Shared):Prop:=
 match r with
 | .ok (.ret u)=>CE outer P w H s Q u s'
 | .ok _=>False
 | .error e=>CX outer H s E e s'
structure FnOk (P:Program) (w:World) (K:W.Frag) (mg:Str->Option Value) (base:Heap) (CX:CXT) (k:Nat) (f:Addr) (fd:FuncData) (ps:List Str) (sp:Sp):Prop where
 len:∀vs H Q E,sp vs H Q E->vs.length=ps.length
 run:∀(A:Around) (outer:List Env) (s:Shared) (H:Hp) (args:Args) (us:List Value) (vs:List V) (Q:VK) (E:XK),yD k A->zCn P w K mg base A outer s H->BindsTo s fd args (ps.zip us)->za vs us->sp vs H Q E->
  codeAny (model P w) A (.call (.ref f) args) (CR CX outer P w H s Q E) s
theorem FnOk.mono {k:Nat} {f:Addr} (F:FnOk P w K mg base CX j f fd ps sp) (h:j<=k):
  FnOk P w K mg base CX k f fd ps sp:=⟨F.len,λA outer s H args us vs Q E hr=>F.run A outer s H args us vs Q E (hr.mono h)⟩
theorem zCn.make (e:zCn P w K mg base A outer s H) (C:Addr) (us:List Value) (kw:List (Str×Value)):
  zCn P w K mg base (A.under (.builtin "type.__call__" ⟨.ref C::us,kw⟩)) outer s H:=⟨by first | exact e.frames | (simpa [Around.under,Code.envs,Code.isFrame,pushEnvs] using e.frames),e.mod,e.bs,e.bsz,e.funs,e.frf,e.hok,e.bare⟩
theorem zN.env0 (I:zN X pA U H s):zCn X.prog X.w X.K X.mg X.base X.A X.stack s H:=
 ⟨I.ok.frames,I.ok.mod,I.bs,qQ I.ok.bsz I.sz,I.stack,I.stkFree,I.hok,I.bare⟩
theorem zN.after {Q:VK} (I:zN X pA U H s) (h:CE X.stack X.prog X.w H s Q u s'):EP X pA U Q u s':=by
 obtain ⟨v,H',os,bare,un,hok,r,q⟩:=h;obtain ⟨hh,g,d,t,os'⟩:=s';obtain rfl:os'=s.os:=os;exact ⟨v,H',I.call (h':=hh) (g':=g) (d':=d) (t':=t) (ch:=[]) un hok bare (λb z=>v6 z (by simp)),r,q⟩
def zJR (sp:Sp) (dvs:List V) (E:XK) (t:TA):TE:=λU H Q=>t U H λvs H1=>sp (vs++dvs) H1 Q E
def zNs (C:Addr) (m:Str) (sp:Sp) (dvs:List V) (E:XK) (ta:TE) (t:TA):TE:=λU H Q=>ta U H λx H1=>∃a dx fs,x= .ref a/\H1 a=some (.ins C dx fs)/\fs.lookup m=none/\
 t U H1 λvs H2=>sp (x::(vs++dvs)) H2 Q E
def zRe (C:Addr) (sp:Sp) (dvs:List V) (E:XK) (t:TA):TE:=λU H Q=>t U H λvs H1=>∀x dx,H1 x=none->H1 dx=none->dx≠x->
 sp (.ref x::(vs++dvs)) (zH (zH H1 dx (.own x)) x (.ins C dx [])) (λv H2=>v= .non/\Q (.ref x) H2) E
def zX (K:W.Frag) (fd:FuncData) (ps:List Str) (ds:List Value):Prop:=
 ∀(s:Shared) (us:List Value),K.In s.heap->(us++ds).length=ps.length->BindsTo s fd ⟨us,[]⟩ (ps.zip (us++ds))
theorem zX.all (h:∀us:List Value,us.length=ps.length->bindArgs fd ⟨us,[]⟩=pure (ps.zip us)):zX K fd ps []:=λs us _ hl=>by
 rw [qv] at hl ⊢;exact .of_eq (h us hl)
def JH (CX:CXT) (X:Cx) (E:XK):Prop:=∀(pA:List (Addr×Obj)) (U:St) (H:Hp) (s:Shared) (e:Value) (s':Shared),zN X pA U H s->CX X.stack H s E e s'->X.xe e s'
section
variable {k:Nat} {f:Addr} {E:XK} {apos:Pos} {o:Expr} {t:TA}
theorem zDk {Q:VK} (F:FnOk X.prog X.w X.K X.mg X.base CX k f fd ps sp) (hr:yD k X.A) (hb:zX X.K fd ps ds) (hd:za dvs ds) (hx:JH CX X E)
  (I:zN X pA U H s) (r:za vs us) (h:sp (vs++dvs) H Q E):wpAny (model X.prog X.w) X.A (call (.ref f) us) (EP X pA U Q) X.xe s:=by
 have r2:za (vs++dvs) (us++ds):=r.append hd;have hl:(us++ds).length=ps.length:=by rw [<-r2.length]; exact F.len _ _ _ _ h
 refine wpAny_call (Xe (F.run X.A X.stack s H ⟨us,[]⟩ (us++ds) (vs++dvs) Q E hr I.env0 (hb s us I.kIn hl) r2 h) λr s' hq=>?_);cases r with
 | error e=>exact hx pA U H s e s' I hq
 | ok fl=>
  cases fl with
  | ret u=>exact I.after hq
  | next=>exact False.elim hq
  | brk=>exact False.elim hq
  | cont=>exact False.elim hq
theorem zHl (F:FnOk X.prog X.w X.K X.mg X.base CX k f fd ps sp) (hr:yD k X.A) (hg:Gl X x) (hm:X.mg x=some (.ref f)) (hk:W.keepIn X.K (.ref f)=true) (hb:zX X.K fd ps ds) (hd:za dvs ds) (hx:JH CX X E)
  (ha:PA X (e::es) t) (hdb:(x==("__debug__":Str))=false:=by decide) (he:starEach (e::es) X.env=(false,eval e X.env)::starEach es X.env:=by rfl) (hpl:(backTo pos (starEach es X.env)).any (·.1)=false:=by rfl):
  PE X (.Call (.Name x p) (e::es) [] pos) (zJR sp dvs E t):=by
 intro pA s U H Q I h;refine Qp (zEL I hg hm ?_ hdb);refine Xf (h₀:=X.base) I.ok.mod.kin hk (zg (ha pos pA s U H _ I h) λus s1 ⟨vs,H1,I1,r,q⟩=>⟨I1.kIn,?_⟩) he hpl;exact zDk F hr hb hd hx I1 r q
theorem zy (he:PE X o ta) (c:Cls X.K C) (hm:ZC X.K C m f) (F:FnOk X.prog X.w X.K X.mg X.base CX k f fd ps sp) (hr:yD k X.A) (hb:zX X.K fd ps ds) (hd:za dvs ds) (hx:JH CX X E) (ha:PA X (e::es) t)
  (hst:starEach (e::es) X.env=(false,eval e X.env)::starEach es X.env:=by rfl) (hpl:(backTo pos (starEach es X.env)).any (·.1)=false:=by rfl)
  (ht:eval (.Call (.Attribute o m apos) (e::es) [] pos) X.env=(do
   let ov <-eval o X.env
   standAt apos.atName
   let (f,first) <-holding [ov] (getMethod ov m pl)
   callWith pos f first (backTo pos (starEach (e::es) X.env)) (backToKw pos (keywordEach [] X.env))):=by rfl):
  PE X (.Call (.Attribute o m apos) (e::es) [] pos) (zNs C m sp dvs E ta t):=by
 intro pA s U H Q I h;refine vB (pl:=pl) (zg (he pA s U H _ I h) λu s1 ⟨x,H1,I1,rx,a,dx,fs,ex,ea,l,q⟩=>?_) ht;subst ex;obtain rfl:u=Value.ref a:=rx;refine zDT I1 ea c hm l ?_;refine Xf (first:=[.ref a]) (h₀:=X.base) I.ok.mod.kin hm.kp (zg (ha pos pA s1 U H1 _ I1 q) λus s2 ⟨vs,H2,I2,r,q2⟩=>⟨I2.kIn,?_⟩) hst hpl;exact zDk (us:= .ref a::us) (vs:= .ref a::vs) F hr hb hd hx I2 (.cons rfl r) q2
theorem Zs (he:PE X o ta) (c:Cls X.K C) (hm:ZC X.K C m f) (F:FnOk X.prog X.w X.K X.mg X.base CX k f fd ps sp) (hr:yD k X.A) (hb:zX X.K fd ps ds) (hd:za dvs ds) (hx:JH CX X E)
  (ht:eval (.Call (.Attribute o m apos) [] [] pos) X.env=(do
   let ov <-eval o X.env
   standAt apos.atName
   let (f,first) <-holding [ov] (getMethod ov m pl)
   callWith pos f first (backTo pos (starEach [] X.env)) (backToKw pos (keywordEach [] X.env))):=by rfl):
  PE X (.Call (.Attribute o m apos) [] [] pos) (zNs C m sp dvs E ta zFq):=by
 intro pA s U H Q I h;refine vB (pl:=pl) (zg (he pA s U H _ I h) λu s1 ⟨x,H1,I1,rx,a,dx,fs,ex,ea,l,q⟩=>?_) ht;subst ex;obtain rfl:u=Value.ref a:=rx;refine zDT I1 ea c hm l ?_;exact W.callWith_K0 (first:=[.ref a]) I1.kIn hm.kp (zDk (us:=[.ref a]) (vs:=[.ref a]) F hr hb hd hx I1 (.cons rfl .nil) q)
structure Mk (K:W.Frag) (C f:Addr):Prop where
 makes:W.makesIn K C=true
 init:W.findIn K (.ref C) "__init__"=some (some (.ref f))
 fn:W.isFn K (.ref f)=true
 kp:W.keepIn K (.ref C)=true
theorem zLO {Q:VK} (M:Mk X.K C f) (F:FnOk X.prog X.w X.K X.mg X.base CX k f fd ps sp) (hr:yD (k+1) X.A) (hb:zX X.K fd ps ds) (hd:za dvs ds)
  (hx:JH CX X E) (I:zN X pA U H s) (r:za vs us)
  (h:∀x dx,H x=none->H dx=none->dx≠x->sp (.ref x::(vs++dvs)) (zH (zH H dx (.own x)) x (.ins C dx [])) (λv H2=>v= .non/\Q (.ref x) H2) E):
  wpAny (model X.prog X.w) X.A (call (.ref C) us) (EP X pA U Q) X.xe s:=by
 have hq:=h (s.heap.objs.size+1) s.heap.objs.size (I.hok.fresh (xM _)) (I.hok.fresh (qG _)) (qb (Q0 _));have I2:=zN.made (C:=C) I;have r2:za (V.ref (s.heap.objs.size+1)::(vs++dvs)) (Value.ref (s.heap.objs.size+1)::(us++ds)):= .cons rfl (r.append hd);have hl:(Value.ref (s.heap.objs.size+1)::us++ds).length=ps.length:=by
  have e:=r2.length;rw [F.len _ _ _ _ hq] at e;exact e.symm
 refine wpAny_call (zNA (f:=f) I.kIn M.makes M.init (beq_iff_eq.mp M.fn) (Xe (F.run _ X.stack _ _ ⟨Value.ref (s.heap.objs.size+1)::us,[]⟩ (Value.ref (s.heap.objs.size+1)::(us++ds)) _ _ E (hr.make C us [])
  (I2.env0.make C us []) (hb _ (Value.ref (s.heap.objs.size+1)::us) I2.kIn hl) r2 hq) λr s' hq'=>?_))
 cases r with
 | error e=>exact hx pA U _ _ e s' I2 hq'
 | ok fl=>
  cases fl with
  | ret u=>
   obtain ⟨v,H',I3,rv,ev,q3⟩:=I2.after hq';subst ev;exact ⟨rv,⟨V.ref (s.heap.objs.size+1),H',I3,rfl,q3⟩⟩
  | next=>exact False.elim hq'
  | brk=>exact False.elim hq'
  | cont=>exact False.elim hq'
theorem j4 (M:Mk X.K C f) (F:FnOk X.prog X.w X.K X.mg X.base CX k f fd ps sp) (hr:yD (k+1) X.A) (hg:Gl X x) (hm:X.mg x=some (.ref C)) (hb:zX X.K fd ps ds) (hd:za dvs ds) (hx:JH CX X E)
  (ha:PA X (e::es) t) (hdb:(x==("__debug__":Str))=false:=by decide) (he:starEach (e::es) X.env=(false,eval e X.env)::starEach es X.env:=by rfl) (hpl:(backTo pos (starEach es X.env)).any (·.1)=false:=by rfl):
  PE X (.Call (.Name x p) (e::es) [] pos) (zRe C sp dvs E t):=by
 intro pA s U H Q I h;refine Qp (zEL I hg hm ?_ hdb);refine Xf (h₀:=X.base) I.ok.mod.kin M.kp (zg (ha pos pA s U H _ I h) λus s1 ⟨vs,H1,I1,r,q⟩=>⟨I1.kIn,?_⟩) he hpl;exact zLO M F hr hb hd hx I1 r q
end
section
variable {k:Nat} {f:Addr} {ks:List Str} {E:XK} {apos kpos:Pos} {o:Expr} {t tk:TA}
variable {g:List Value->List Value->List Value}
end
structure jv (N P:List Str) (sc:Scope):Prop where
 kind:sc.kind= .function
 co:sc.isCoroutine=false
 gen:sc.isGenerator=false
 nd:N.Nodup
 pre:N.take P.length=P
 par:∀x∈P,sc.names.lookup x=some .local\/sc.names.lookup x=some .cell
 nofree:∀y∈sc.names,y.2≠ .free
theorem zEs {kindOf:Str->Option NameKind} {x:Str}:∀{binds:List (Str×Value)} {m:Str->Option Value},(∀v,(x,v)∉binds)->bindL kindOf binds m x=m x
 | [],_,_=>rfl
 | (n,v)::r,m,h=>by
  unfold bindL;rw [zEs λw hw=>h w (qF _ hw)];split
  .have:x≠n:=by rintro rfl; exact h v qE
   simp [this]
  .rfl
theorem zEi {kindOf:Str->Option NameKind} {x:Str}:∀{binds:List (Str×Value)} {m:Str->Option Value},(∀v,(x,v)∉binds)->bindC kindOf binds m x=m x
 | [],_,_=>rfl
 | (n,v)::r,m,h=>by
  unfold bindC;rw [zEi λw hw=>h w (qF _ hw)];split
  .rfl
  .have:x≠n:=by rintro rfl; exact h v qE
   simp [this]
theorem zEu {kindOf:Str->Option NameKind} {x:Str} {v:Value}:∀{P:List Str} {vs:List Value} {i:Nat} {m:Str->Option Value},P.Nodup->P[i]?=some x->vs[i]?=some v->kindOf x=some .local->
  bindL kindOf (P.zip vs) m x=some v
 | [],_,_,_,_,h,_,_=>by simp at h
 | _::_,[],_,_,_,_,h,_=>by simp at h
 | p::P,w::vs,0,m,nd,h1,h2,hk=>by
  simp at h1 h2; subst h1; subst h2;show bindL kindOf ((p,w)::P.zip vs) m p=_;unfold bindL;rw [zEs λv hv=>(List.nodup_cons.mp nd).1 (vJ hv).1,qO hk];simp
 | p::P,w::vs,i+1,m,nd,h1,h2,hk=>by
  show bindL kindOf ((p,w)::P.zip vs) m x=_;unfold bindL;exact zEu (i:=i) (List.nodup_cons.mp nd).2 (by simpa using h1) (by simpa using h2) hk
theorem zEz {kindOf:Str->Option NameKind} {x:Str} {v:Value}:∀{P:List Str} {vs:List Value} {i:Nat} {m:Str->Option Value},P.Nodup->P[i]?=some x->vs[i]?=some v->kindOf x≠some .local->
  bindC kindOf (P.zip vs) m x=some v
 | [],_,_,_,_,h,_,_=>by simp at h
 | _::_,[],_,_,_,_,h,_=>by simp at h
 | p::P,w::vs,0,m,nd,h1,h2,hk=>by
  simp at h1 h2; subst h1; subst h2;show bindC kindOf ((p,w)::P.zip vs) m p=_;unfold bindC;rw [zEi λv hv=>(List.nodup_cons.mp nd).1 (vJ hv).1,qP hk];simp
 | p::P,w::vs,i+1,m,nd,h1,h2,hk=>by
  show bindC kindOf ((p,w)::P.zip vs) m x=_;unfold bindC;exact zEz (i:=i) (List.nodup_cons.mp nd).2 (by simpa using h1) (by simpa using h2) hk
def start (N:List Str) (vs:List V):St:=vs.map some++List.replicate (N.length - vs.length) none
def zES (CX:CXT) (P:Program) (w:World) (K:W.Frag) (mg:Str->Option Value) (base:Heap) (N:List Str) (qual:Str) (scope:Scope) (f:Addr) (cd:Value) (A:Around) (outer:List Env) (s:Shared) (H:Hp) (E:XK):Cx where
 prog:=P
 w:=w
 K:=K
 mg:=mg
 base:=base
 A:=A.deeper (envOfC qual scope s.heap.objs.size f cd)
 N:=N
 s₀:=s
 H₀:=H
 env:=envOfC qual scope s.heap.objs.size f cd
 outer:=outer
 stack:=envOfC qual scope s.heap.objs.size f cd::outer
 ex:=[]
 calm:=true
 fn:=λ_=>true
 pn:=[]
 xe:=λe s'=>wpAny (model P w) (A.deeper (envOfC qual scope s.heap.objs.size f cd)) (leaving (envOfC qual scope s.heap.objs.size f cd) e) (λ_ s''=>CX outer H s E e s'') (λe' s''=>CX outer H s E e' s'') s'
theorem zFo (h:sc.names.lookup x=some .cell):∃c,(cellsFrom n sc.names []).lookup x=some c:=by
 have q:=W.cellsFrom_some sc.names n [] (.inl h);exact Option.isSome_iff_exists.mp q
theorem zKD {f:Addr} {s1:Shared} {E:XK}
  (S:jv N ps scope) (hd:A.handled=none) (e0:zCn P w K mg base A outer s H) (hl:vs.length=ps.length) (r:za vs us)
  (x:InCallC s s.heap.objs.size (bindL (envOfC qual scope s.heap.objs.size f cd).kindOf (ps.zip us) λ_=>none) (cellsFrom (s.heap.objs.size+1) scope.names []) (bindC (envOfC qual scope s.heap.objs.size f cd).kindOf (ps.zip us) λ_=>none) s1):
  zN (zES CX P w K mg base N qual scope f cd A outer s H E) [] (start N vs) H s1:=by
 have hpl:ps.length<=N.length:=by have:=Qe List.length S.pre; rw [QC] at this; lia
 obtain ⟨h1,tk,rfl,hk⟩:=x.done;have noA:∀b:Addr,b∉(zES CX P w K mg base N qual scope f cd A outer s H E).ex:=λb z=>v6 (show b∈([]:List Addr) from z) (by simp);refine ⟨⟨e0.mod,S.kind,rfl,rfl,qG _,λy z c h1 h2=>?_,λy hy=>?_,λy c _ h=>?_,λ_=>hd,Around.frames_deeper e0.frames, .inr ⟨rfl,rfl⟩,λb z=>v6 z (noA b),e0.bs,e0.bsz,λb _ _=>noA b,λb z=>v6 z (noA b),e0.funs,e0.frf⟩,
  rfl,e0.bare,Un.kept hk,⟨_,x.toInCall.ns,λi y v h1 h2 h3=>?_⟩,λy c h=>⟨_,x.cell y c h⟩,e0.hok.fresh (qG _),λy c h=>?_,λp hp=>v6 (show p∈([]:List (Addr×Obj)) from hp) (by simp),e0.hok.kept hk,?_⟩
 .exact name_of_addr x.apart (XI h1) (XI h2)
 .have hy:scope.names.lookup y=some .cell\/scope.names.lookup y=some .free:=hy
  rcases hy with hy | hy
  .exact zFo hy
  .exact v6 rfl (S.nofree _ (XI hy))
 .exact qf (x.above y c (XI h))
 .have hi:i<vs.length:=by
   unfold start at h2;by_cases hi:i<vs.length
   .exact hi
   .rw [q8 (by simpa using hi)] at h2
    rw [List.getElem?_replicate] at h2;split at h2 <;> cases h2
  have ha:vs[i]?=some v:=by
   unfold start at h2;rw [QM (by simpa using hi),qM] at h2;cases e:vs[i]? with
   | none=>rw [e] at h2; cases h2
   | some a=>rw [e] at h2; cases h2; rfl
  obtain ⟨u,hu,rv⟩:=r.get ha;have hp:ps[i]?=some y:=by
   rw [<-S.pre,Xg (by lia)]; exact h1
  have ndP:ps.Nodup:=by rw [<-S.pre]; exact S.nd.sublist (List.take_sublist _ _)
  refine ⟨u,rv,?_⟩;rcases S.par y (qp hp) with k | k
  .exact .inl ⟨k,zEu ndP hp hu k⟩
  .obtain ⟨c,e⟩:=zFo (n:=s.heap.objs.size+1) k
   refine .inr ⟨.inl k,c,e,?_⟩;have q:=x.cell y c e;rw [zEz ndP hp hu (by show scope.names.lookup y≠_; rw [k]; decide)] at q;exact q
 .exact e0.hok.fresh (qf (x.above y c (XI h)))
 .unfold start
  show _=N.length;rw [qJ,qA,vC];lia
theorem zRo {k:Nat} {f:Addr} {dV kV doc pm cdv ct oc:Value} {an od:Option Addr}
  (lk:K.lookup f=some ⟨oc,od, .func (W.fnOf name qual params body scope dV kV doc pm an cdv ct),osl⟩) (hcd:W.codeIn K cdv qual=true) (S:jv N ps scope)
  (len:∀vs H Q E,sp vs H Q E->vs.length=ps.length)
  (hbody:∀(A:Around) (outer:List Env) (s:Shared) (H:Hp) (vs:List V) (Q:VK) (E:XK),yD k (A.deeper (envOfC qual scope s.heap.objs.size f cdv))->sp vs H Q E->
   ∃t,JK (zES CX P w K mg base N qual scope f cdv A outer s H E) body t/\t {nx:=λ_ H'=>Q .non H',rt:=Q} (start N vs) H):
  FnOk P w K mg base CX (k+1) f (W.fnOf name qual params body scope dV kV doc pm an cdv ct) ps sp:=by
 refine ⟨len,λA outer s H args us vs Q E hr e0 hb r hsp=>?_⟩;have hl:=len _ _ _ _ hsp;have KX:K.In s.heap:=e0.mod.kin.keeps λb o e=>(e0.bs b o e).1;have lim:s.heap.NoLimit:=e0.mod.nolimit.keeps λb o e=>(e0.bs b o e).1;have hkind:∀y∈ps.zip us,scope.names.lookup y.1=some .local\/(scope.names.lookup y.1=some .cell/\((cellsFrom (s.heap.objs.size+1) scope.names []).lookup y.1).isSome=true):=λ⟨n,v⟩ hy=>by
  rcases S.par n (vJ hy).1 with q | q
  .exact .inl q
  .exact .inr ⟨q,W.cellsFrom_some _ _ _ (.inl q)⟩
 refine codeAny_call_function hr.depth (KX _ _ lk) rfl S.co S.gen rfl (W.codeRec_of KX hcd) (hb _ _ _ _ ?_);refine wpAny_newFunctionEnv_cells S.kind hkind λenv he s1 x=>?_;subst he;refine ⟨lim.keeps x.toInCall.keep,codeAny_func ?_⟩;obtain ⟨t,ht,hq⟩:=hbody A outer s H vs Q E (hr.deeper _) hsp;have I:zN (zES CX P w K mg base N qual scope f cdv A outer s H E) [] (start N vs) H s1:=zKD S hr.hd e0 hl r x;refine xC (ht [] s1 (start N vs) H _ I hq) (λfl s' hs=>?_) λe s' hs=>hs;have fin:∀{U':St} {H':Hp} {v:V} {u:Value},zN (zES CX P w K mg base N qual scope f cdv A outer s H E) [] U' H' s'->zp v u->Q v H'->CE outer P w H s Q u s':=
  λ{U' H' v u} J rv q=>⟨v,H',J.os,J.bare,J.base,J.hok,rv,q⟩
 cases fl with
 | ret u=>
  obtain ⟨v,U',H',J,rv,q⟩:=hs;exact fin J rv q
 | next=>
  obtain ⟨U',H',J,q⟩:=hs;exact fin (v:=V.non) (u:=Value.none) J rfl q
 | brk=>
  obtain ⟨_,_,_,q⟩:=hs;exact False.elim q
 | cont=>
  obtain ⟨_,_,_,q⟩:=hs;exact False.elim q
section
variable {t:TA} {id T:String} {r:List V->Hp->VK->Prop}
def tCB (r:List V->Hp->VK->Prop) (t:TA):TE:=λU H Q=>t U H λvs H1=>r vs H1 Q
theorem zP (hc:yh X (.builtin id) r) (hg:Gl X x) (hm:X.mg x=none) (hv:bootBuiltins x=some (.builtin id)) (ha:PA X (e::es) t) (hn:x≠"__name__":=by decide) (hdb:(x==("__debug__":Str))=false:=by decide)
  (he:starEach (e::es) X.env=(false,eval e X.env)::starEach es X.env:=by rfl) (hpl:(backTo pos (starEach es X.env)).any (·.1)=false:=by rfl):PE X (.Call (.Name x p) (e::es) [] pos) (tCB r t):=by
 intro pA s U H Q I h;refine Qp (yZ I hg hm hv ?_ hn hdb);exact vK (zg (ha pos pA s U H _ I h) λus s1 ⟨vs,H1,I1,r1,q1⟩=>hc pA s1 U H1 vs us Q I1 r1 q1) he hpl
theorem ZE (hc:yh X (.type T) r) (hg:Gl X x) (hm:X.mg x=none) (hv:bootBuiltins x=some (.type T)) (ha:PA X (e::es) t) (hn:x≠"__name__":=by decide) (hdb:(x==("__debug__":Str))=false:=by decide)
  (he:starEach (e::es) X.env=(false,eval e X.env)::starEach es X.env:=by rfl) (hpl:(backTo pos (starEach es X.env)).any (·.1)=false:=by rfl):PE X (.Call (.Name x p) (e::es) [] pos) (tCB r t):=by
 intro pA s U H Q I h;refine Qp (yZ I hg hm hv ?_ hn hdb);exact QE (zg (ha pos pA s U H _ I h) λus s1 ⟨vs,H1,I1,r1,q1⟩=>hc pA s1 U H1 vs us Q I1 r1 q1) he hpl
end
end L2
namespace HT
open PySem PyProof.Rows
variable {prog:Program} {w:World} {A:Around} {E:Value->Shared->Prop} {s:Shared}
def Z9:List Int->List Int->Bool
 | [],[]=>false
 | [],_::_=>true
 | _::_,[]=>false
 | x::xs,y::ys=>if x=y then Z9 xs ys else decide (x<y)
theorem zIV (x y:Int) (xs ys:List Int):Z9 (x::xs) (y::ys)=if x=y then Z9 xs ys else decide (x<y):=rfl
section
open PySem.SeqAt
open PySem.AutoSeq1 (wpAny_loadPart')
open PySem.MeetsSeq PySem.MeetsSeq2 PySem.MeetsSeq3
end
def Yj (n d:Nat):Option Int->Nat
 | none=>d
 | some v=>if v<0 then (v+(n:Int)).toNat else min v.toNat n
theorem zHP (n d k:Nat):Yj n d (some (k:Int))=min k n:=by
 show (if (k:Int)<0 then ((k:Int)+(n:Int)).toNat else min (k:Int).toNat n)=min k n;rw [qP (by lia),qy]
end HT
namespace L2
open PySem PySem.Spec PyProof.Rows
variable {j n t':Nat} {i:Int} {α κ:Type} {xs:List (List zZ×Addr×Value)} {v x y:V} {A:Around} {s:Shared} {u:Value} {pA:List (Addr×Obj)} {U:St} {H H':Hp} {T id:String} {pD us:List Value} {f:Array Value->Array Value} {p:κ×V} {pB:List (List zZ×V)} {o:Option V} {vs:List (κ×Value)} {P prog:Program} {w:World} {a b:Addr} {ks:List zZ} {E Q:Value->Shared->Prop} {h h':Heap} {e value:Expr} {apos cpos pos:Pos} {X:Cx} {es:List Expr}
abbrev TO:=St->Hp->(Option Int->Hp->Prop)->Prop
def PO (X:Cx) (e:Option Expr) (t:TO):Prop:=
 ∀(pA:List (Addr×Obj)) (s:Shared) (U:St) (H:Hp) (Q:Option Int->Hp->Prop),zN X pA U H s->t U H Q->
  wpAny (model X.prog X.w) X.A (evalPart e X.env) (λu s'=>∃o H',zN X pA U H' s'/\IsPart u o/\Q o H') X.xe s
def zOj:TO:=λ_ H Q=>Q none H
def zRf (t:TE):TO:=λU H Q=>t U H λx H1=>∃i,x= .int i/\Q (some i) H1
section
variable {te:TE} {lo hi:Option Expr} {tl th:TO} {p2:Pos}
theorem Jd:PO X none zOj:=by
 intro pA s U H Q I h;rw [evalPart_none];exact qI ⟨none,H,I, .none,h⟩
theorem Je (h:PE X e te):PO X (some e) (zRf te):=by
 intro pA s U H Q I hw;rw [evalPart_some];refine zg (h pA s U H _ I hw) λu s1 ⟨x,H1,I1,r1,q1⟩=>?_;obtain ⟨i,rfl,q⟩:=q1;obtain ⟨t,rfl⟩:=r1;exact ⟨some i,H1,I1, .int i t,q⟩
def SlR (X:Cx) (r:V->Option Int->Option Int->Hp->VK->Prop):Prop:=
 ∀(pA:List (Addr×Obj)) (s:Shared) (U:St) (H:Hp) (x:V) (v vl vu:Value) (lo hi:Option Int) (sl:Addr) (Q:VK),zN X pA U H s->zp x v->s.heap.IsSliceOf sl vl vu .none->IsPart vl lo->IsPart vu hi->r x lo hi H Q->
  ∃T id,typeLookup (.type T) "__getitem__"=pure (some (.builtin id))/\s.TypeIs v T/\wpAny (model X.prog X.w) X.A (getItem v (.ref sl)) (EP X pA U Q) X.xe s
def tSl (r:V->Option Int->Option Int->Hp->VK->Prop) (te:TE) (tl th:TO):TE:=λU H Q=>te U H λx H1=>tl U H1 λl H2=>th U H2 λu H3=>r x l u H3 Q
theorem j6 {r:V->Option Int->Option Int->Hp->VK->Prop} (hr:SlR X r) (he:PE X e te) (hl:PO X lo tl) (hu:PO X hi th):PE X (.Subscript e (.Slice lo hi none p2) pos) (tSl r te tl th):=by
 intro pA s U H Q I h;refine Subscript_ (zg (he pA s U H _ I h) λv s1 ⟨x,H1,I1,r1,q1⟩=>?_);refine wpAny_Slice (zg (hl pA s1 U H1 _ I1 q1) λvl s2 ⟨l,H2,I2,pl,q2⟩=>zg (hu pA s2 U H2 _ I2 q2) λvu s3 ⟨u,H3,I3,pu,q3⟩=>?_);rw [evalPart_none];refine qI ?_;have I4:zN X pA U H3 {s3 with heap:=s3.heap.push {cls:= .type "slice",data:= .fields #[vl,vu, .none]}}:=I3.kept (t':=s3.toks) λb ob q=>qH _ q;obtain ⟨T,id,hT,ht,hg⟩:=hr pA {s3 with heap:=s3.heap.push {cls:= .type "slice",data:= .fields #[vl,vu, .none]}} U H3 x v vl vu l u s3.heap.objs.size Q I4 r1 (Heap.IsSliceOf.new ..) pl pu q3;show wpAny (model X.prog X.w) X.A (subscriptTail e (.Slice lo hi none p2) v (.ref s3.heap.objs.size)) (EP X pA U Q) X.xe {s3 with heap:=s3.heap.push {cls:= .type "slice",data:= .fields #[vl,vu, .none]}};exact tail_any (ops:=[.ref s3.heap.objs.size,v]) ht hT hg (by with_unfolding_all rfl)
def JO (xs:List V) (lo hi:Option Int):List V:=(xs.drop (HT.Yj xs.length 0 lo)).take (HT.Yj xs.length xs.length hi - HT.Yj xs.length 0 lo)
theorem zGy (xs:List V) (lo hi:Option Int):(JO xs lo hi).length<=xs.length:=by
 unfold JO;rw [QC,Qg];lia
end
def ixN (n:Nat) (i:Int):Option Nat:=if 0<=i then (if i<n then some i.toNat else none) else if -(n:Int)<=i then some (i+n).toNat else none
def YH {α:Type} (xs:List α) (i:Int):Option α:=(ixN xs.length i).bind λj=>xs[j]?
theorem zPC (h:ixN n i=some j):seqIndex? i n=some j/\j<n/\ -(n:Int)<=i/\i<n:=by
 unfold ixN at h;by_cases h0:0<=i
 .rw [qO h0] at h
  by_cases h1:i<n
  .rw [qO h1] at h
   have e:i.toNat=j:=Option.some.inj h;exact ⟨by rw [seqIndex_of h0 h1,e],by lia,by lia,h1⟩
  .rw [qP h1] at h; cases h
 .rw [qP h0] at h
  by_cases h1: -(n:Int)<=i
  .rw [qO h1] at h
   have e:(i+n).toNat=j:=Option.some.inj h;exact ⟨by rw [seqIndex_neg (by lia) h1,e],by lia,h1,by lia⟩
  .rw [qP h1] at h; cases h
theorem zHY {xs:List α} {v:α} (h:YH xs i=some v):∃j,seqIndex? i xs.length=some j/\xs[j]?=some v/\j<xs.length/\ -(xs.length:Int)<=i/\i<xs.length:=by
 unfold YH at h;cases e:ixN xs.length i with
 | none=>rw [e] at h; cases h
 | some j=>
  rw [e] at h;obtain ⟨h1,h2,h3,h4⟩:=zPC e;exact ⟨j,h1,h,h2,h3,h4⟩
theorem Zx {xs:List α} {v:α} (h:xs[j]?=some v):YH xs (j:Int)=some v:=by
 have hj:j<xs.length:=(List.getElem?_eq_some_iff.mp h).1;have e:ixN xs.length (j:Int)=some j:=by
  unfold ixN;rw [qO (by lia),qO (by lia)]; simp
 unfold YH; rw [e]; exact h
theorem Jr (xs:List α) (v:α):YH (xs++[v]) (-1)=some v:=by
 have hl:(xs++[v]).length=xs.length+1:=by simp
 have e:ixN (xs++[v]).length (-1)=some xs.length:=by
  unfold ixN;rw [hl,qP (by decide),qO (by lia)];congr 1;lia
 unfold YH;rw [e];show (xs++[v])[xs.length]?=some v;simp
def zHE (b:Expr):Prop:=∀o i,subscripted b false o i=operate [o,i] (getItem o i)
def IxR (X:Cx) (r:R2):Prop:=
 ∀(value slice:Expr) (pA:List (Addr×Obj)) (s:Shared) (U:St) (H:Hp) (x y:V) (v u:Value) (Q:VK),zN X pA U H s->zp x v->zp y u->r x y H Q->
  subscripted slice false v u=operate [v,u] (getItem v u)->wpAny (model X.prog X.w) X.A (subscriptTail value slice v u) (EP X pA U Q) X.xe s
def MtR (X:Cx) (id:String) (r:V->List V->Hp->VK->Prop):Prop:=
 ∀(pA:List (Addr×Obj)) (s:Shared) (U:St) (H:Hp) (x:V) (xs:List V) (v:Value) (us:List Value) (Q:VK),zN X pA U H s->zp x v->za xs us->r x xs H Q->
  wpAny (model X.prog X.w) X.A (call (.builtin id) (v::us)) (EP X pA U Q) X.xe s
section
variable {a b:Expr} {ta tb:TE}
theorem YR {r:R2} (hr:IxR X r) (ha:PE X a ta) (hb:PE X b tb) (hs:zHE b):PE X (.Subscript a b pos) (tOp r ta tb):=by
 intro pA s U H Q I h;exact Subscript_ (zLX ha hb I h λv u s2 x y H2 I2 rx ry q=>hr a b pA s2 U H2 x y v u Q I2 rx ry q (hs _ _))
inductive zQh (K:W.Frag) (x y:V) (H:Hp) (Q:VK):Prop
 | mk (p:Addr) (xs:List V) (i:Int) (v:V):x= .ref p->y= .int i->zK K H p xs->YH xs i=some v->Q v H->zQh K x y H Q
def zQc (K:W.Frag):R2:=zQh K
inductive zPV (K:W.Frag) (x y:V) (H:Hp) (Q:VK):Prop
 | mk (p:Addr) (xs:List V) (i:Int) (v:V):x= .ref p->y= .int i->ZD K H p xs->YH xs i=some v->Q v H->zPV K x y H Q
def zQe (K:W.Frag):R2:=zPV K
theorem zx:IxR X (zQc X.K):=by
 intro value slice pA s U H x y v u Q I rx ry h hs;obtain ⟨p,xs,i,z,rfl,rfl,hq,he,q⟩:=h;cases rx;obtain ⟨t,rfl⟩:=ry;obtain ⟨pD,r,pl,hz⟩:=I.list hq;obtain ⟨j,h1,h2,h3,h4,h5⟩:=zHY he;obtain ⟨w,ew,rw'⟩:=r.get h2;have hl:=r.length;have hn:=zDU;have fin:EP X pA U Q w s:=⟨z,H,I,rw',q⟩;by_cases h0:0<=i
 .have hj:i.toNat=j:=by
   rw [seqIndex_of h0 h5] at h1;exact Option.some.inj h1
  exact item_listR pl.isList h0 (by lia) (by rw [hj]; simpa using ew) fin hs
 .have hj:(i+(pD.toArray.size:Int)).toNat=j:=by
   rw [seqIndex_neg (by lia) h4] at h1;rw [qj,<-hl];exact Option.some.inj h1
  exact subscriptTail_builtinR (x:=w) pl.isList.typeIs slot_list_getitem.lookup
   (wpAny_getItem_list_neg (Q:=λr s'=>r=w/\EP X pA U Q r s') pl.isList (by lia) (by rw [qj] <;> lia) (by lia) (by rw [hj]; simpa using ew) ⟨rfl,fin⟩) hs
theorem zh:IxR X (zQe X.K):=by
 intro value slice pA s U H x y v u Q I rx ry h hs;obtain ⟨p,xs,i,z,rfl,rfl,hq,he,q⟩:=h;cases rx;obtain ⟨t,rfl⟩:=ry;obtain ⟨pD,r,pl,hz⟩:=I.tuple hq;obtain ⟨j,h1,h2,h3,h4,h5⟩:=zHY he;obtain ⟨w,ew,rw'⟩:=r.get h2;have hl:=r.length;have hn:=zDU;have fin:EP X pA U Q w s:=⟨z,H,I,rw',q⟩;exact subscriptTail_builtinR (x:=w) pl.typeIs slot_tuple_getitem.lookup
  (getItem_tuple (j:=j) (Q:=λr s'=>r=w/\EP X pA U Q r s') pl (by lia) (by lia) (by rw [qj,<-hl]; exact h1) (by simpa using ew) ⟨rfl,fin⟩) hs
theorem zFw (lo hi:Option Int) (n:Nat):(sliceBounds lo hi none n).1=((HT.Yj n 0 lo:Nat):Int)/\(sliceBounds lo hi none n).2.1=((HT.Yj n n hi:Nat):Int)/\(sliceBounds lo hi none n).2.2=1:=by
 refine ⟨?_,?_,rfl⟩
 .cases lo with
  | none=>simp [sliceBounds,HT.Yj]
  | some i=>
   simp only [sliceBounds,HT.Yj,Option.getD_none,show (1:Int) > 0 by decide,vz];by_cases h:i<0
   .simp only [h,vz] <;> lia
   .simp only [h,X5] <;> lia
 .cases hi with
  | none=>simp [sliceBounds,HT.Yj]
  | some i=>
   simp only [sliceBounds,HT.Yj,Option.getD_none,show (1:Int) > 0 by decide,vz];by_cases h:i<0
   .simp only [h,vz] <;> lia
   .simp only [h,X5] <;> lia
theorem zFG (pD:List Value) (lo hi:Option Int):slicePick pD.toArray lo hi none=((pD.drop (HT.Yj pD.length 0 lo)).take (HT.Yj pD.length pD.length hi - HT.Yj pD.length 0 lo)).toArray:=by
 obtain ⟨h1,h2,h3⟩:=zFw lo hi pD.toArray.size;unfold slicePick;rw [h1,h2,h3];simp only [sliceRange_one,pick_run,qj] <;> rfl
def zSo (K:W.Frag):V->Option Int->Option Int->Hp->VK->Prop:=λx lo hi H Q=>∃a xs,x= .ref a/\zK K H a xs/\∀p,H p=none->Q (.ref p) (zH H p (.lst (JO xs lo hi)))
theorem Ji:SlR X (zSo X.K):=by
 intro pA s U H x v vl vu lo hi sl Q I rx hs pl pu h;obtain ⟨a,xs,rfl,hx,q⟩:=h;cases rx;obtain ⟨pD,r,ht,hz⟩:=I.list hx;have pF:=r.length;refine ⟨"list",_,slot_list_getitem.lookup,ht.isList.typeIs,?_⟩;refine wpAny_getItem_list_slice ht.isList hs pl pu .none (by simp) ?_ (by rw [qj] <;> lia);rw [zFG,<-pF];refine ⟨.ref s.heap.objs.size,_,I.laid (t':=s.toks) (o:= .lst (JO xs lo hi)) (λb ob q=>qH _ q) (qG _) ?_,rfl,q _ (I.hok.fresh (qG _))⟩;exact ⟨qQ (zGy xs lo hi) hz,_,0,(r.drop (HT.Yj xs.length 0 lo)).take (HT.Yj xs.length xs.length hi - HT.Yj xs.length 0 lo),qW _ rfl⟩
def JT:V->Bool
 | .non=>true
 | .bl _=>true
 | .int _=>true
 | .str _=>true
 | _=>false
def eqV:V->V->Bool
 | .non, .non=>true
 | .bl a, .bl b=>a==b
 | .bl a, .int b=>(if a then 1 else 0)==b
 | .int a, .bl b=>a==(if b then 1 else 0)
 | .int a, .int b=>a==b
 | .str a, .str b=>a==b
 | _,_=>false
theorem zPQ {v:Value} (ry:zp y u) (rx:zp x v) (fy:JT y=true) (fx:JT x=true):SeqAt.EqAt A s u v (eqV y x):=by
 cases y with
 | non=>
  cases ry;cases x with
  | non=>cases rx; exact SeqAt.EqAt.same _
  | bl b=>cases rx; exact SeqAt.EqAt.none_bool b
  | int b=>obtain ⟨t,rfl⟩:=rx; exact SeqAt.EqAt.none_int b t
  | str b=>obtain ⟨t,rfl⟩:=rx; exact SeqAt.EqAt.none_str b t
  | _=>exact v6 (show false=true from fx) qR
 | bl a=>
  cases ry;cases x with
  | non=>cases rx; exact SeqAt.EqAt.bool_none a
  | bl b=>cases rx; exact SeqAt.EqAt.bool_bool a b
  | int b=>obtain ⟨t,rfl⟩:=rx; exact SeqAt.EqAt.bool_int a b t
  | str b=>obtain ⟨t,rfl⟩:=rx; exact SeqAt.EqAt.bool_str a b t
  | _=>exact v6 (show false=true from fx) qR
 | int a=>
  obtain ⟨t',rfl⟩:=ry;cases x with
  | non=>cases rx; exact SeqAt.EqAt.int_none a t'
  | bl b=>cases rx; exact SeqAt.EqAt.int_bool a t' b
  | int b=>obtain ⟨t,rfl⟩:=rx; exact SeqAt.EqAt.int_int a t' b t
  | str b=>obtain ⟨t,rfl⟩:=rx; exact SeqAt.EqAt.int_str a t' b t
  | _=>exact v6 (show false=true from fx) qR
 | str a=>
  obtain ⟨t',rfl⟩:=ry;cases x with
  | non=>cases rx; exact SeqAt.EqAt.str_none a t'
  | bl b=>cases rx; exact SeqAt.EqAt.str_bool a t' b
  | int b=>obtain ⟨t,rfl⟩:=rx; exact SeqAt.EqAt.str_int a t' b t
  | str b=>obtain ⟨t,rfl⟩:=rx; exact SeqAt.EqAt.str_str a t' b t
  | _=>exact v6 (show false=true from fx) qR
 | _=>exact v6 (show false=true from fy) qR
def Jq (x:V) (u:Value):Bool:=match u with
 | .none=>eqV .non x
 | .bool b=>eqV (.bl b) x
 | .int i _=>eqV (.int i) x
 | .str z _=>eqV (.str z) x
 | _=>false
theorem zKl (r:zp y u) (f:JT y=true):Jq x u=eqV y x:=by
 cases y with
 | non=>cases r; rfl
 | bl b=>cases r; rfl
 | int i=>obtain ⟨t,rfl⟩:=r; rfl
 | str z=>obtain ⟨t,rfl⟩:=r; rfl
 | _=>exact v6 (show false=true from f) qR
theorem zAf {x:V}:∀{xs:List V} {us:List Value},za xs us->xs.all JT=true->us.any (Jq x)=xs.any λy=>eqV y x
 | _,_, .nil,_=>rfl
 | y::xs,u::us, .cons r t,f=>by
  rw [X2,QV] at f;rw [xk,xk,zKl r f.1,zAf t f.2]
theorem J8 {A:Around} {s:Shared} {x:V} {v:Value} (rx:zp x v) (fx:JT x=true):∀{xs:List V} {us:List Value},za xs us->xs.all JT=true->∀u∈us,SeqAt.EqAt A s u v (Jq x u)
 | _,_, .nil,_=>λu hu=>by cases hu
 | y::xs,u::us, .cons r t,f=>λu' hu=>by
  rw [X2,QV] at f;rcases List.mem_cons.mp hu with rfl | hu
  .rw [zKl r f.1]; exact zPQ r rx f.1 fx
  .exact J8 rx fx t f.2 u' hu
def inV (x:V) (xs:List V):Bool:=xs.any λy=>eqV y x
def rIn (K:W.Frag) (neg:Bool):R2:=λx y H Q=>∃p xs,y= .ref p/\(zK K H p xs\/ZD K H p xs)/\JT x=true/\xs.all JT=true/\Q (.bl (if neg then !inV x xs else inV x xs)) H
theorem zJi:Z1 X (compareOp .In) (rIn X.K false):=by
 intro pA s U H x y v u Q I rx ry h;obtain ⟨p,xs,rfl,hq,fx,fs,q⟩:=h;cases ry;rcases hq with hq | hq
 .obtain ⟨pD,r,pl,hz⟩:=I.list hq
  refine SeqAt.in_listAt (Jq x) pl.isList (λw hw=>J8 rx fx r fs w (by simpa using hw)) ⟨.bl _,H,I,rfl,?_⟩;rw [show pD.toArray.any (Jq x)=pD.any (Jq x) by simp,zAf r fs];exact q
 .obtain ⟨pD,r,pl,hz⟩:=I.tuple hq
  refine SeqAt.in_tupleAt (Jq x) pl (λw hw=>J8 rx fx r fs w (by simpa using hw)) ⟨.bl _,H,I,rfl,?_⟩;rw [show pD.toArray.any (Jq x)=pD.any (Jq x) by simp,zAf r fs];exact q
theorem zGO:Z1 X (compareOp .NotIn) (rIn X.K true):=by
 intro pA s U H x y v u Q I rx ry h;obtain ⟨p,xs,rfl,hq,fx,fs,q⟩:=h;cases ry;rcases hq with hq | hq
 .obtain ⟨pD,r,pl,hz⟩:=I.list hq
  refine SeqAt.notIn_listAt (Jq x) pl.isList (λw hw=>J8 rx fx r fs w (by simpa using hw)) ⟨.bl _,H,I,rfl,?_⟩;rw [show pD.toArray.any (Jq x)=pD.any (Jq x) by simp,zAf r fs];exact q
 .obtain ⟨pD,r,pl,hz⟩:=I.tuple hq
  refine SeqAt.notIn_tupleAt (Jq x) pl (λw hw=>J8 rx fx r fs w (by simpa using hw)) ⟨.bl _,H,I,rfl,?_⟩;rw [show pD.toArray.any (Jq x)=pD.any (Jq x) by simp,zAf r fs];exact q
theorem zQ:yh X (.builtin "len") (λxs H Q=>∃p ys,xs=[.ref p]/\(zK X.K H p ys\/ZD X.K H p ys)/\Q (.int ys.length) H):=by
 intro pA s U H xs us Q I r h;obtain ⟨p,ys,rfl,hq,q⟩:=h;obtain ⟨u,rfl,rx⟩:=zAu r;cases rx;have hn:=zDU;rcases hq with hq | hq
 .obtain ⟨pD,r',pl,hz⟩:=I.list hq
  have pF:=r'.length;exact Calls.call_len_list pl.isList (by simp only [qj] <;> lia) ⟨.int ys.length,H,I.tok _,⟨s.toks+1,by rw [qj,pF]⟩,q⟩
 .obtain ⟨pD,r',pl,hz⟩:=I.tuple hq
  have pF:=r'.length;exact len_tuple pl (by simp only [qj] <;> lia) ⟨.int ys.length,H,I.tok _,⟨s.toks+1,by rw [qj,pF]⟩,q⟩
theorem ZP:yh X (.type "list") (λxs H Q=>∃p ys,xs=[.ref p]/\(zK X.K H p ys\/ZD X.K H p ys)/\∀l,H l=none->Q (.ref l) (zH H l (.lst ys))):=by
 intro pA s U H xs us Q I r h;obtain ⟨p,ys,rfl,hq,q⟩:=h;obtain ⟨u,rfl,rx⟩:=zAu r;cases rx;have fin:∀(pD:List Value),za ys pD->ys.length<=sizeLine->∀(h':Heap) (c':Nat),(∀b o',s.heap.get? b=some o'->h'.get? b=some o')->
   h'.get? s.heap.objs.size=some {cls:= .type "list",dict:=none,data:= .seq pD.toArray c',slots:=#[]}->EP X pA U Q (.ref s.heap.objs.size) {s with heap:=h'}:=λpD r' hz h' c' kp e=>
  ⟨.ref s.heap.objs.size,_,I.laid (t':=s.toks) kp (qG _) (show ZH X.prog X.w _ h' _ (.lst ys) from ⟨hz,pD,c',r',e⟩),rfl,q _ (I.hok.fresh (qG _))⟩
 rcases hq with hq | hq
 .obtain ⟨pD,r',pl,hz⟩:=I.list hq
  have pF:=r'.length;obtain ⟨o,ho,hc,n,hd⟩:=pl.isList;exact call_list_seq p (.inl rfl) ho hc hd (λh' c' kp e=>fin pD r' hz h' c' kp e) (by simp only [qj] <;> lia)
 .obtain ⟨pD,r',pl,hz⟩:=I.tuple hq
  have pF:=r'.length;obtain ⟨o,ho,hc,n,hd⟩:=pl;exact call_list_seq p (.inr rfl) ho hc hd (λh' c' kp e=>fin pD r' hz h' c' kp e) (by simp only [qj] <;> lia)
theorem Yb:yh X (.type "tuple") (λxs H Q=>∃p ys,xs=[.ref p]/\((zK X.K H p ys/\∀l,H l=none->Q (.ref l) (zH H l (.tup ys)))\/(ZD X.K H p ys/\Q (.ref p) H))):=by
 intro pA s U H xs us Q I r h;obtain ⟨p,ys,rfl,h⟩:=h;obtain ⟨u,rfl,rx⟩:=zAu r;cases rx;rcases h with ⟨hq,q⟩ | ⟨hq,q⟩
 .obtain ⟨pD,r',pl,hz⟩:=I.list hq
  have pF:=r'.length;refine call_tuple_list pl.isList (λh' kp=>?_) (by simp only [qj] <;> lia);have I1:zN X pA U H {s with heap:=h'}:=I.kept (t':=s.toks) kp;have I2:zN X pA U (zH H h'.objs.size (.tup ys)) {s with heap:=h'.push {cls:= .type "tuple",data:= .seq pD.toArray}}:=
   I1.laid (t':=s.toks) (λb o e=>qH _ e) (qG _) (show ZH X.prog X.w _ _ _ (.tup ys) from ⟨hz,pD,r',IsTup.new _ _⟩)
  exact ⟨.ref h'.objs.size,_,I2,rfl,q _ (I1.hok.fresh (qG _))⟩
 .obtain ⟨pD,r',pl,hz⟩:=I.tuple hq
  exact call_tuple_same pl ⟨.ref p,H,I,rfl,q⟩
def tyV (K:W.Frag) (T:String) (x:V) (H:Hp):Prop:=match x with
 | .str _=>T="str"
 | .int _=>T="int"
 | .ref p=>(T="list"/\∃xs,zK K H p xs)\/(T="tuple"/\∃o,K.lookup p=some o/\o.cls= .type "tuple"/\o.dict=none)\/
   (T="dict"/\((∃pB,H p=some (.dK pB))\/∃pB,H p=some (.dT pB)))\/(T="set"/\∃S n,H p=some (.set S n))
 | _=>False
theorem zKK {v:Value} (I:zN X pA U H s) (r:zp x v) (ty:tyV X.K T x H):
  s.TypeIs v T/\∀a,v= .ref a->∃ob,s.heap.get? a=some ob/\ob.dict=none:=by
 cases x with
 | str z=>
  obtain ⟨t,rfl⟩:=r;cases (show T="str" from ty);exact ⟨typeIs_str s z t,λ_ e=>nomatch e⟩
 | int i=>
  obtain ⟨t,rfl⟩:=r;cases (show T="int" from ty);exact ⟨typeIs_int s i t,λ_ e=>nomatch e⟩
 | ref p=>
  cases r;rcases ty with ⟨rfl,xs,hq⟩ | ⟨rfl,o,hk,hc,hd⟩ | ⟨rfl,hk⟩ | ⟨rfl,S,n,hk⟩
  .obtain ⟨pD,_,pl,_⟩:=I.list hq
   refine ⟨pl.isList.typeIs,λa e=>?_⟩;cases e;obtain ⟨o,n,e,c,hd,_⟩:=pl;exact ⟨o,e,hd⟩
  .refine ⟨⟨o,I.kIn p o hk,hc⟩,λa e=>?_⟩
   cases e;exact ⟨o,I.kIn _ o hk,hd⟩
  .have z:∃o,s.heap.get? p=some o/\o.ExactDict:=by
    rcases hk with ⟨pB,hk⟩ | ⟨pB,hk⟩
    .obtain ⟨_,_,_,_,o,_,_,e,ex,_⟩:=I.hok p _ hk
     exact ⟨o,e,ex⟩
    .obtain ⟨_,_,_,_,o,_,_,e,ex,_⟩:=I.hok p _ hk
     exact ⟨o,e,ex⟩
   obtain ⟨o,e,ex⟩:=z;refine ⟨⟨o,e,ex.1⟩,λa e2=>?_⟩;cases e2;exact ⟨o,e,ex.2.1⟩
  .obtain ⟨o,_,_,_,e,ex,_⟩:=I.hok p _ hk
   refine ⟨⟨o,e,ex.1⟩,λa e2=>?_⟩;cases e2;exact ⟨o,e,ex.2.1⟩
 | _=>exact False.elim ty
def zSb (K:W.Frag) (T:String) (r:V->List V->Hp->VK->Prop) (to:TE):TE:=λU H Q=>to U H λx H1=>tyV K T x H1/\r x [] H1 Q
def tBM (K:W.Frag) (T:String) (r:V->List V->Hp->VK->Prop) (to:TE) (t:TA):TE:=λU H Q=>to U H λx H1=>tyV K T x H1/\t U H1 λxs H2=>r x xs H2 Q
variable {o:Expr} {to:TE} {t:TA} {name:Str} {r:V->List V->Hp->VK->Prop}
theorem zFp (pa:PlainAttrs T) (slot:Slot T name id) (hty:typeOf (.builtin id)=pure (.type "method_descriptor")) (hm:MtR X id r) (ho:PE X o to)
  (hbase:attributeBase o name X.env (eval o X.env)=eval o X.env:=by rfl) (hline:(apos.endLine==cpos.line)=true:=by rfl):PE X (.Call (.Attribute o name apos) [] [] cpos) (zSb X.K T r to):=by
 intro pA s U H Q I h;refine wpAny_Call_method0_late hbase hline (zg (ho pA s U H _ I h) λv s1 ⟨x,H1,I1,r1,ty,q1⟩=>?_);obtain ⟨h1,h2⟩:=zKK I1 r1 ty;exact ⟨T,id,pa,slot,hty,h1,h2,Calls.callWith_builtin rfl (PySem.evalArgs_none (hm pA s1 U H1 x [] v [] Q I1 r1 .nil q1))⟩
theorem YF (pa:PlainAttrs T) (slot:Slot T name id) (hty:typeOf (.builtin id)=pure (.type "method_descriptor")) (hm:MtR X id r) (ho:PE X o to) (ha:PA X (e::es) t)
  (hbase:attributeBase o name X.env (eval o X.env)=eval o X.env:=by rfl)
  (hfew:((backTo cpos (starEach (e::es) X.env)).all (λx=> !x.1)&&(backToKw cpos (keywordEach [] X.env)).all (λx=>x.1.isSome)
   &&decide ((e::es).length+([]:List Keyword).length+(if ([]:List Keyword).isEmpty then 0 else 1)<30))=true:=by rfl)
  (hline:(apos.endLine==cpos.line)=true:=by rfl) (hs:starEach (e::es) X.env=(false,eval e X.env)::starEach es X.env:=by rfl) (hplain:(backTo cpos (starEach es X.env)).any (·.1)=false:=by rfl):
  PE X (.Call (.Attribute o name apos) (e::es) [] cpos) (tBM X.K T r to t):=by
 intro pA s U H Q I h;refine wpAny_Call_method_late hbase hfew hline rfl (zg (ho pA s U H _ I h) λv s1 ⟨x,H1,I1,r1,ty,q1⟩=>?_);obtain ⟨h1,h2⟩:=zKK I1 r1 ty;refine ⟨T,id,pa,slot,hty,h1,h2,?_⟩;have hA:=ha cpos pA s1 U H1 _ I1 q1;rw [hs] at hA ⊢;refine Calls.callWith_builtin (by show (false||(backTo cpos (starEach es X.env)).any (·.1))=false; rw [hplain] <;> rfl) (Calls.evalArgs_plain ?_);exact zg hA λus s2 ⟨vs,H2,I2,r2,q2⟩=>hm pA s2 U H2 x vs v us Q I2 r1 r2 q2
end
def MtM (X:Cx) (id:String) (r:V->List V->Hp->VK->Prop):Prop:=
 ∀(pA:List (Addr×Obj)) (s:Shared) (U:St) (H:Hp) (x:V) (xs:List V) (v:Value) (us:List Value) (Q:VK),zN X pA U H s->zp x v->za xs us->r x xs H Q->
  wpAny (model X.prog X.w) X.A (call (.builtin id) (v::us)) (EP X pA U Q) X.xe s
theorem za.one:∀{x:V} {us:List Value},za [x] us->∃u,us=[u]/\zp x u
 | _,_, .cons r .nil=>⟨_,rfl,r⟩
theorem za.two:∀{x y:V} {us:List Value},za [x,y] us->∃u v,us=[u,v]/\zp x u/\zp y v
 | _,_,_, .cons r (.cons q .nil)=>⟨_,_,rfl,r,q⟩
theorem za.zero:∀{us:List Value},za [] us->us=[]
 | _, .nil=>rfl
theorem za.eraseIdx:∀{xs:List V} {us:List Value} (i:Nat),za xs us->za (xs.eraseIdx i) (us.eraseIdx i)
 | _,_,_, .nil=> .nil
 | _,_,0, .cons _ t=>t
 | _,_,i+1, .cons r t=> .cons r (za.eraseIdx i t)
theorem za.reverse {xs:List V} (h:za xs us):za xs.reverse us.reverse:=by
 induction h with
 | nil=>exact .nil
 | cons r t ih=>rw [List.reverse_cons,List.reverse_cons]; exact za.append ih (.cons r .nil)
section
variable {l:Addr} {xs ys zs:List V}
theorem zN.lset {its':List Value} (I:zN X pA U H s) (hH:H l=some (.lst xs))
  (e:s.heap.get? l=some {cls:= .type "list",data:= .seq pD.toArray n}) (hf:f pD.toArray=its'.toArray) (hv:za ys its') (hz:ys.length<=sizeLine):
  zN X pA U (zH H l (.lst ys)) {s with heap:=s.heap.update l (Obj.mapSeq f),toks:=t'}:=by
 have q:=PySem.IsL.update e f;rw [hf] at q;refine I.write (x:=l) (e:=l) (by rw [hH]; exact trivial) (.inl rfl) (λb' u hb hu=>(QI s.heap (Obj.mapSeq f) (Ne.symm hb)).trans hu) ⟨_,q⟩ ?_;exact ⟨hz,its',_,hv,q⟩
theorem zN.lnew (I:zN X pA U H s) (hv:za ys pD) (hz:ys.length<=sizeLine):
  zN X pA U (zH H s.heap.objs.size (.lst ys)) {s with heap:=s.heap.push {cls:= .type "list",data:= .seq pD.toArray},toks:=t'}:=
 I.laid (λ_ _ q=>qH _ q) (qG _) ⟨hz,pD,0,hv,qW _ rfl⟩
theorem zN.fresh (I:zN X pA U H s):H s.heap.objs.size=none:=I.hok.fresh (qG _)
theorem zN.lstM (I:zN X pA U H s) (hH:H l=some (.lst xs)):xs.length<=sizeLine/\∃(pD:List Value) (n:Nat),za xs pD/\xs.length=pD.length/\s.heap.get? l=some {cls:= .type "list",data:= .seq pD.toArray n}:=by
 obtain ⟨z,pD,n,r,e⟩:=I.hok l _ hH;exact ⟨z,pD,n,r,r.length,e⟩
theorem zMe (h:n<=sizeLine):Builtin.List.listTooLong n=false:=by
 unfold Builtin.List.listTooLong;exact qa (by lia)
end
def zOm:V->List V->Hp->VK->Prop:=λx vs H Q=>∃l xs y,x= .ref l/\vs=[y]/\H l=some (.lst xs)/\xs.length<sizeLine/\Q .non (zH H l (.lst (xs++[y])))
theorem yY:MtM X "list.append" zOm:=by
 intro pA s U H x vs v us Q I rx rv h;obtain ⟨l,xs,y,rfl,rfl,hH,hz,q⟩:=h;cases rx;obtain ⟨u,rfl,ru⟩:=rv.one;obtain ⟨z,pD,n,r,hl,e⟩:=I.lstM hH;refine call_meets F.slot_list_append ⟨_,e,rfl⟩ F.entry_list_append (F.args_list_append_2 _ _) (PySem.list_append l pD.toArray n u (by rw [qj]; lia)) ⟨e,?_⟩;refine ⟨.non,_,I.lset (its':=pD++[u]) hH e (by simp) (r.append (.cons ru .nil)) ?_,rfl,q⟩;rw [qJ,xH];lia
def zPB:V->List V->Hp->VK->Prop:=λx vs H Q=>∃l b xs zs,x= .ref l/\vs=[.ref b]/\H l=some (.lst xs)/\H b=some (.lst zs)/\xs.length+zs.length<=sizeLine/\Q .non (zH H l (.lst (xs++zs)))
theorem zAJ:MtM X "list.extend" zPB:=by
 intro pA s U H x vs v us Q I rx rv h;obtain ⟨l,b,xs,zs,rfl,rfl,hH,hB,hz,q⟩:=h;cases rx;obtain ⟨u,rfl,ru⟩:=rv.one;cases ru;obtain ⟨z,pD,n,r,hl,e⟩:=I.lstM hH;obtain ⟨z2,its2,n2,r2,pK,e2⟩:=I.lstM hB;have hsz:pD.toArray.size+its2.toArray.size<=sizeLine:=by rw [qj,qj]; lia
 have hlong:¬(!pD.toArray.isEmpty&&Builtin.List.listTooLong (pD.toArray.size+its2.toArray.size))=true:=by
  rw [zMe hsz,v3];exact qR
 refine call_meets F.slot_list_extend ⟨_,e,rfl⟩ F.entry_list_extend (F.args_list_extend_2 _ _)
  (AutoSeq1.list_extend_list_list_0 l pD.toArray n b its2.toArray n2 hlong (by rw [qj]; lia) (by lia)) ⟨e,e2,?_⟩
 refine ⟨.non,_,I.lset (its':=pD++its2) hH e (by simp) (r.append r2) ?_,rfl,q⟩;rw [qJ];lia
def zSe:R2:=λx y H Q=>∃l b xs zs,x= .ref l/\y= .ref b/\H l=some (.lst xs)/\H b=some (.lst zs)/\xs.length+zs.length<=sizeLine/\∀p,H p=none->Q (.ref p) (zH H p (.lst (xs++zs)))
theorem Yt:Z1 X (binaryOp .Add) zSe:=by
 intro pA s U H x y v u Q I rx ry h;obtain ⟨l,b,xs,zs,rfl,rfl,hH,hB,hz,q⟩:=h;cases rx;cases ry;obtain ⟨z,pD,n,r,hl,e⟩:=I.lstM hH;obtain ⟨z2,its2,n2,r2,pK,e2⟩:=I.lstM hB;refine PySem.P.add_list e e2 ?_ (by rw [qj,qj]; lia);have ea:pD.toArray++its2.toArray=(pD++its2).toArray:=by simp
 rw [ea];exact ⟨.ref _,_,I.lnew (t':=s.toks) (r.append r2) (by rw [qJ]; lia),rfl,q _ I.fresh⟩
set_option maxRecDepth 100000 in
section
variable [DecidableEq κ]
def ZJ (pB:List (κ×V)) (k:κ):Option V:=(pB.find? λkv=>decide (kv.1=k)).map (·.2)
def Zd (pB:List (κ×V)) (k:κ) (v:V):List (κ×V):=
 if (pB.any λkv=>decide (kv.1=k))=true then pB.map (λkv=>if kv.1=k then (kv.1,v) else kv) else pB++[(k,v)]
theorem yQ {r:List (κ×V)} {k:κ} (e:p.1=k):ZJ (p::r) k=some p.2:=by simp [ZJ,QD,e]
theorem yP {r:List (κ×V)} {k:κ} (e:¬p.1=k):ZJ (p::r) k=ZJ r k:=by simp [ZJ,QD,e]
theorem yR (k:κ):∀pB:List (κ×V),(pB.any λkv=>decide (kv.1=k))=(ZJ pB k).isSome
 | []=>rfl
 | p::r=>by
  rw [xk];by_cases e:p.1=k
  .simp only [yQ e,qK e,Bool.true_or,Option.isSome_some]
  .rw [yP e,qa e,X3]; exact yR k r
theorem zGW (k j:κ) (y:V):∀pB:List (κ×V),ZJ (pB.map λkv=>if kv.1=k then (kv.1,y) else kv) j=(ZJ pB j).map λx=>if j=k then y else x
 | []=>rfl
 | p::r=>by
  have ih:=zGW k j y r;rw [qe];by_cases h:p.1=k
  .rw [qO h]
   by_cases e:p.1=j
   .rw [yQ (p:=(p.1,y)) e,yQ e,xh,qO (e.symm.trans h)]
   .rw [yP (p:=(p.1,y)) e,yP e,ih]
  .rw [qP h]
   by_cases e:p.1=j
   .rw [yQ (p:=p) e,yQ e,xh,qP (λz=>h (e.trans z))]
   .rw [yP (p:=p) e,yP e,ih]
theorem zEo (k j:κ) (y:V):∀pB:List (κ×V),ZJ pB k=none->ZJ (pB++[(k,y)]) j=if j=k then some y else ZJ pB j
 | [],_=>by
  by_cases e:k=j
  .rw [qO e.symm]; exact yQ (p:=(k,y)) e
  .rw [qP (λz=>e z.symm)]; exact yP (p:=(k,y)) e
 | p::r,hn=>by
  rw [X6];have hk:¬p.1=k:=λz=>by rw [yQ z] at hn; cases hn
  rw [yP hk] at hn;have ih:=zEo k j y r hn;by_cases e:p.1=j
  .rw [yQ e,yQ e,qP (λz=>hk (e.trans z))]
  .rw [yP e,yP e,ih]
theorem jC (pB:List (κ×V)) (k j:κ) (y:V):ZJ (Zd pB k y) j=if j=k then some y else ZJ pB j:=by
 unfold Zd;by_cases a:(pB.any λkv=>decide (kv.1=k))=true
 .rw [qO a,zGW]
  rw [yR] at a;by_cases e:j=k
  .obtain ⟨x,hx⟩:=Option.isSome_iff_exists.mp a
   rw [qO e,e,hx,xh,qO rfl]
  .rw [qP e]
   cases ZJ pB j with
   | none=>rfl
   | some x=>rw [xh,qP e]
 .rw [qP a]
  refine zEo k j y pB ?_;rw [yR] at a;cases q:ZJ pB k with
  | none=>rfl
  | some x=>rw [q] at a; exact (a rfl).elim
theorem zCT (pB:List (κ×V)) (k:κ) (v:V):(Zd pB k v).length<=pB.length+1:=by
 unfold Zd;split
 .rw [qA]; lia
 .rw [qJ,qT,List.length_nil]; lia
theorem J2 {pB:List (κ×V)} {k:κ} (v:V) (h:ZJ pB k=none):Zd pB k v=pB++[(k,v)]:=by
 unfold Zd;rw [yR,h];exact qP (by decide)
theorem Y1.isSome_eq {u:Option Value} (r:Y1 o u):o.isSome=u.isSome:=by
 cases o with
 | none=>cases u with
  | none=>rfl
  | some _=>exact (show False from r).elim
 | some _=>cases u with
  | none=>exact (show False from r).elim
  | some _=>rfl
theorem KV.val {pB:List (κ×V)} (r:KV pB vs) (k:κ):Y1 (ZJ pB k) (valueAt vs k):=by
 unfold KV at r
 induction r with
 | nil=>exact True.intro
 | @cons p q ps qs h t ih=>
  obtain ⟨h1,h2⟩:=h;by_cases e:p.1=k
  .have e':q.1=k:=h1.symm.trans e
   have b:valueAt (q::qs) k=some q.2:=by simp [valueAt,QD,e']
   rw [yQ e,b]; exact h2
  .have e':¬q.1=k:=λz=>e (h1.trans z)
   have b:valueAt (q::qs) k=valueAt qs k:=by simp [valueAt,QD,e']
   rw [yP e,b]; exact ih
theorem KV.any {pB:List (κ×V)} (r:KV pB vs) (k:κ):(pB.any λkv=>decide (kv.1=k))=vs.any λkv=>decide (kv.1=k):=by
 unfold KV at r
 induction r with
 | nil=>rfl
 | cons h t ih=>rw [xk,xk,ih,h.1]
theorem KV.repl {pB:List (κ×V)} (r:KV pB vs) (k:κ) (ry:zp y u):
  KV (pB.map λkv=>if kv.1=k then (kv.1,y) else kv) (vs.map λkv=>if kv.1=k then (kv.1,u) else kv):=by
 unfold KV at r ⊢
 induction r with
 | nil=>exact .nil
 | @cons p q ps qs h t ih=>
  rw [qe,qe];refine .cons ?_ ih;obtain ⟨h1,h2⟩:=h;by_cases e:p.1=k
  .rw [qO e,qO (h1.symm.trans e)]; exact ⟨h1,ry⟩
  .rw [qP e,qP (λz=>e (h1.trans z))]; exact ⟨h1,h2⟩
theorem KV.put {pB:List (κ×V)} (r:KV pB vs) (k:κ) (ry:zp y u):KV (Zd pB k y) (stored vs k u):=by
 unfold Zd stored;rw [r.any k];by_cases e:(vs.any λkv=>decide (kv.1=k))=true
 .rw [qO e,qO e]; exact r.repl k ry
 .rw [qP e,qP e]; exact Paired.snoc r ⟨rfl,ry⟩
theorem KV.length {pB:List (κ×V)} (r:KV pB vs):pB.length=vs.length:=Paired.length r
end
theorem zFN {k:zZ} (r:zp (kV k) u):(Zu P w).is k u=true:=by
 cases k with
 | inl i=>obtain ⟨t,e⟩:=(show ∃t,u=Value.int i t from r); subst e; exact zGv P w i t
 | inr x=>obtain ⟨t,e⟩:=(show ∃t,u=Value.str x t from r); subst e; exact zHA P w x t
theorem zEv {P:Program} {w:World}:∀{ks:List zZ} {us:List Value},za (ks.map kV) us->ItemsAre (Zu P w) ks us
 | [],_,r=>by rw [List.map_nil] at r; cases r; exact .nil
 | k::ks,_,r=>by
  rw [qe] at r;cases r with
  | cons h t=>exact .cons (zFN h) (zEv t)
abbrev KT (H:Hp):List (List zZ×V)->List (List zZ×Addr×Value)->Prop:=Paired λp q=>p.1=q.1/\H q.2.1=some (.tup (p.1.map kV))/\zp p.2 q.2.2
theorem KT.val (r:KT H pB xs) (k:List zZ):Y1 (ZJ pB k) ((atKey xs k).map (·.2)):=by
 induction r with
 | nil=>exact True.intro
 | @cons p q ps qs h t ih=>
  obtain ⟨h1,_,h2⟩:=h;by_cases e:p.1=k
  .have e':q.1=k:=h1.symm.trans e
   have b:atKey (q::qs) k=some q.2:=by simp [atKey,QD,e']
   rw [yQ e,b]; exact h2
  .have e':¬q.1=k:=λz=>e (h1.trans z)
   have b:atKey (q::qs) k=atKey qs k:=by simp [atKey,QD,e']
   rw [yP e,b]; exact ih
theorem KT.repl (r:KT H pB xs) (k:List zZ) (ry:zp y u):
  KT H (pB.map λkv=>if kv.1=k then (kv.1,y) else kv) (xs.map (putAt k u)):=by
 induction r with
 | nil=>exact .nil
 | @cons p q ps qs h t ih=>
  rw [qe,qe];refine .cons ?_ ih;obtain ⟨h1,h2,h3⟩:=h;unfold putAt;by_cases e:p.1=k
  .rw [qO e,qO (h1.symm.trans e)]; exact ⟨h1,h2,ry⟩
  .rw [qP e,qP (λz=>e (h1.trans z))]; exact ⟨h1,h2,h3⟩
theorem KT.put (r:KT H pB xs) (k:List zZ) (hb:H b=some (.tup (k.map kV))) (ry:zp y u):
  KT H (Zd pB k y) (storedH xs k b u):=by
 have e:(pB.any λkv=>decide (kv.1=k))=(atKey xs k).isSome:=by
  rw [yR,(r.val k).isSome_eq,Xx]
 unfold Zd storedH;rw [e];by_cases q:(atKey xs k).isSome=true
 .rw [qO q,qO q]; exact r.repl k ry
 .rw [qP q,qP q]; exact Paired.snoc r ⟨rfl,hb,ry⟩
theorem KT.keeps (r:KT H pB xs) (ht:∀b ys,H b=some (.tup ys)->H' b=some (.tup ys)):KT H' pB xs:=
 Paired.mapP r λ_ _ z=>⟨z.1,ht _ _ z.2.1,z.2.2⟩
theorem zOC {u:HO} (ok:yk P w H h) (e:Rd H a u):ZH P w H h a u:=e.ok ok
theorem zDa {pB:List (zZ×V)} (ok:yk P w H h) (e:Rd H a (.dK pB)):pB.length<=sizeLine/\(a==sysModules)=false/\∃vs,KV pB vs/\h.DictOf (Zu P w) a vs:=
 show ZH P w H h a (.dK pB) from zOC ok e
theorem zRm {pB:List (zZ×V)} (ok:yk P w H h) (e:H a=some (.dK pB)):pB.length<=sizeLine/\(a==sysModules)=false/\∃vs,KV pB vs/\h.DictOf (Zu P w) a vs:=zDa ok (.inl e)
theorem zBk (ok:yk P w H h) (e:H a=some (.tup (ks.map kV))):(tupleKind (Zu P w)).is h ks a:=by
 obtain ⟨_,pD,r,o,h1,h2,n,h3⟩:=(show ZH P w H h a (.tup (ks.map kV)) from ok a _ e);exact ⟨o,pD.toArray,n,h1,h2,h3,by simpa using zEv r⟩
theorem zFP (ok:yk P w H h) (e:Rd H a (.dT pB)):pB.length<=sizeLine/\(a==sysModules)=false/\
  ∃xs,KT H pB xs/\h.DictOfH (tupleKind (Zu P w)) a xs:=by
 obtain ⟨z,y,xs,r,o,es,ep,h1,h2,h3,h4,h5⟩:=(show ZH P w H h a (.dT pB) from zOC ok e);refine ⟨z,y,xs,r,o,es,ep,h1,h2,h3,h4,λx hx=>?_,h5⟩;have all:∀{l:List (List zZ×V)} {m:List (List zZ×Addr×Value)},KT H l m->∀x∈m,(tupleKind (Zu P w)).is h x.1 x.2.1:=by
  intro l m q
  induction q with
  | nil=>intro x hx; exact nomatch hx
  | @cons p q ps qs hq t ih=>
   intro x hx;rcases List.mem_cons.mp hx with e | hx
   .subst e
    exact zBk ok (by rw [<-hq.1]; exact hq.2.1)
   .exact ih x hx
 exact all r x hx
theorem zNn (ok:yk P w H h) (e:H a=some (.dT pB)):pB.length<=sizeLine/\(a==sysModules)=false/\
  ∃xs,KT H pB xs/\h.DictOfH (tupleKind (Zu P w)) a xs:=zFP ok (.inl e)
def YX (H:Hp) (a:Addr) (y:V) (r:Option V):Prop:=
 (∃pB k,Rd H a (.dK pB)/\y=kV k/\r=ZJ pB k)\/∃pB k b,Rd H a (.dT pB)/\y= .ref b/\H b=some (.tup (k.map kV))/\r=ZJ pB k
def jp (H:Hp) (a:Addr) (y v:V) (H':Hp):Prop:=
 (∃pB k,H a=some (.dK pB)/\y=kV k/\pB.length<sizeLine/\H'=zH H a (.dK (Zd pB k v)))\/
 ∃pB k b,H a=some (.dT pB)/\y= .ref b/\H b=some (.tup (k.map kV))/\pB.length<sizeLine/\H'=zH H a (.dT (Zd pB k v))
theorem YX.t {k:List zZ} (e:H a=some (.dT pB)) (eb:H b=some (.tup (k.map kV))):YX H a (.ref b) (ZJ pB k):= .inr ⟨pB,k,b, .inl e,rfl,eb,rfl⟩
theorem jp.k {pB:List (zZ×V)} {k:zZ} (e:H a=some (.dK pB)) (hl:pB.length<sizeLine):jp H a (kV k) v (zH H a (.dK (Zd pB k v))):= .inl ⟨pB,k,e,rfl,hl,rfl⟩
theorem jp.t {k:List zZ} (e:H a=some (.dT pB)) (eb:H b=some (.tup (k.map kV))) (hl:pB.length<sizeLine):
  jp H a (.ref b) v (zH H a (.dT (Zd pB k v))):= .inr ⟨pB,k,b,e,rfl,eb,hl,rfl⟩
section
variable {r:Value}
theorem zN.big (I:zN X pA U H s):sysModules<s.heap.objs.size:=by
 have h:mainGlobals<s.heap.objs.size:=(I.mod.glob.keeps I.bk).lt;exact Xh (by decide) h
theorem zKT (hu:A.units+1<cLine) (I:zN X pA U H s) (g:YX H a y (some v)) (ry:zp y u) (h:∀w' s',zN X pA U H s'->zp v w'->Q w' s'):
  wpAny (model X.prog X.w) A (getItem (.ref a) u) Q E s:=by
 rcases g with ⟨pB,k,e,ey,l⟩ | ⟨pB,k,b,e,ey,eb,l⟩
 .subst ey
  obtain ⟨z,hd,vs,rel,dd⟩:=zDa I.hok e;obtain ⟨w',hw,rw'⟩:=Y1.some_of (v:=v) (o:=valueAt vs k) (by rw [l]; exact rel.val k);exact wpAny_getItem_of (zFN ry) dd.mapOf hw (h w' _ (I.tok _) rw')
 .subst ey
  cases (show u=Value.ref b from ry);obtain ⟨z,hd,xs,rel,dd⟩:=zFP I.hok e;obtain ⟨w',hw,rw'⟩:=Y1.some_of (v:=v) (o:=(atKey xs k).map (·.2)) (by rw [l]; exact rel.val k);obtain ⟨p,hp,hp2⟩:=Option.map_eq_some_iff.mp hw;refine wpAny_getItem_heap (vd hu) (zBk I.hok eb) dd hp ?_;rw [hp2];exact h w' _ (I.tok _) rw'
theorem zOq (hu:A.units+1<cLine) (I:zN X pA U H s) (g:YX H a y o) (ry:zp y u) (h:∀s',zN X pA U H s'->Q (.bool (!o.isSome)) s'):
  wpAny (model X.prog X.w) A (compareOp .NotIn u (.ref a)) Q E s:=by
 rcases g with ⟨pB,k,e,ey,l⟩ | ⟨pB,k,b,e,ey,eb,l⟩
 .subst ey
  obtain ⟨z,hd,vs,rel,dd⟩:=zDa I.hok e;refine wpAny_notIn_of (zFN ry) hd dd.mapOf ?_;rw [<-(rel.val k).isSome_eq,<-l];exact h _ (I.tok _)
 .subst ey
  cases (show u=Value.ref b from ry);obtain ⟨z,hd,xs,rel,dd⟩:=zFP I.hok e;refine wpAny_notIn_heap (vd hu) (zBk I.hok eb) hd dd ?_;have q:=(rel.val k).isSome_eq;rw [Xx] at q;rw [<-q,<-l];exact h _ (I.tok _)
theorem zEa {ob:HO} (I:zN X pA U H s) (mu:Mut (H a)) (hs:Heap.SameBut a s.heap h') (he:∃q,h'.get? a=some q) (new:ZH X.prog X.w (zH H a ob) h' a ob):
  zN X pA U (zH H a ob) {s with heap:=h',toks:=t'}:=
 I.write (x:=a) (e:=a) mu (.inl rfl) (λb q hb z=>(hs.2 b hb).trans z) he new
theorem zPd {pB:List (zZ×V)} {vs:List (zZ×Value)} (z:pB.length<=sizeLine) (hd:(a==sysModules)=false) (rel:KV pB vs) (dd:h'.DictOf (Zu P w) a vs):
  ZH P w H' h' a (.dK pB):=⟨z,hd,vs,rel,dd⟩
theorem zKx {Q:Unit->Shared->Prop} (hu:A.units+1<cLine) (I:zN X pA U H s) (g:jp H a y v H') (ry:zp y u) (rv:zp v r) (h:∀s',zN X pA U H' s'->Q () s'):
  wpAny (model X.prog X.w) A (setItem (.ref a) u r) Q E s:=by
 rcases g with ⟨pB,k,e,ey,l,eH⟩ | ⟨pB,k,b,e,ey,eb,l,eH⟩
 .subst ey eH
  obtain ⟨z,hd,vs,rel,dd⟩:=zRm I.hok e;have hz:vs.length<=sizeLine:=by rw [<-rel.length]; exact z
  have hl:(Zd pB k v).length<=sizeLine:=by have:=zCT pB k v; lia
  refine wpAny_setItem_pairs (hsz:=hz) (zFN ry) dd λh' dd' hs=>h _ ?_;have he:∃q,h'.get? a=some q:=let ⟨q,_,_,hq,_⟩:=dd'; ⟨q,hq⟩;exact zEa I (by rw [e]; exact True.intro) hs he (zPd hl hd (rel.put k rv) dd')
 .subst ey eH
  cases (show u=Value.ref b from ry);obtain ⟨z,hd,xs,rel,dd⟩:=zNn I.hok e;have hz:xs.length<=sizeLine:=by rw [<-Paired.length rel]; exact z
  have hl:(Zd pB k v).length<=sizeLine:=by have:=zCT pB k v; lia
  refine wpAny_setItem_heap (hsz:=hz) (vd hu) (zBk I.hok eb) dd λh' dd' hs=>h _ ?_;obtain ⟨q,es,ep,hq,h2,h3,h4,_,h5⟩:=dd';refine zEa I (by rw [e]; exact True.intro) hs ⟨q,hq⟩ ⟨hl,hd,_,(rel.put k eb rv).keeps λc ys ec=>?_,q,es,ep,hq,h2,h3,h4,h5⟩;rw [zI (zw ec e (λz=>nomatch z))];exact ec
end
section
variable {pB:List (zZ×V)} {k:zZ}
theorem zSK (I:zN X pA U H s) (e:Rd H a (.dK pB)) (h:∀t s',zN X pA U H s'->Q (.int pB.length t) s'):wpAny (model X.prog X.w) A (call (.builtin "len") [.ref a]) Q E s:=by
 obtain ⟨z,hd,vs,rel,dd⟩:=zDa I.hok e;refine call_len_dict hd dd (by rw [<-rel.length]; rw [Ql] at z; lia) ?_;rw [<-rel.length];exact h _ _ (I.tok _)
end
def zPW (i:Expr):Prop:=∀ov iv,subscripted i false ov iv=operate [ov,iv] (getItem ov iv)
theorem zOI {env:Env} {slice:Expr}
  (hl:typeLookup (.type T) "__getitem__"=pure (some (.builtin id))) (hs:zPW slice)
  (h:wpAny (model prog w) A (eval value env) (λo s₁=>wpAny (model prog w) A (eval slice env) (λi s₂=>s₂.TypeIs o T/\wpAny (model prog w) A (getItem o i) Q E s₂) E s₁) E s):
  wpAny (model prog w) A (eval (.Subscript value slice pos) env) Q E s:=by
 refine Subscript_ (xC h (λo s₁ h₁=>xC h₁ (λi s₂ h₂=>?_) λ_ _ x=>x) λ_ _ x=>x);obtain ⟨hT,h₂⟩:=h₂;unfold subscriptTail;refine qD ?_;rw [getitemInPython_of_ne hT.not_modules];refine qD (vL hT hl ?_);have fin:wpAny (model prog w) A (subscripted slice false o i) (λr s₃=>wpAny (model prog w) A (letTemporaryGo value o r >>=λ_=>pure r) Q E s₃) E s₂:=by
  rw [hs o i];exact wpAny_operating (xC h₂ (λr s₃ h₃=>qD (wpAny_letTemporaryGo (qI h₃))) λ_ _ x=>x)
 first
  | exact qI (qD fin)
  | exact qD (qI (qD fin))
  | exact qD fin
theorem zGw (I:zN X pA U H s) (g:YX H a y o):s.TypeIs (.ref a) "dict":=by
 rcases g with ⟨pB,k,e,_,_⟩ | ⟨pB,k,b,e,_,_,_⟩
 .obtain ⟨_,_,vs,_,dd⟩:=zDa I.hok e
  exact dd.typeIs
 .obtain ⟨_,_,xs,_,dd⟩:=zFP I.hok e
  exact dd.typeIs
def zSA (td ty:TE):TE:=λU H Q=>td U H λx H1=>ty U H1 λy H2=>∃a v,x= .ref a/\YX H2 a y (some v)/\Q v H2
def zOf (ty td:TE):TE:=λU H Q=>ty U H λy H1=>td U H1 λx H2=>∃a o,x= .ref a/\YX H2 a y o/\Q (.bl (!o.isSome)) H2
def zRT (td ty tv:TE):TS:=λD U H=>tv U H λv H1=>td U H1 λx H2=>ty U H2 λy H3=>∃a H4,x= .ref a/\jp H3 a y v H4/\D.nx U H4
section
variable {o i:Expr} {pos' tpos:Pos} {td ty tv:TE}
theorem Jg (hu:X.A.units+1<cLine) (ho:PE X o td) (hi:PE X i ty) (hs:zPW i):PE X (.Subscript o i pos) (zSA td ty):=by
 intro pA s U H Q I h;refine zOI PySem.F.slot_dict_getitem.lookup hs (zg (ho pA s U H _ I h) λu s1 ⟨x,H1,I1,rx,q1⟩=>zg (hi pA s1 U H1 _ I1 q1) λiv s2 ⟨y,H2,I2,ry,a,v,ex,g,q2⟩=>?_);subst ex;obtain rfl:u=Value.ref a:=rx;exact ⟨zGw I2 g,zKT hu I2 g ry λw' s3 I3 rw'=>⟨v,H2,I3,rw',q2⟩⟩
theorem JG (hu:X.A.units+1<cLine) (hi:PE X i ty) (ho:PE X o td):PC X .NotIn i o (zOf ty td):=by
 intro pA s U H Q I h;refine zg (hi pA s U H _ I h) λiv s1 ⟨y,H1,I1,ry,q1⟩=>zg (ho pA s1 U H1 _ I1 q1) λu s2 ⟨x,H2,I2,rx,a,ov,ex,g,q2⟩=>?_;subst ex;obtain rfl:u=Value.ref a:=rx;exact zOq hu I2 g ry λs3 I3=>⟨.bl (!ov.isSome),H2,I3,rfl,q2⟩
theorem j8 (hu:X.A.units+1<cLine) (ho:PE X o td) (hi:PE X i ty) (hv:PE X value tv) (hs:swapsWith value (some (.Subscript o i pos')) pos.line X.env=pure false):
  PS X (.Assign [.Subscript o i pos'] value pos) (zRT td ty tv):=by
 intro pA s U H D I h;refine wpAny_Assign_Subscript (zg (hv pA s U H _ I h) λr s1 ⟨v,H1,I1,rv,q1⟩=>zg (ho pA s1 U H1 _ I1 q1) λu s2 ⟨x,H2,I2,rx,q2⟩=>zg (hi pA s2 U H2 _ I2 q2) λiv s3 ⟨y,H3,I3,ry,a,H4,ex,g,q3⟩=>?_) hs;subst ex;obtain rfl:u=Value.ref a:=rx;exact zKx hu I3 g ry rv λs4 I4=>⟨U,H4,I4,q3⟩
end
theorem zNG (h:Heap) (hb:sysModules<h.objs.size):ZH P w H (h.push {cls:= .type "dict",data:= .dict #[]}) h.objs.size (.dK []):=
 ⟨QF _,beq_eq_false_iff_ne.mpr (Ne.symm (qb hb)),[], .nil,Heap.DictOf.new h⟩
theorem zGZ (h:Heap) (hb:sysModules<h.objs.size):ZH P w H (h.push {cls:= .type "dict",data:= .dict #[]}) h.objs.size (.dT []):=
 ⟨QF _,beq_eq_false_iff_ne.mpr (Ne.symm (qb hb)),[], .nil,_,#[],0,qW _ rfl,⟨rfl,rfl,rfl⟩,rfl,rfl,qr⟩
def zPj:TE:=λ_ H Q=>∀p,H p=none->Q (.ref p) (zH H p (.dK []))
def zPw:TE:=λ_ H Q=>∀p,H p=none->Q (.ref p) (zH H p (.dT []))
theorem zGS:PE X (.Dict [] [] pos) zPj:=λpA s U H Q I h=>
 wpAny_Dict_empty ⟨.ref s.heap.objs.size,_,I.laid (a:=s.heap.objs.size) (o:= .dK []) (t':=s.toks) (λ_ _ q=>qH _ q) (qG _) (zNG s.heap I.big),rfl,h _ (I.hok.fresh (qG _))⟩
theorem zAj:PE X (.Dict [] [] pos) zPw:=λpA s U H Q I h=>
 wpAny_Dict_empty ⟨.ref s.heap.objs.size,_,I.laid (a:=s.heap.objs.size) (o:= .dT []) (t':=s.toks) (λ_ _ q=>qH _ q) (qG _) (zGZ s.heap I.big),rfl,h _ (I.hok.fresh (qG _))⟩
section
variable {d:V} {r:Value}
end
section
variable {o f:Expr} {td ty tx:TE}
end
section
variable {pB:List (zZ×V)}
end
end L2
namespace Att
open PySem PySem.W PySem.Calls PyProof.Rows
variable {P:Params} {h:Heap} {n:Nat} {args:List WData} {vals:List Value} {prog q:Program} {loose:List Str} {XP:(Str->Option Value)->Heap->Prop} {YP:World->Heap->Prop} {d:DefRec} {w:World} {A:Around} {E:Value->Shared->Prop} {s:Shared} {K:Frag}
theorem zDX:∀(ns:List Int) (vs:List Value),WellAll P h vs (ns.map WData.int)->IntsAre vs ns:=by
 intro ns
 induction ns with
 | nil=>
  intro vs w;rw [List.map_nil] at w;cases w;exact .nil
 | cons n ns ih=>
  intro vs w;rw [qe] at w;cases w with
  | cons a b=>
   cases a;exact .cons _ _ (ih _ b)
theorem zKj {l:OpenLaw} (hn:l.most=some n)
  (hpre:l.row.toRowW.claim.pre args=true) (hwl:WellAll P h vals args):
  ∃a vs ns,vals=[Value.ref a]/\args=[WData.list (ns.map WData.int)]/\h.get? a=some {cls:= .type "list",data:= .seq vs.toArray}/\IntsAre vs ns/\ns.length<=n:=by
 have hsh:WShape.hasAll [] args [.list .int]=true:=(pre_splitW hpre).1;have hc:l.pre.holds [] {args:=args}=true:=(pre_splitW hpre).2;obtain ⟨d,r,rfl,h1,h2⟩:=hasAllW_cons hsh;obtain rfl:=hasAllW_nil h2;obtain ⟨xs,rfl,h3⟩:=hasW_list h1;obtain ⟨ns,rfl⟩:=items_int h3;have pF:ns.length<=n:=by
  unfold OpenLaw.pre at hc;have h4:(WTm.not (.lt (.lit (.int (n:Int))) (.len (.arg 0)))).holds [] {args:=[.list (ns.map .int)]}=true:=by
   have h4:=(holds_andW hc).1;rw [hn] at h4;exact h4
  have h5:=condW_of h4 (w_not (w_lt w_lit (w_len_list (w_arg rfl))));rw [qA] at h5;refine Nat.le_of_not_lt λq=>?_;have q':(n:Int)<((ns.length:Nat):Int):=by lia
  first
   | (rw [qK q'] at h5; exact v6 h5 (by decide))
   | (simp at h5; lia)
 cases hwl with
 | cons w1 w2=>
  cases w2;cases w1 with
  | list ho hall=>exact ⟨_,_,ns,rfl,rfl,ho,zDX ns _ hall,pF⟩
theorem zKL (l:OpenLaw) (args:List WData):l.row.toRowW.claim.post args (.bool true) args=true:=
 postW_of (r:=l.row.toRowW) (X:=(true==true))
  (show WShape.has [] (.bool true) .bool=true by first | rfl | decide | simp [WShape.has,WShape.arms,WShape.armsAll])
  (show (WTm.eq .res (.lit (.bool true))).value [] {args:=args,res:=some (.bool true),after:=args}=some (.bool (true==true)) from w_eq_bool (w_res rfl) w_lit) rfl
theorem zGz {l:OpenLaw}
  (hn:l.most=some n) (hdf:d.params.defaults=[])
  (call:∀(w:World) (s₀ s₁:Shared) (mg mb:Str->Option Value) (fa:Addr) (o:Obj) (pm cd doc:Value) (a:Addr) (vs:List Value) (ns:List Int),
   Ground q loose [] XP w s₀ mg mb s₁.heap->YP w s₁.heap->
   s₁.heap.get? fa=some o->o.data= .func (docDef d.name d.params d.body d.scope pm cd doc)->s₁.heap.CodeRec cd d.name->mg d.name=some (.ref fa)->
   s₁.heap.get? a=some {cls:= .type "list",data:= .seq vs.toArray}->IntsAre vs ns->ns.length<=n->s₁.gens=#[]->
   codeAny (model l.prog w) callerA (.call (.ref fa) ⟨[.ref a],[]⟩) (λr s'=>r= .ok (.ret (.bool true))/\OldK s₁.heap s'.heap/\s'.os=s₁.os/\AllBare s'.gens) s₁):
  WalkO q loose XP YP l.row.toRowW d [] (λf vs=>PySem.call f vs):=by
 intro w s₀ s₁ mg mb G Y fa o pm cd doc dV kV ho hd hcd hD hmg hg args vals as hpre hlay hrd hwl hlo;obtain rfl:dV= .none:=Dflts.none hD hdf;obtain rfl:kV= .none:=Dflts.noKw hD;obtain ⟨a,vs,ns,rfl,rfl,hobj,hints,pF⟩:=zKj hn hpre hwl;refine enter_call (Xe (call w s₀ s₁ mg mb fa o pm cd doc a vs ns G Y ho (fd_plain hd) hcd hmg hobj hints pF hg) λr s' hq=>?_);obtain ⟨rfl,h2,h3,h4⟩:=hq;exact ⟨.inl ⟨.bool true, .bool true,[],rfl,λ_=>rfl, .bool true,zKL l _,λ_=>⟨List.Pairwise.nil,λ_ hm=>(nomatch hm)⟩⟩,h2,h3,h4⟩
end Att
namespace L2
open PySem PySem.Spec PyProof.Rows
variable {P q:Program} {w:World} {K:W.Frag} {mb mg:Str->Option Value} {CX:World->CXT} {a f:Addr} {fd:FuncData} {qual x:Str} {sp:Sp} {s₁:Shared} {vs:List Value} {ns:List Int} {n:Nat} {loose ps:List Str} {XP:(Str->Option Value)->Heap->Prop} {YP:World->Heap->Prop} {d:DefRec} {X:Cx} {st:Stmt} {oc:Value} {osl:Array (Option Value)} {A B:Prop} {H:Hp} {xs:List V} {base:Heap} {κ:Type}
theorem zEf:∀{vs:List Value} {ns:List Int},IntsAre vs ns->za (ns.map V.int) vs
 | _,_, .nil=> .nil
 | _,_, .cons n t h=> .cons ⟨t,rfl⟩ (zEf h)
def zMJ (H:Hp):Prop:=∀b,H b=none\/∃o xs,H b=some (.frz o (.lst xs))
theorem zMu {CX:CXT} {k:Nat} {fa:Addr}
  (KX:K.In s₁.heap) (hns:s₁.heap.Ns mainGlobals mg) (hb:s₁.heap.Ns builtinsNs mb) (hbb:∀x:Str,x≠"__name__"->mb x=bootBuiltins x) (hlim:s₁.heap.NoLimit) (hg:s₁.gens=#[])
  (ha:s₁.heap.get? a=some {cls:= .type "list",data:= .seq vs.toArray}) (hi:IntsAre vs ns) (hl:ns.length<=sizeLine) (hr:yD k callerA)
  (F:∀base:Heap,K.In base->base.Ns mainGlobals mg->FnOk P w K mg base CX k fa fd [x] sp) (hbind:∀(s:Shared) (u:Value),BindsTo s fd ⟨[u],[]⟩ [(x,u)])
  (hsp:∀H:Hp,zMJ H->zK K H a (ns.map V.int)->sp [.ref a] H (λv _=>v= .bl true) λ_ _ _=>False)
  (hCX:∀H e s',CX [] H s₁ (λ_ _ _=>False) e s'->False):
  codeAny (model P w) callerA (.call (.ref fa) ⟨[.ref a],[]⟩) (λr s'=>r= .ok (.ret (.bool true))/\OldK s₁.heap s'.heap/\s'.os=s₁.os/\AllBare s'.gens) s₁:=by
 have rv:=zEf hi;have lenV:=hi.length;have core:∀H:Hp,zMJ H->zK K H a (ns.map V.int)->yk P w H s₁.heap->(∀b,H b≠none->b=a)->(H a≠none->K.lookup a=none)->
   codeAny (model P w) callerA (.call (.ref fa) ⟨[.ref a],[]⟩) (λr s'=>r= .ok (.ret (.bool true))/\OldK s₁.heap s'.heap/\s'.os=s₁.os/\AllBare s'.gens) s₁:=by
  intro H hO hS hok hA hK;have base_of:∀{b:Addr} {o:Obj},s₁.heap.get? b=some o->H b=none->(zBF s₁.heap H).get? b=some o:=λe n=>zMA e n;have noA:∀{b:Addr} {o:Obj} {es:Array DictEntry} {ep:Nat},s₁.heap.get? b=some o->o.data= .dict es ep->H b=none:=λ{b o es ep} e d=>by
   cases q:H b with
   | none=>rfl
   | some u=>
    have e':b=a:=hA b (by rw [q]; simp);subst e';rw [ha] at e; cases e;have d':Data.seq vs.toArray _=Data.dict es ep:=d;cases d'
  have nsK:∀{b:Addr} {m:Str->Option Value},s₁.heap.Ns b m->(zBF s₁.heap H).Ns b m:=λ{b m} ⟨o,es,ep,e,d,r⟩=>⟨o,es,ep,base_of e (noA e d),d,r⟩;have hKb:K.In (zBF s₁.heap H):=λb o e=>base_of (KX b o e) (by
   cases q:H b with
   | none=>rfl
   | some u=>
    have e':b=a:=hA b (by rw [q]; simp);subst e';rw [hK (by rw [q]; simp)] at e; cases e)
  have hM:Mod K mg (zBF s₁.heap H):=⟨hKb,nsK hns,⟨mb,nsK hb,hbb⟩,let ⟨mc,h1,h2⟩:=hlim; ⟨mc,nsK h1,h2⟩⟩;have e0:zCn P w K mg (zBF s₁.heap H) callerA [] s₁ H:=⟨rfl,hM,λb o e=>zOV e,Nat.le_of_eq (zKf _ _),trivial,λb hb=>v6 (show b∈([]:List Addr) from hb) (by simp),hok, .of_eq hg⟩;refine Xe ((F _ hKb (nsK hns)).run callerA [] s₁ H ⟨[.ref a],[]⟩ [.ref a] [.ref a] _ _ hr e0 (hbind s₁ (.ref a)) (.cons rfl .nil) (hsp H hO hS)) λr s' h=>?_;cases r with
  | error e=>exact (hCX H e s' h).elim
  | ok fl=>
   cases fl with
   | next=>exact False.elim h
   | brk=>exact False.elim h
   | cont=>exact False.elim h
   | ret u=>
    obtain ⟨v,H',os,bare,un,hok',r',q⟩:=h;have q':v= .bl true:=q;subst q';obtain rfl:u=Value.bool true:=r';refine ⟨rfl,OldK.of_keep λb o e=>?_,os,bare⟩;cases q:H b with
    | none=>exact un.keep b o e q (by intro z; exact v6 (show b∈([]:List Addr) from z) (by simp)) (by simp)
    | some u=>
     rcases hO b with z | ⟨ob,xs,z⟩
     .rw [q] at z; cases z
     .have z2:=un.frzs b ob _ z
      obtain ⟨e1,_⟩:=hok b _ z;obtain ⟨e2,_⟩:=hok' b _ z2;rw [e] at e1; cases e1;exact e2
 cases hk:K.lookup a with
 | some o=>
  have e:=KX a o hk;rw [ha] at e;cases e;refine core (λ_=>none) (λ_=> .inl rfl) (.inr ⟨_,vs.toArray,_,hk,rfl,rfl,rfl,by rw [qj,lenV]; exact hl,by simpa using rv⟩) (λb u z=>by have z':(none:Option HO)=some u:=z; cases z') (λb z=>v6 rfl z) λz=>v6 rfl z
 | none=>
  refine core (λb=>if b=a then some (.frz {cls:= .type "list",data:= .seq vs.toArray} (.lst (ns.map V.int))) else none) (λb=>?_) (.inl (.inr ⟨{cls:= .type "list",data:= .seq vs.toArray},qO rfl⟩)) (λb u z=>?_) (λb z=>?_) λ_=>hk
  .by_cases hb:b=a
   .exact .inr ⟨_,_,qO hb⟩
   .exact .inl (qP hb)
  .by_cases hb:b=a
   .have z':=(qO hb).symm.trans z
    cases z';subst hb;exact ⟨ha,by rw [qA]; exact hl,vs,_,rv,ha⟩
   .have z':=(qP hb).symm.trans z
    cases z'
  .by_cases hb:b=a
   .exact hb
   .exact v6 (qP hb) z
theorem zON {l:W.OpenLaw} {k:Nat} {K:Params->W.Frag} {sp:World->Sp}
  (hn:l.most=some n) (hn2:n<=sizeLine) (hdf:d.params.defaults=[]) (hr:yD k callerA)
  (hY:∀(w:World) (h:Heap),YP w h->(K w.params).In h)
  (F:∀(w:World) (mg:Str->Option Value) (fa:Addr) (h:Heap),(K w.params).In h->h.Ns mainGlobals mg->mg d.name=some (.ref fa)->
   ∃fd:FuncData,(∀(s:Shared) (u:Value),BindsTo s fd ⟨[u],[]⟩ [(x,u)])/\
    ∀base:Heap,(K w.params).In base->base.Ns mainGlobals mg->FnOk l.prog w (K w.params) mg base (CX w) k fa fd [x] (sp w))
  (hsp:∀(w:World) (H:Hp) (a:Addr) (ns:List Int),ns.length<=n->zMJ H->zK (K w.params) H a (ns.map V.int)->sp w [.ref a] H (λv _=>v= .bl true) λ_ _ _=>False)
  (hCX:∀(w:World) (H:Hp) (s:Shared) (e:Value) (s':Shared),CX w [] H s (λ_ _ _=>False) e s'->False):
  W.WalkO q loose XP YP l.row.toRowW d [] (λf vs=>PySem.call f vs):=by
 refine Att.zGz hn hdf λw s₀ s₁ mg mb fa o pm cd doc a vs ns G Y ho hd hcd hmg hobj hints pF hg=>?_;have KX:=hY w _ Y;obtain ⟨fd,hb,hF⟩:=F w mg fa _ KX G.T.g hmg;exact zMu KX G.T.g G.T.b G.T.builtins G.T.nolimit hg hobj hints (qQ pF hn2) hr hF hb (λH hO hS=>hsp w H a ns pF hO hS) λH e s'=>hCX w H s₁ e s'
def ZL (s:Stmt) (j:Nat):Stmt:=match s with
 | .ClassDef _ _ _ body _ _ _ _ _ _ _=>body.getD j (.Pass ⟨0,0,0,0⟩)
 | _=> .Pass ⟨0,0,0,0⟩
def Z6 (s:Stmt):Arguments:=match s with
 | .FunctionDef _ a _ _ _ _ _ _ _ _=>a
 | _=>{posonlyargs:=[],args:=[],vararg:=none,kwonlyargs:=[],kw_defaults:=[],kwarg:=none,defaults:=[]}
def Zz (s:Stmt):List Stmt:=match s with
 | .FunctionDef _ _ b _ _ _ _ _ _ _=>b
 | _=>[]
def Za (s:Stmt):Scope:=match s with
 | .FunctionDef _ _ _ _ _ _ sc _ _ _=>sc
 | _=>{kind:= .function,names:=[],isGenerator:=false,isCoroutine:=false}
abbrev zU:CXT:=λ_ _ _ _ _ _=>False
abbrev E0:XK:=λ_ _ _=>False
theorem ze:JH zU X E0:=λ_ _ _ _ _ _ _ h=>h.elim
structure Zv (K:W.Frag) (x qual:Str) (st:Stmt) (f:Addr) (fd:FuncData):Prop where
 ex:∃(oc:Value) (od:Option Addr) (kV doc pm:Value) (an:Option Addr) (cdv ct:Value) (osl:Array (Option Value)),
  fd=W.fnOf x qual (Z6 st) (Zz st) (Za st) .none kV doc pm an cdv ct/\K.lookup f=some ⟨oc,od, .func fd,osl⟩/\W.codeIn K cdv qual=true
 kp:W.keepIn K (.ref f)=true
theorem Zv.ok {N:List Str} {k:Nat} (F:Zv K x qual st f fd) (S:jv N ps (Za st)) (len:∀vs H Q E,sp vs H Q E->vs.length=ps.length)
  (hbody:∀(cdv:Value) (A:Around) (outer:List Env) (s:Shared) (H:Hp) (vs:List V) (Q:VK) (E:XK),yD k (A.deeper (envOfC qual (Za st) s.heap.objs.size f cdv))->sp vs H Q E->
   ∃t,JK (zES zU P w K mg base N qual (Za st) f cdv A outer s H E).nox (Zz st) t/\t {nx:=λ_ H'=>Q .non H',rt:=Q} (start N vs) H):FnOk P w K mg base zU (k+1) f fd ps sp:=by
 obtain ⟨oc,od,kV,doc,pm,an,cdv,ct,osl,rfl,lk,hcd⟩:=F.ex;refine zRo lk hcd S len λA outer s H vs Q E hr hsp=>?_;obtain ⟨t,h,q⟩:=hbody cdv A outer s H vs Q E hr hsp;exact ⟨t,h.nox,q⟩
theorem Zv.binds (F:Zv K x qual st f fd)
  (h:∀(kV doc pm:Value) (an:Option Addr) (cdv ct:Value) (us:List Value),us.length=ps.length->bindArgs (W.fnOf x qual (Z6 st) (Zz st) (Za st) .none kV doc pm an cdv ct) ⟨us,[]⟩=pure (ps.zip us)):zX K fd ps []:=by
 obtain ⟨oc,od,kV,doc,pm,an,cdv,ct,osl,rfl,lk,hcd⟩:=F.ex;exact .all (h kV doc pm an cdv ct)
theorem zKM {od an:Option Addr} {kV doc pm cdv ct:Value} (l:K.lookup f=some ⟨oc,od, .func (W.fnOf x qual (Z6 st) (Zz st) (Za st) .none kV doc pm an cdv ct),osl⟩)
  (c:W.codeIn K cdv qual=true) (k:W.keepIn K (.ref f)=true):Zv K x qual st f (W.fnOf x qual (Z6 st) (Zz st) (Za st) .none kV doc pm an cdv ct):=⟨⟨oc,od,kV,doc,pm,an,cdv,ct,osl,rfl,l,c⟩,k⟩
theorem zAD {A:Around} {k:Nat} (hr:yD k A):A.units+1<cLine:=Qq (Nat.add_le_add_left (by decide:1<=64) _) hr.units
theorem Zb (h:n<=1000):n<sizeLine:=Qq h (by decide)
theorem pv (i:Nat) {pos:Pos} (hN:X.N[i]?=some x:=by rfl) (hv:Vis X.env.scope x:=by first | exact Or.inl rfl | exact Or.inr (Or.inl rfl) | exact Or.inr (Or.inr rfl)) (hd:(x==("__debug__":Str))=false:=by decide)
  (hcd:(x==("__classdict__":Str))=false:=by decide):PE X (.Name x pos) (zNQ i):=zQE hN hv hd hcd
theorem zKq:yh X (.builtin "len") (λxs H Q=>∃a pB,xs=[V.ref a]/\H a=some (.dK pB)/\Q (.int pB.length) H):=by
 intro pA s U H xs us Q I r h;obtain ⟨a,pB,rfl,ha,q⟩:=h;obtain ⟨u,rfl,ru⟩:=zAu r;cases ru;exact zSK I (.inl ha) λt s' I'=>⟨.int pB.length,H,I',⟨t,rfl⟩,q⟩
theorem ZG (h:B):if false=true then A else B:=by
 rw [qP qR];exact h
theorem Yu (h:A):if true=true then A else B:=by
 rw [qO rfl];exact h
theorem zr {c:Prop} [Decidable c] (h1:c->A) (h2:¬c->B):if c then A else B:=by
 by_cases h:c
 .rw [qO h]
  exact h1 h
 .rw [qP h]
  exact h2 h
def zE (H H':Hp):Prop:=∀b o,H b=some o->H' b=some o
theorem zE.trans {H1 H2:Hp} (a:zE H H1) (b:zE H1 H2):zE H H2:=λc o h=>b c o (a c o h)
theorem zE.seq {H':Hp} (e:zE H H') (h:zK K H a xs):zK K H' a xs:=by
 rcases h with (h | ⟨o,h⟩) | h
 .exact .inl (.inl (e _ _ h))
 .exact .inl (.inr ⟨o,e _ _ h⟩)
 .exact .inr h
section
variable [DecidableEq κ]
end
end L2
set_option maxHeartbeats 4000000
namespace L2
open PySem PySem.Spec PyProof.Rows
variable {sc scope:Scope} {y:Str} {c:Addr} {fp:List Addr} {h' h1:Heap} {m:Str->Option Value} {s s':Shared} {U U':St} {H H':Hp} {X:Cx} {P:Program} {w:World} {K:W.Frag} {elt iter tg:Expr} {ifs:List Expr} {pos:Pos} {tn:Nat->Heap->Prop} {g:TG} {tc:TT} {te:TE} {Q:Hp->Prop} {R:Result->Shared->Prop} {wi:TI} {pA:List (Addr×Obj)} {xs:List Str}
def YS (cells:List (Str×Addr)):List (Str×NameKind)->List (Str×Addr)->List (Str×Addr)
 | [],cs=>cs
 | (n,k)::r,cs=>if (k==NameKind.free)=true then YS cells r ((n,(cells.lookup n).getD 0)::cs) else YS cells r cs
theorem zBq {cells:List (Str×Addr)}:∀{names:List (Str×NameKind)} {cs:List (Str×Addr)},(∀x∈names,x.2= .free->∃c,cells.lookup x.1=some c)->(∀p∈cs,cells.lookup p.1=some p.2)->
  ∀p∈YS cells names cs,cells.lookup p.1=some p.2
 | [],_,_,h,p,hp=>h p hp
 | (n,k)::r,cs,hn,h,p,hp=>by
  unfold YS at hp;have hr:∀x∈r,x.2= .free->∃c,cells.lookup x.1=some c:=λx hx=>hn x (qF _ hx);by_cases hk:(k==NameKind.free)=true
  .rw [qO hk] at hp
   refine zBq hr (λq hq=>?_) p hp;rcases List.mem_cons.mp hq with e | hq
   .obtain ⟨c,hc⟩:=hn (n,k) qE (by simpa using hk)
    have hc':cells.lookup n=some c:=hc;subst e;show cells.lookup n=some ((cells.lookup n).getD 0);rw [hc']; rfl
   .exact h q hq
  .rw [qP hk] at hp
   exact zBq hr h p hp
theorem zAR {cells:List (Str×Addr)} {p:Str×Addr}:∀{names:List (Str×NameKind)} {cs:List (Str×Addr)},p∈cs->p∈YS cells names cs
 | [],_,h=>h
 | (n,k)::r,cs,h=>by
  unfold YS;split
  .exact zAR (qF _ h)
  .exact zAR h
theorem zAC {cells:List (Str×Addr)} {x:Str}:∀{names:List (Str×NameKind)} {cs:List (Str×Addr)},(x,NameKind.free)∈names->∃c,(x,c)∈YS cells names cs
 | [],_,h=>nomatch h
 | (n,k)::r,cs,h=>by
  unfold YS;rcases List.mem_cons.mp h with e | h
  .cases e
   rw [qO (show (NameKind.free==NameKind.free)=true from rfl)];exact ⟨_,zAR qE⟩
  .split
   .exact zAC h
   .exact zAC h
theorem JM {α β:Type} [BEq α] [LawfulBEq α] {x:α} {c:β}:∀{l:List (α×β)},(x,c)∈l->∃d,l.lookup x=some d
 | [],h=>nomatch h
 | (y,d)::r,h=>by
  rw [XB];cases e:x==y with
  | true=>exact ⟨d,rfl⟩
  | false=>
   rcases List.mem_cons.mp h with z | h
   .cases z; rw [QN] at e; cases e
   .exact JM h
theorem zCa {env:Env} (h:∀x∈scope.names,x.2= .free->∃c,env.cells.lookup x.1=some c):closureFor scope env=pure (YS env.cells scope.names []):=by
 have key:∀(names:List (Str×NameKind)) (cs:List (Str×Addr)),(∀x∈names,x.2= .free->∃c,env.cells.lookup x.1=some c)->
   (forIn names cs λx r=>if (x.2==NameKind.free)=true then (do let c <-cellOf env x.1; pure (ForInStep.yield ((x.1,c)::r))) else pure (ForInStep.yield r):Sem (List (Str×Addr)))=pure (YS env.cells names cs):=by
  intro names
  induction names with
  | nil=>intro cs _; rfl
  | cons x r ih=>
   intro cs hn;obtain ⟨n,k⟩:=x;rw [List.forIn_cons];unfold YS;have hr:∀x∈r,x.2= .free->∃c,env.cells.lookup x.1=some c:=λx hx=>hn x (qF _ hx);by_cases hk:(k==NameKind.free)=true
   .obtain ⟨c,hc⟩:=hn (n,k) qE (by simpa using hk)
    have hc':env.cells.lookup n=some c:=hc;have e:cellOf env n=pure c:=by unfold cellOf; rw [hc']
    dsimp only;rw [qO hk,qO hk,e,pure_bind,pure_bind,hc'];exact ih _ hr
   .dsimp only
    rw [qP hk,qP hk,pure_bind];exact ih _ hr
 have e:=key scope.names [] h;simp only [closureFor,bind_pure];exact e
theorem Yv {env:Env} {x:Str}:∀(names:List (Str×NameKind)),
  (names.map λ(n,k)=>if (k==NameKind.free&&env.scope.kind== .function&&env.kindOf n==some .cell) then (n,NameKind.cell) else (n,k)).lookup x=
   (names.lookup x).map λk=>if (k==NameKind.free&&env.scope.kind== .function&&env.kindOf x==some .cell) then NameKind.cell else k
 | []=>rfl
 | (n,k)::r=>by
  have ih:=Yv (env:=env) (x:=x) r;show List.lookup x ((if (k==NameKind.free&&env.scope.kind== .function&&env.kindOf n==some .cell)=true then (n,NameKind.cell) else (n,k))::_)=_;cases hx:x==n with
  | true=>
   have e:x=n:=eq_of_beq hx;subst e;by_cases hc:(k==NameKind.free&&env.scope.kind== .function&&env.kindOf x==some .cell)=true
   .rw [qO hc]; simp only [XB,hx,xh,hc,vz]
   .rw [qP hc]; simp only [XB,hx,xh,hc]; rfl
  | false=>
   by_cases hc:(k==NameKind.free&&env.scope.kind== .function&&env.kindOf n==some .cell)=true
   .rw [qO hc]; simp only [XB,hx]; exact ih
   .rw [qP hc]; simp only [XB,hx]; exact ih
def hid (xs:List Str) (y:Str):Str:=if xs.contains y then y++("#":Str) else y
def zAQ (xs N:List Str):List Str:=xs++N.map (hid xs)
structure Zt (X:Cx) (xs:List Str) (sc:Scope):Prop where
 kind:sc.kind= .function
 nocell:∀y∈sc.names,y.2≠ .cell
 locs:∀y∈sc.names,y.2= .local->sc.names.lookup y.1=some .local
 own:∀y∈sc.names,y.2= .local->y.1∈xs\/y.1=(".0":Str)
 free:∀y∈sc.names,y.2= .free->X.env.kindOf y.1=some .cell\/X.env.kindOf y.1=some .free
 nohid:∀y∈X.N,sc.names.lookup (y++("#":Str))=none
 nodot:(".0":Str)∉X.N
def ja (X:Cx) (pA:List (Addr×Obj)) (xs:List Str) (sc:Scope) (C:Addr) (fp:List Addr) (s3:Shared) (H3:Hp):Cx where
 prog:=X.prog
 w:=X.w
 K:=X.K
 mg:=X.mg
 base:=X.base
 A:=X.A
 N:=zAQ xs X.N
 s₀:=s3
 H₀:=H3
 env:=compEnvC sc (YS X.env.cells sc.names []) C X.env
 outer:=X.stack
 stack:=X.stack
 ex:=fp
 fn:=λ_=>false
 calm:=true
 pn:=X.pn++pA
 xe:=λ_ _=>False
def zCl (xs:List Str) (U:St):St:=List.replicate xs.length none++U
theorem yF {α β:Type} [BEq α] [LawfulBEq α] {x:α} {c:β}:∀{l:List (α×β)},l.lookup x=some c->(x,c)∈l
 | [],h=>nomatch h
 | (y,d)::r,h=>by
  rw [XB] at h;cases e:x==y with
  | true=>rw [e] at h; cases h; rw [eq_of_beq e]; exact qE
  | false=>rw [e] at h; exact qF _ (yF h)
theorem Zt.cells (B:Zt X xs sc) (ok:X.Ok):∀y∈sc.names,y.2= .free->∃c,X.env.cells.lookup y.1=some c:=λy hy e=>ok.has y.1 (B.free y hy e)
theorem Zt.sub (B:Zt X xs sc) (ok:X.Ok) (h:(YS X.env.cells sc.names []).lookup y=some c):X.env.cells.lookup y=some c:=
 zBq (cells:=X.env.cells) (names:=sc.names) (cs:=[]) (B.cells ok) (λp hp=>nomatch hp) (y,c) (yF h)
theorem Zt.kindF (B:Zt X xs sc) (h:Vis (relabel sc X.env) y):sc.names.lookup y=some .local\/sc.names.lookup y=some .free:=by
 have e:(relabel sc X.env).names.lookup y=(sc.names.lookup y).map _:=Yv (env:=X.env) (x:=y) sc.names;cases q:sc.names.lookup y with
 | none=>
  rw [q] at e;rcases h with h | h | h <;> rw [e] at h <;> cases h
 | some k=>
  cases k with
  | «local»=>exact .inl rfl
  | free=>exact .inr rfl
  | cell=>exact v6 rfl (B.nocell _ (yF q))
  | globalImplicit=>rw [q] at e; rcases h with h | h | h <;> rw [e] at h <;> cases h
  | globalExplicit=>rw [q] at e; rcases h with h | h | h <;> rw [e] at h <;> cases h
theorem Zt.kindC (B:Zt X xs sc) (h:sc.names.lookup y=some .free):(relabel sc X.env).names.lookup y=some .cell\/(relabel sc X.env).names.lookup y=some .free:=by
 have e:(relabel sc X.env).names.lookup y=(sc.names.lookup y).map _:=Yv (env:=X.env) (x:=y) sc.names;rw [h] at e;by_cases hc:((NameKind.free==NameKind.free)&&X.env.scope.kind== .function&&X.env.kindOf y==some .cell)=true
 .left; rw [e]; show some (if _ then _ else _)=_; rw [qO hc]
 .right; rw [e]; show some (if _ then _ else _)=_; rw [qP hc]
theorem Zt.ofC (B:Zt X xs sc) (h:(relabel sc X.env).names.lookup y=some .cell\/(relabel sc X.env).names.lookup y=some .free):sc.names.lookup y=some .free:=by
 have v:Vis (relabel sc X.env) y:= .inr h;rcases B.kindF v with q | q
 .have e:(relabel sc X.env).names.lookup y=(sc.names.lookup y).map _:=Yv (env:=X.env) (x:=y) sc.names
  rw [q] at e;rcases h with h | h <;> rw [e] at h <;> cases h
 .exact q
theorem zKs {tk:Nat} (pG:X.calm=true) (B:Zt X xs sc) (I:zN X pA U H s) (hf:∀b∈fp,JN X pA H b) (hfl:∀b∈fp,b<s.heap.objs.size)
  (hn:h1.Ns (s.heap.objs.size+1) m) (hk:∀b o,(s.heap.push {cls:= .type "list",data:= .seq ([]:List Value).toArray}).get? b=some o->h1.get? b=some o):
  zN (ja X pA xs sc (s.heap.objs.size+1) fp {s with heap:=s.heap.push {cls:= .type "list",data:= .seq ([]:List Value).toArray}} (zH H s.heap.objs.size (.lst []))) [] (zCl xs U)
   (zH H s.heap.objs.size (.lst [])) {s with heap:=h1,toks:=tk}:=by
 have hsz:(s.heap.push {cls:= .type "list",data:= .seq ([]:List Value).toArray}).objs.size=s.heap.objs.size+1:=Qi ..;have lt:∀b o,s.heap.get? b=some o->b<s.heap.objs.size:=λb o e=>qV e;have updF:∀b,b<s.heap.objs.size->zH H s.heap.objs.size (.lst []) b=H b:=λb hb=>zI (qb hb);have cl:∀x c,X.env.cells.lookup x=some c->c<s.heap.objs.size:=λx c e=>by obtain ⟨v,q⟩:=I.cell x c e; exact q.lt
 have frlt:∀b∈jT X.stack,b<s.heap.objs.size:=λb hb=>by
  rcases List.mem_cons.mp (I.stkSub b hb) with e | z
  .rw [e]; exact I.lt
  .exact Nat.lt_of_not_le λz'=>I.nofs z' z
 have pushK:∀b o,s.heap.get? b=some o->(s.heap.push {cls:= .type "list",data:= .seq ([]:List Value).toArray}).get? b=some o:=λb o e=>qH _ e;have hk0:∀b o,s.heap.get? b=some o->h1.get? b=some o:=λb o e=>hk b o (pushK b o e);have fresh:∀b,s.heap.objs.size<=b->H b=none:=λb hb=>I.hok.fresh hb;refine ⟨⟨I.ok.mod,B.kind,I.ok.glob,I.ok.blt,?_,λx y c h1 h2=>?_,λx hx=>?_,λx c hx=>?_,λ_=>I.ok.hd pG,I.ok.frames, .inl rfl,λb hb=>⟨?_,λx c e=>?_⟩,λb o e=>⟨?_,?_⟩,?_,λb o e hb=>?_,λb hb hfr=>?_,?_,λb hb=>?_⟩,
  rfl,I.bare,Un.kept hk,⟨m,hn,λi x v e1 e2 e3=>?_⟩,λx c e=>?_,?_,λx c e=>?_,λp hp=>?_,?_,?_⟩
 .show (s.heap.push {cls:= .type "list",data:= .seq ([]:List Value).toArray}).objs.size<=s.heap.objs.size+1
  rw [hsz]; exact qG _
 .exact I.ok.inj x y c (B.sub I.ok h1) (B.sub I.ok h2)
 .have q:=B.ofC (y:=x) hx
  obtain ⟨c,hc⟩:=zAC (cells:=X.env.cells) (cs:=[]) (yF q);exact JM hc
 .exact v6 hx (by show ¬(false=true); decide)
 .exact qb (QG (hfl b hb))
 .exact (hf b hb).2.2.2.2.1 x c (B.sub I.ok e)
 .exact pushK b o (I.bk b o e)
 .show zH H s.heap.objs.size (.lst []) b=none
  rw [updF b (lt b o (I.bk b o e))]; exact (I.bs b o e).2
 .show X.base.objs.size<=(s.heap.push {cls:= .type "list",data:= .seq ([]:List Value).toArray}).objs.size
  rw [hsz]; exact Xy (qQ I.ok.bsz I.sz)
 .rcases (hf b hb).2.2.2.1 with z | z
  .exact I.ok.noex b o e z
  .have:=qV e
   exact v6 (qd this (qQ I.ok.bsz z)) (QQ _)
 .rcases List.mem_cons.mp (I.stkSub b hfr) with e | z
  .exact (hf b hb).2.1 e
  .exact (hf b hb).2.2.1 z
 .exact Heap.FunFrames.of_keeps (λb o e _=>⟨o,pushK b o e,rfl⟩) I.stack
 .show zH H s.heap.objs.size (.lst []) b=none
  rw [updF b (frlt b hb)]; exact I.stkFree b hb
 .have hi:xs.length<=i:=by
   rcases xN i xs.length with z | z
   .unfold zCl at e2
    rw [QM (by simpa using z),List.getElem?_replicate,qO z] at e2;cases e2
   .exact z
  have e2':U[i - xs.length]?=some (some v):=by
   unfold zCl at e2;rw [q8 (by simpa using hi),vC] at e2;exact e2
  have e1':(X.N.map (hid xs))[i - xs.length]?=some x:=by
   have q:(zAQ xs X.N)[i]?=some x:=e1;unfold zAQ at q;rw [q8 hi] at q;exact q
  rw [qM] at e1';cases eN:X.N[i - xs.length]? with
  | none=>rw [eN] at e1'; cases e1'
  | some y=>
   rw [eN] at e1';have ey:hid xs y=x:=Option.some.inj e1';have hy:y∈X.N:=qp eN;have kf:=B.kindF (y:=x) e3;unfold hid at ey;by_cases hc:xs.contains y=true
   .rw [qO hc] at ey
    rw [<-ey,B.nohid y hy] at kf;rcases kf with z | z <;> cases z
   .rw [qP hc] at ey
    subst ey;rcases kf with z | z
    .rcases B.own (y, .local) (yF z) rfl with q | q
     .exact v6 (List.contains_iff_mem.mpr q) hc
     .exact v6 (show (".0":Str)∈X.N from q▸hy) B.nodot
    .have kk:=B.free (y, .free) (yF z) rfl
     obtain ⟨m0,hn0,hl0⟩:=I.loc;obtain ⟨u,ru,lk⟩:=hl0 _ y v eN e2' (.inr kk);refine ⟨u,ru,?_⟩;rcases lk with ⟨kl,_⟩ | ⟨_,c,ec,zc⟩
     .rcases kk with kk | kk
      .rw [show X.env.kindOf y=some .local from kl] at kk; cases kk
      .rw [show X.env.kindOf y=some .local from kl] at kk; cases kk
     .obtain ⟨c1,hc1⟩:=zAC (cells:=X.env.cells) (cs:=[]) (yF z)
      obtain ⟨c2,hc2⟩:=JM hc1;have hc3:=B.sub I.ok hc2;rw [ec] at hc3;cases hc3;obtain ⟨oc,hoc,hdc⟩:=zc;exact .inr ⟨B.kindC z,c,hc2,oc,hk0 c oc hoc,hdc⟩
 .obtain ⟨v,oc,hoc,hdc⟩:=I.cell x c (B.sub I.ok e)
  exact ⟨v,oc,hk0 c oc hoc,hdc⟩
 .show zH H s.heap.objs.size (.lst []) (s.heap.objs.size+1)=none
  rw [zI (Nat.succ_ne_self _)]; exact fresh _ (xM _)
 .have e':=B.sub I.ok e
  rw [updF c (cl x c e')]; exact I.freeC x c e'
 .have hp':p∈X.pn++pA:=by
   rcases List.mem_append.mp hp with z | z
   .exact z
   .exact nomatch z
  obtain ⟨q1,q2,q3,q4,q5⟩:=I.pin p hp';refine ⟨hk0 _ _ q1,by rw [updF _ (lt _ _ q1)]; exact q2,?_,λz=>?_,q5⟩
  .exact qb (QG (lt _ _ q1))
  .rcases List.mem_cons.mp (I.stkSub _ z) with e | z
   .exact q3 e
   .exact q4 z
 .refine I.hok.laid hk0 (qG _) ?_
  exact ⟨QF _,[],0, .nil,hk _ _ (qW _ rfl)⟩
 .show (zCl xs U).length=(zAQ xs X.N).length
  unfold zCl zAQ;rw [qJ,qJ,vC,qA,I.len]
theorem zOQ (I:zN X pA U H s) (hf:∀b∈fp,JN X pA H b)
  (J:zN (ja X pA xs sc (s.heap.objs.size+1) fp {s with heap:=s.heap.push {cls:= .type "list",data:= .seq ([]:List Value).toArray}} (zH H s.heap.objs.size (.lst []))) [] U' H' s'):
  zN X pA U H' s':=by
 have u1:Un (jT X.stack) fp H (zH H s.heap.objs.size (.lst [])) s.heap (s.heap.push {cls:= .type "list",data:= .seq ([]:List Value).toArray}):=
  Un.laid (λb o e=>qH _ e) (qG _) (I.hok.fresh (qG _))
 have u2:Un (jT X.stack) fp (zH H s.heap.objs.size (.lst [])) H' (s.heap.push {cls:= .type "list",data:= .seq ([]:List Value).toArray}) s'.heap:=J.base;exact I.call' (s':=s') (ch:=fp) J.os (u1.trans u2) J.hok J.bare λb hb=>⟨(hf b hb).2.2.2.1,(hf b hb).2.1,(hf b hb).2.2.2.2.1,(hf b hb).2.2.2.2.2⟩
theorem zMj {fp:List Addr} {s' s'':Shared} {U' U2:St} {H' H2:Hp} (I:zN X pA U H s)
  (hC:H2 (s.heap.objs.size+1)=none) (I2:zN X pA U2 H2 s'') (hs:Heap.SameBut (s.heap.objs.size+1) s''.heap h'):zN X pA U2 H2 {s'' with heap:=h'}:=by
 have hL:s.heap.objs.size+1≠X.env.locals:=XA (QG I.lt);refine I2.turned (t':=s''.toks) (it:=s.heap.objs.size+1) (λb o hb e=>(hs.2 b hb).trans e) hC hL (.inr (Xy I.sz)) (λx c e=>?_) λp hp=>?_
 .obtain ⟨v,q⟩:=I.cell x c e
  exact qb (QG q.lt)
 .exact qb (QG (qV (I.pin p hp).1))
def PIf (X:Cx) (ifs:List Expr) (t:TT):Prop:=
 ∀(pA:List (Addr×Obj)) (s:Shared) (U:St) (H:Hp) (Q:Bool->Hp->Prop),zN X pA U H s->t U H Q->
  wpAny (model X.prog X.w) X.A (forIn ifs true λc r=>if r=true then do let ok <-isTrue c X.env (eval c X.env); pure (ForInStep.yield ok) else pure (ForInStep.yield r)) (TP X pA U Q) X.xe s
def zDK:TT:=λ_ H Q=>Q true H
theorem yN:PIf X [] zDK:=λ_ _ _ H _ I h=>wpAny_tests_nil ⟨H,I,h⟩
theorem Zg {c:Expr} {t:TT} (h:PT X c t):PIf X [c] t:=λpA s U H Q I q=>wpAny_tests_one (h pA s U H Q I q)
def YM (J:It) (g:TG) (tc:TT) (te:TE) (D:Addr) (Q:Hp->Prop) (U:St) (H:Hp):Prop:=
 ∃Z:Nat->Nat->St->Hp->Prop,(∃m,Z 0 m U H)/\∀i m U H,Z i m U H->
  (J.stop i H/\Q H)\/(J.go i H/\∃N:St->Hp->Prop,(∀U' H',N U' H'->∃m',m'<m/\Z (i+1) m' U' H')/\∀x H',J.yld i H x H'->g x U H' λU2 H2=>tc U2 H2 λb H3=>
   if b=true then te U2 H3 λv H4=>∃ys,H4 D=some (.lst ys)/\ys.length<sizeLine/\N U2 (zH H4 D (.lst (ys++[v]))) else N U2 H3)
theorem zKH {Y:Cx} (hP:Y.prog=P) (hw:Y.w=w) (hK:Y.K=K) {J:It} {it D:Addr}
  
  (pG:Y.calm=true) (hx:Y.xe=λ_ _=>False) (T:zAn P w K tg J fp it tn) (hg:PG Y tg g) (hc:PIf Y ifs tc) (he:PE Y elt te) (I:zN Y [] U H s) (st:tn 0 s.heap) (hf:∀b∈fp,JN Y [] H b) (h:YM J g tc te D Q U H)
  (hR:∀U' H' s',zN Y [] U' H' s'->Q H'->R (.ok .next) s'):
  codeAny (model P w) Y.A (.compLoop (.ListComp elt [⟨tg,iter,ifs,0⟩] scope pos) 0 (.ref it) (.ref D) Y.env) R s:=by
 subst hP hw hK;obtain ⟨Z,⟨m0,w0⟩,turn⟩:=h;have stat:∀{H':Hp},(∀b∈fp,H' b=none)->∀b∈fp,JN Y [] H' b:=λhn b hb=>⟨hn b hb,(hf b hb).2⟩;have no:∀{α:Type} {t:Sem α} {Qa:α->Shared->Prop} {E:Value->Shared->Prop} {s:Shared},wpAny (model Y.prog Y.w) Y.A t Qa Y.xe s->wpAny (model Y.prog Y.w) Y.A t Qa E s:=λz=>xC z (λ_ _ q=>q) λ_ _ q=>by rw [hx] at q; exact q.elim
 refine codeAny_loop rfl (λn s'=>∃i U' H',zN Y [] U' H' s'/\tn i s'.heap/\(∀b∈fp,H' b=none)/\Z i n U' H') ?_ m0 ⟨0,U,H,I,st,λb hb=>(hf b hb).1,w0⟩;rintro n s3 ⟨i,U3,H3,I3,st3,fr3,w3⟩;show wpAny _ Y.A ((compTurn (.ListComp elt [⟨tg,iter,ifs,0⟩] scope pos) 0 (.ref it) (.ref D) Y.env).onRaise (λx=>do noteFrame x Y.env; theTreesLotGoes x)) _ _ s3;refine wpAny_noted ?_;rw [compTurn_list];refine qD (wpAny_standAt (qD ?_));rcases turn i n U3 H3 w3 with ⟨stop,qn⟩ | ⟨go,N,hN,step⟩
 .refine xC (T.done Y rfl rfl rfl pG i [] s3 U3 H3 _ I3 (stat fr3) st3 stop) (λr s4 ⟨hr,I4⟩=>?_) λ_ _ q=>q
  subst hr;exact qI (hR U3 H3 s4 I4 qn)
 .refine xC (T.item Y rfl rfl rfl pG i [] s3 U3 H3 _ I3 (stat fr3) st3 go) (λr s4 ⟨u,hr,h4⟩=>?_) λ_ _ q=>q
  subst hr;refine qD (xC h4 (λ_ s5 ⟨x,H5,I5,r5,y5,st5,fr5⟩=>?_) λ_ _ q=>q);have I5':=I5.pinned (stat fr5) (T.obj _ _ st5);have again:∀{s7:Shared} {U7:St} {H7:Hp},zN Y ([]++zBN fp s5.heap) U7 H7 s7->N U7 H7->∃m,m<n/\∃i U' H',zN Y [] U' H' s7/\tn i s7.heap/\(∀b∈fp,H' b=none)/\Z i m U' H':=λ{s7 U7 H7} I7 n7=>by
   obtain ⟨m',hm,w7⟩:=hN U7 H7 n7;refine ⟨m',hm,i+1,U7,H7,I7.unpinned,T.keep _ _ _ st5 λb hb o e=>(I7.pin (b,o) (qS _ (qS _ (JZ hb e)))).1,λb hb=>?_,w7⟩;obtain ⟨o,e,d⟩:=T.obj _ _ st5 b hb;exact (I7.pin (b,o) (qS _ (qS _ (JZ hb e)))).2.1
  refine qD (no (zg (hg _ s5 U3 H5 x u _ I5' r5 (step x H5 y5)) λ_ s6 ⟨U6,H6,I6,q6⟩=>?_));refine qD (no (zg (hc _ s6 U6 H6 _ I6 q6) λok s7 ⟨H7,I7,q7⟩=>?_));cases ok with
  | false=>exact qI ⟨rfl,again I7 q7⟩
  | true=>
   refine qD (qD (no (zg (he _ s7 U6 H7 _ I7 q7) λv s8 ⟨y,H8,I8,r8,ys,eD,hz,n8⟩=>?_)));refine qD (no (zg (yY _ s8 U6 H8 (.ref D) [y] (.ref D) [v] (λ_ H9=>N U6 H9) I8 rfl (.cons r8 .nil) ⟨D,ys,y,rfl,rfl,eD,hz,n8⟩) λ_ s9 ⟨_,H9,I9,_,n9⟩=>?_));exact qI (qI ⟨rfl,again I9 n9⟩)
def zNz (xs:List Str) (wi:TI) (g:TG) (tc:TT) (te:TE):TE:=λU H Q=>wi U H λJ H1=>∀D,H1 D=none->YM J g tc te D (λH'=>Q (.ref D) H') (zCl xs U) (zH H1 D (.lst []))
theorem zEy {tg iter elt:Expr} {ifs:List Expr} {sc:Scope} {pos pos':Pos} {xs:List Str} {wi:TI} {g:TG} {tc:TT} {te:TE} {use:Option (Value->Sem Unit)} (pG:X.calm=true) (B:Zt X xs sc) (hi:PI X tg iter wi)
  (hb:∀pA C fp s3 H3,PG (ja X pA xs sc C fp s3 H3) tg g/\PIf (ja X pA xs sc C fp s3 H3) ifs tc/\PE (ja X pA xs sc C fp s3 H3) elt te)
  {pA:List (Addr×Obj)} {s:Shared} {U:St} {H:Hp} {Q:Value->Shared->Prop} {QA:Addr->Hp->Prop} (I:zN X pA U H s) (h:wi U H λJ H1=>∀D,H1 D=none->YM J g tc te D (QA D) (zCl xs U) (zH H1 D (.lst [])))
  (fin:∀C D H' s' m,s'.heap.Ns C m->H' C=none->zN X pA U H' s'->QA D H'->(∀U2 H2 s2 h2,zN X pA U2 H2 s2->H2 C=none->Heap.SameBut C s2.heap h2->zN X pA U2 H2 {s2 with heap:=h2})->C≠X.env.locals->(∀x c,X.env.cells.lookup x=some c->c≠C)->
   match use with
   | none=>∀h',Heap.SameBut C s'.heap h'->Q (.ref D) {s' with heap:=h'}
   | some u=>wpAny (model X.prog X.w) X.A (u (.ref D)) (λ_ s''=>∃m,s''.heap.Ns C m/\∀h',Heap.SameBut C s''.heap h'->Q .none {s'' with heap:=h'}) X.xe s')
  (hs:∀x,foldedSetIterable iter X.env x=pure x:=by intro _; rfl):
  wpAny (model X.prog X.w) X.A (comprehension (.ListComp elt [⟨tg,iter,ifs,0⟩] sc pos) sc X.env pos' (newList []) false (eval iter X.env) use) Q X.xe s:=by
 refine wpAny_comprehension_free (cl:=YS X.env.cells sc.names []) (use:=use) rfl hs (zCa (B.cells I.ok)) B.kind B.locs
  (zg (hi pA s U H _ I h) λv s1 h1=>zg h1 λitv s2 h2=>?_)
 obtain ⟨it,fp,tn,J,H2,e,I2,T,st2,f2,tr⟩:=h2;subst e;have hfl:∀b∈fp,b<s2.heap.objs.size:=λb hb=>by obtain ⟨o,e,_⟩:=T.obj _ _ st2 b hb; exact qV e
 have hD:H2 s2.heap.objs.size=none:=I2.hok.fresh (qG _);refine Qd (wpAny_newFunctionEnv B.nocell (by intro y hy; simp at hy) (λh1 hns hsb=>?_) B.kind);have hsz:(s2.heap.push {cls:= .type "list",data:= .seq ([]:List Value).toArray}).objs.size=s2.heap.objs.size+1:=Qi ..;dsimp only at hns hsb ⊢;rw [hsz] at hns hsb ⊢;have hk:∀b o,(s2.heap.push {cls:= .type "list",data:= .seq ([]:List Value).toArray}).get? b=some o->h1.get? b=some o:=λb o e=>
  (hsb.2 b (qb (by have:=qV e; rw [hsz] at this; exact this))).trans (qH _ e)
 have J0:=zKs (tk:=s2.toks+([]:List (Str×Value)).length) pG B I2 f2 hfl hns hk;have st3:tn 0 h1:=T.keep _ _ _ st2 λb _ o e=>hk b o (qH _ e);have fY:∀b∈fp,JN (ja X pA xs sc (s2.heap.objs.size+1) fp {s2 with heap:=s2.heap.push {cls:= .type "list",data:= .seq ([]:List Value).toArray}} (zH H2 s2.heap.objs.size (.lst []))) [] (zH H2 s2.heap.objs.size (.lst [])) b:=λb hb=>by
  obtain ⟨q1,q2,q3,q4,q5,q6⟩:=f2 b hb;refine ⟨by rw [zI (qb (hfl b hb))]; exact q1,qb (QG (hfl b hb)),λz=>?_, .inl hb,λx c e=>q5 x c (B.sub I2.ok e),λp hp=>?_⟩
  .rcases List.mem_cons.mp (I2.stkSub _ z) with e | z
   .exact q2 e
   .exact q3 z
  .rcases List.mem_append.mp hp with z | z
   .exact q6 p z
   .exact nomatch z
 have loop:∀(RR:Result->Shared->Prop),(∀U' H' s',zN (ja X pA xs sc (s2.heap.objs.size+1) fp {s2 with heap:=s2.heap.push {cls:= .type "list",data:= .seq ([]:List Value).toArray}} (zH H2 s2.heap.objs.size (.lst []))) [] U' H' s'->QA s2.heap.objs.size H'->RR (.ok .next) s')->
   codeAny (model X.prog X.w) X.A (.compLoop (.ListComp elt [⟨tg,iter,ifs,0⟩] sc pos) 0 (.ref it) (.ref s2.heap.objs.size) (compEnvC sc (YS X.env.cells sc.names []) (s2.heap.objs.size+1) X.env)) RR
    {s2 with heap:=h1,toks:=s2.toks+([]:List (Str×Value)).length}:=λRR hR=>
  zKH (Y:=ja X pA xs sc (s2.heap.objs.size+1) fp {s2 with heap:=s2.heap.push {cls:= .type "list",data:= .seq ([]:List Value).toArray}} (zH H2 s2.heap.objs.size (.lst []))) rfl rfl rfl rfl rfl T (hb _ _ _ _ _).1 (hb _ _ _ _ _).2.1 (hb _ _ _ _ _).2.2 J0 st3 fY (tr _ hD) hR
 refine codeAny_compStart_list (loop _ ?_) (T.self _ 0 _ _ _ st3 (loop _ ?_))
 all_goals
  intro U' H' s' J' q';have I':=zOQ (sc:=sc) I2 f2 J';obtain ⟨m,hm,_⟩:=J'.loc;have hC:H' (s2.heap.objs.size+1)=none:=J'.free;have z:=fin (s2.heap.objs.size+1) s2.heap.objs.size H' s' m hm hC I' q' (λU3 H3 s3 h3 I3 c3 sb=>zMj (fp:=fp) (s':=s') (U':=U') (H':=H') I2 c3 I3 sb) (XA (QG I2.lt))
   (λx c e=>by obtain ⟨v,q⟩:=I2.cell x c e; exact qb (QG q.lt))
  cases use with
  | none=>exact ⟨m,hm,λh' sb=>z h' sb⟩
  | some u=>exact z
theorem ZR (xs:List Str) (pG:X.calm=true) (B:Zt X xs sc) (hi:PI X tg iter wi)
  (hb:∀pA C fp s3 H3,PG (ja X pA xs sc C fp s3 H3) tg g/\PIf (ja X pA xs sc C fp s3 H3) ifs tc/\PE (ja X pA xs sc C fp s3 H3) elt te) (hs:∀x,foldedSetIterable iter X.env x=pure x:=by intro _; rfl):
  PE X (.ListComp elt [⟨tg,iter,ifs,0⟩] sc pos) (zNz xs wi g tc te):=by
 intro pA s U H Q I h;rw [eval_ListComp];exact zEy (use:=none) (Q:=EP X pA U Q) (QA:=λD H'=>Q (.ref D) H') pG B hi hb I h (λC D H' s' m _ hC I' q back _ _ h' sb=>⟨.ref D,H',back U H' s' h' I' hC sb,rfl,q⟩) hs
theorem jS {spos py:Pos} (xs:List Str) {j:Nat} (pG:X.calm=true) (B:Zt X xs sc) (hi:PI X tg iter wi)
  (hb:∀pA C fp s3 H3,PG (ja X pA xs sc C fp s3 H3) tg g/\PIf (ja X pA xs sc C fp s3 H3) ifs tc/\PE (ja X pA xs sc C fp s3 H3) elt te)
  (hN:X.N.Nodup) (hj:X.N[j]?=some y) (hy:Loc X.env.scope y) (hsw:swapsWith (.ListComp elt [⟨tg,iter,ifs,0⟩] sc pos) (some (.Name y py)) spos.line X.env=pure true)
  (hfn:X.fn y=true\/X.env.scope.names.lookup y=some .local:=by first | exact .inl rfl | exact .inr rfl | assumption) (hs:∀x,foldedSetIterable iter X.env x=pure x:=by intro _; rfl):
  PS X (.Assign [.Name y py] (.ListComp elt [⟨tg,iter,ifs,0⟩] sc pos) spos) (zIo (zNz xs wi g tc te) (ZW j)):=by
 intro pA s U H D I h;rw [exec_Assign_Name_used _ _ _ _ hsw];refine qD (wpAny_standAt (qD ?_));show wpAny _ X.A (do let _ <-comprehension (.ListComp elt [⟨tg,iter,ifs,0⟩] sc pos) sc X.env _ (newList []) false (eval iter X.env) (some (assign (.Name y py) X.env))) _ _ s;refine qD (xC (zEy (use:=some (assign (.Name y py) X.env)) (Q:=λ_ s'=>SP X pA D .next s') (QA:=λDa H'=>D.nx (U.set j (some (.ref Da))) H') pG B hi hb I h (λC Da H' s' m hm hC I' q back hCL hCc=>?_) hs) (λ_ s' hq=>qI (qI hq)) λ_ _ e=>e);refine wpAny_assign_Name (zEe I' hN hj hy (v:= .ref Da) rfl (λs2 I2 ⟨a,sb,ha⟩=>?_) hfn);have hne:C≠a:=by
  rcases ha with z | z
  .rw [z]; exact hCL
  .exact λe=>hCc _ _ z e.symm
 exact ⟨m,hm.sameBut sb hne,λh' sb'=>⟨_,H',back _ H' s2 h' I2 hC sb',q⟩⟩
end L2
namespace L2
open PySem PySem.Spec PyProof.Rows PySem.SeqAt
variable {xs ys:List Int} {us:List Value} {a b d:Addr} {A:Around} {u:Value} {α κ:Type} {ep n:Nat} {pA:List (Addr×Obj)} {U:St} {H:Hp} {s:Shared} {E:Value->Shared->Prop} {e tg:Expr} {pB:List (zZ×V)} {vs:List (κ×Value)} {P:Program} {w:World} {h:Heap} {o:Obj} {es0:Array DictEntry} {K:W.Frag} {X:Cx}
inductive Ym (K:W.Frag) (H:Hp):Nat->V->V->Bool->Prop where
 | int {n:Nat} (i j:Int):Ym K H n (.int i) (.int j) (i==j)
 | bl {n:Nat} (i j:Bool):Ym K H n (.bl i) (.bl j) (i==j)
 | str {n:Nat} (i j:Str):Ym K H n (.str i) (.str j) (i==j)
 | same {n:Nat} (a:Addr):Ym K H n (.ref a) (.ref a) true
 | non {n:Nat}:Ym K H n .non .non true
 | lst {n:Nat} {a b:Addr} {xs ys:List V} {e:Nat->Bool} (ne:a≠b) (h1:zK K H a xs) (h2:zK K H b ys) (hl:xs.length=ys.length)
   (he:∀(j:Nat) (x y:V),xs[j]?=some x->ys[j]?=some y->Ym K H n x y (e j)):Ym K H (n+1) (.ref a) (.ref b) ((List.range xs.length).all e)
 | lstN {n:Nat} {a b:Addr} {xs ys:List V} (ne:a≠b) (h1:zK K H a xs) (h2:zK K H b ys) (hl:xs.length≠ys.length):Ym K H (n+1) (.ref a) (.ref b) false
 | tup {n:Nat} {a b:Addr} {xs ys:List V} {e:Nat->Bool} (ne:a≠b) (h1:ZD K H a xs) (h2:ZD K H b ys) (hl:xs.length=ys.length)
   (he:∀(j:Nat) (x y:V),xs[j]?=some x->ys[j]?=some y->Ym K H n x y (e j)):Ym K H (n+1) (.ref a) (.ref b) ((List.range xs.length).all e)
theorem jN {xs:List V} (r:za xs us) {j:Nat} (h:j<us.toArray.size):∃x,xs[j]?=some x/\zp x us.toArray[j]:=by
 have hl:=r.length;have hj:j<xs.length:=by rw [hl]; simpa using h
 obtain ⟨u,hu,ru⟩:=r.get (qB hj);have e:us.toArray[j]=u:=by
  have:us[j]?=some us.toArray[j]:=by simp
  rw [this] at hu; exact Option.some.inj hu
 exact ⟨xs[j],qB hj,by rw [e]; exact ru⟩
theorem Ym.at (I:zN X pA U H s):∀{n:Nat} {x y:V} {b:Bool},Ym X.K H n x y b->∀{A:Around} {u v:Value},A.units+n<cLine->zp x u->zp y v->EqAt A s u v b:=by
 intro n x y b h
 induction h with
 | int i j=>intro A u v _ ru rv; obtain ⟨t,rfl⟩:=ru; obtain ⟨t',rfl⟩:=rv; exact EqAt.int_int _ _ _ _
 | bl i j=>intro A u v _ ru rv; cases ru; cases rv; exact EqAt.bool_bool _ _
 | str i j=>intro A u v _ ru rv; obtain ⟨t,rfl⟩:=ru; obtain ⟨t',rfl⟩:=rv; exact EqAt.str_str _ _ _ _
 | same a=>intro A u v _ ru rv; cases ru; cases rv; exact EqAt.same _
 | non=>intro A u v _ ru rv; cases ru; cases rv; exact EqAt.same _
 | @lst n a b xs ys e ne h1 h2 hl he ih=>
  intro A u v hu ru rv;cases ru; cases rv;obtain ⟨i1,r1,p1,_⟩:=I.list h1;obtain ⟨i2,r2,p2,_⟩:=I.list h2;have e1:xs.length=i1.toArray.size:=by rw [r1.length]; simp
  have e2:ys.length=i2.toArray.size:=by rw [r2.length]; simp
  rw [e1];refine EqAt.of_refs ne (RcAt.lists p1.isList p2.isList (by lia) (by lia) λj k1 k2=>?_);obtain ⟨x,hx,rx⟩:=jN r1 k1;obtain ⟨y,hy,ry⟩:=jN r2 k2;exact ih j x y hx hy (by show A.units+1+n<cLine; lia) rx ry
 | @lstN n a b xs ys ne h1 h2 hl=>
  intro A u v hu ru rv;cases ru; cases rv;obtain ⟨i1,r1,p1,_⟩:=I.list h1;obtain ⟨i2,r2,p2,_⟩:=I.list h2;refine EqAt.of_refs ne (RcAt.lists_lengths p1.isList p2.isList ?_ (by lia));have e1:xs.length=i1.toArray.size:=by rw [r1.length]; simp
  have e2:ys.length=i2.toArray.size:=by rw [r2.length]; simp
  exact bne_iff_ne.mpr (by lia)
 | @tup n a b xs ys e ne h1 h2 hl he ih=>
  intro A u v hu ru rv;cases ru; cases rv;obtain ⟨i1,r1,p1,_⟩:=I.tuple h1;obtain ⟨i2,r2,p2,_⟩:=I.tuple h2;have e1:xs.length=i1.toArray.size:=by rw [r1.length]; simp
  have e2:ys.length=i2.toArray.size:=by rw [r2.length]; simp
  have q:=RcAt.tuples (A:=A) (e:=e) p1 p2 (by lia) λj k1 k2=>by
   obtain ⟨x,hx,rx⟩:=jN r1 k1;obtain ⟨y,hy,ry⟩:=jN r2 k2;exact ih j x y hx hy (by show A.units+1+n<cLine; lia) rx ry
  have ez:i1.toArray.size=i2.toArray.size:=by lia
  rw [ez,Nat.min_self,QN,xn,<-ez,<-e1] at q;exact EqAt.of_refs ne q
inductive Y7 (K:W.Frag) (H:Hp):V->V->Bool->Prop where
 | lst {a b:Addr} {xs ys:List V} {e:Nat->Bool} (h1:zK K H a xs) (h2:zK K H b ys) (hl:xs.length=ys.length)
   (he:∀(j:Nat) (x y:V),xs[j]?=some x->ys[j]?=some y->Ym K H 4 x y (e j)):Y7 K H (.ref a) (.ref b) ((List.range xs.length).all e)
 | lstN {a b:Addr} {xs ys:List V} (h1:zK K H a xs) (h2:zK K H b ys) (hl:xs.length≠ys.length):Y7 K H (.ref a) (.ref b) false
 | tup {a b:Addr} {xs ys:List V} {e:Nat->Bool} (h1:ZD K H a xs) (h2:ZD K H b ys) (hl:xs.length=ys.length)
   (he:∀(j:Nat) (x y:V),xs[j]?=some x->ys[j]?=some y->Ym K H 4 x y (e j)):Y7 K H (.ref a) (.ref b) ((List.range xs.length).all e)
theorem Y7.at (I:zN X pA U H s) {x y:V} {b:Bool} (h:Y7 X.K H x y b) {v:Value} (hu:A.units+8<cLine) (ru:zp x u) (rv:zp y v):RcAt A s u v b/\RcNeAt A s u v (!b):=by
 cases h with
 | @lst a b xs ys e h1 h2 hl he=>
  cases ru; cases rv;obtain ⟨i1,r1,p1,_⟩:=I.list h1;obtain ⟨i2,r2,p2,_⟩:=I.list h2;have e1:xs.length=i1.toArray.size:=by rw [r1.length]; simp
  have e2:ys.length=i2.toArray.size:=by rw [r2.length]; simp
  have el:∀j (k1:j<i1.toArray.size) (k2:j<i2.toArray.size),EqAt A.in1 s i1.toArray[j] i2.toArray[j] (e j):=λj k1 k2=>by
   obtain ⟨x,hx,rx⟩:=jN r1 k1;obtain ⟨y,hy,ry⟩:=jN r2 k2;exact (he j x y hx hy).at I (by show A.units+1+4<cLine; lia) rx ry
  rw [e1];exact ⟨RcAt.lists p1.isList p2.isList (by lia) (by lia) el,RcNeAt.lists p1.isList p2.isList (by lia) (by lia) el⟩
 | @lstN a b xs ys h1 h2 hl=>
  cases ru; cases rv;obtain ⟨i1,r1,p1,_⟩:=I.list h1;obtain ⟨i2,r2,p2,_⟩:=I.list h2;have e1:xs.length=i1.toArray.size:=by rw [r1.length]; simp
  have e2:ys.length=i2.toArray.size:=by rw [r2.length]; simp
  have q:(i1.toArray.size !=i2.toArray.size)=true:=bne_iff_ne.mpr (by lia);exact ⟨RcAt.lists_lengths p1.isList p2.isList q (by lia),RcNeAt.lists_lengths p1.isList p2.isList q (by lia)⟩
 | @tup a b xs ys e h1 h2 hl he=>
  cases ru; cases rv;obtain ⟨i1,r1,p1,_⟩:=I.tuple h1;obtain ⟨i2,r2,p2,_⟩:=I.tuple h2;have e1:xs.length=i1.toArray.size:=by rw [r1.length]; simp
  have e2:ys.length=i2.toArray.size:=by rw [r2.length]; simp
  have el:∀j (k1:j<i1.toArray.size) (k2:j<i2.toArray.size),EqAt A.in1 s i1.toArray[j] i2.toArray[j] (e j):=λj k1 k2=>by
   obtain ⟨x,hx,rx⟩:=jN r1 k1;obtain ⟨y,hy,ry⟩:=jN r2 k2;exact (he j x y hx hy).at I (by show A.units+1+4<cLine; lia) rx ry
  have ez:i1.toArray.size=i2.toArray.size:=by lia
  have q1:=RcAt.tuples (A:=A) (e:=e) p1 p2 (by lia) el;have q2:=RcNeAt.tuples (A:=A) (e:=e) p1 p2 (by lia) el;rw [ez,Nat.min_self,QN,xn,<-ez,<-e1] at q1 q2;exact ⟨q1,q2⟩
def zPO (K:W.Frag):R2:=λx y H Q=>∃b,Y7 K H x y b/\Q (.bl b) H
def zMU (K:W.Frag):R2:=λx y H Q=>∃b,Y7 K H x y b/\Q (.bl (!b)) H
theorem zAc (hu:X.A.units+64<cLine):Z1 X (compareOp .Eq) (zPO X.K):=by
 intro pA s U H x y v u Q I rx ry ⟨b,h,q⟩;exact (h.at I (by lia) rx ry).1 _ _ _ _ ⟨.bl b,H,I,rfl,q⟩
theorem Z3 (hu:X.A.units+64<cLine):Z1 X (compareOp .NotEq) (zMU X.K):=by
 intro pA s U H x y v u Q I rx ry ⟨b,h,q⟩;exact (h.at I (by lia) rx ry).2 _ _ _ _ ⟨.bl (!b),H,I,rfl,q⟩
theorem J5 [BEq α] [LawfulBEq α]:∀{xs ys:List α},xs.length=ys.length->(List.range xs.length).all (λj=>xs[j]?==ys[j]?)=(xs==ys):=by
 intro xs ys hl;rw [qu,xE,Xo];constructor
 .intro h
  refine List.ext_getElem? λj=>?_;by_cases hj:j<xs.length
  .exact eq_of_beq (h j (List.mem_range.mpr hj))
  .rw [Qj (by lia),Qj (by lia)]
 .intro h j _
  rw [h]; exact QN _
theorem zBK:∀(j:Nat) (x y:V),(xs.map V.int)[j]?=some x->(ys.map V.int)[j]?=some y->Ym K H n x y (xs[j]?==ys[j]?):=by
 intro j x y hx hy;rw [qM] at hx hy;cases ex:xs[j]? with
 | none=>rw [ex] at hx; cases hx
 | some i=>
  cases ey:ys[j]? with
  | none=>rw [ey] at hy; cases hy
  | some k=>
   rw [ex] at hx; rw [ey] at hy; cases hx; cases hy;have e:(some i==some k)=(i==k):=by rfl
   rw [e];exact Ym.int i k
theorem zCq (ne:a≠b) (h1:zK K H a (xs.map V.int)) (h2:zK K H b (ys.map V.int)):Ym K H (n+1) (.ref a) (.ref b) (xs==ys):=by
 by_cases hl:xs.length=ys.length
 .have q:=Ym.lst (n:=n) (e:=λj=>xs[j]?==ys[j]?) ne h1 h2 (by simpa using hl) zBK
  rw [qA,J5 hl] at q;exact q
 .have e:(xs==ys)=false:=by rw [beq_eq_false_iff_ne]; intro e; exact hl (by rw [e])
  rw [e];exact Ym.lstN ne h1 h2 (by simpa using hl)
theorem jF (h1:zK K H a (xs.map V.int)) (h2:zK K H b (ys.map V.int)):Y7 K H (.ref a) (.ref b) (xs==ys):=by
 by_cases hl:xs.length=ys.length
 .have q:=Y7.lst (e:=λj=>xs[j]?==ys[j]?) h1 h2 (by simpa using hl) zBK
  rw [qA,J5 hl] at q;exact q
 .have e:(xs==ys)=false:=by rw [beq_eq_false_iff_ne]; intro e; exact hl (by rw [e])
  rw [e];exact Y7.lstN h1 h2 (by simpa using hl)
theorem jq {xs:List V} (h1:zK K H a xs) (h2:zK K H b []):Y7 K H (.ref a) (.ref b) xs.isEmpty:=by
 cases xs with
 | nil=>exact Y7.lst (e:=λ_=>true) h1 h2 rfl (λj x y hx=>nomatch hx)
 | cons x r=>exact Y7.lstN h1 h2 (by simp)
def zSc (K:W.Frag) (T:String):List V->Hp->VK->Prop:=λvs H Q=>∃x t b,vs=[x, .ty T]/\ju K H x t/\W.kitOne K t (.type T)=some b/\Q (.bl b) H
theorem Ju (T:String):yh X (.builtin "isinstance") (zSc X.K T):=by
 intro pA s U H xs us Q I r h;obtain ⟨x,t,b,rfl,ty,e,q⟩:=h;obtain ⟨u,v,rfl,ru,rv⟩:=r.two;cases rv;exact zJt I ru ty e λtk=>⟨.bl b,H,I.tok tk,rfl,q⟩
theorem zMG {Q:VK} {lo hi:Int} {t u v:Tok} {tk:Nat} (pG:X.calm=true) (I:zN X pA U H s) (h1: -(2^20)<=lo) (h2:lo<2^20) (h3: -(2^20)<=hi) (h4:hi<2^20)
  (q:∀p,H p=none->Q (.ref p) (zH H p (.lst ((List.range (hi - lo).toNat).map λi:Nat=>V.int (lo+i))))):
  wpAny (model X.prog X.w) X.A (call (.type "list") [.ref s.heap.objs.size]) (EP X pA U Q) E {s with heap:=s.heap.push {cls:= .type "range",data:= .fields #[.int lo t, .int hi u, .int 1 v]},toks:=tk}:=by
 have I1:zN X pA U H {s with heap:=s.heap.push {cls:= .type "range",data:= .fields #[.int lo t, .int hi u, .int 1 v]},toks:=tk}:=I.kept λb o e=>qH _ e;refine call_list_range (n:=(hi - lo).toNat) (I.ok.hd pG) (IsRange.new ..) (small_one (by lia) (by lia) (by lia) (by lia)) (by rw [rangeSize_one]; split <;> lia) (by lia) λh' tk' acc' c' hk hS hacc=>?_;refine ⟨.ref _,_,I1.laid (t':=tk') hk (qG _) (show ZH X.prog X.w _ h' _ (.lst ((List.range (hi - lo).toNat).map λi:Nat=>V.int (lo+i))) from ⟨?_,acc'.toList,c',?_,by simpa using hS⟩),rfl,q _ (I1.hok.fresh (qG _))⟩
 .rw [qA,QB]
  exact qQ (show (hi - lo).toNat<=2^22 by lia) (by decide)
 .have key:∀(n:Nat) (us:List Value) (f:Nat->Int),us.length=n->(∀(j:Nat) (u:Value),us[j]?=some u->∃t,u=Value.int (f j) t)->za ((List.range n).map λi:Nat=>V.int (f i)) us:=by
   intro n
   induction n with
   | zero=>intro us f hl _; have:us=[]:=Qy hl; subst this; exact .nil
   | succ n ih=>
    intro us f hl hu;cases us with
    | nil=>cases hl
    | cons u0 r=>
     rw [XR,qe,qo];refine .cons (hu 0 u0 rfl) ?_;exact ih r (λi=>f (i+1)) (by simpa using hl) λj w hw=>hu (j+1) w (by simpa using hw)
  refine key _ _ (λi=>lo+i) (by rw [qc]; exact hacc.1) λj w hw=>?_;obtain ⟨t,e⟩:=hacc.2 j w (by rw [<-Qc]; exact hw);exact ⟨t,by rw [e,Int.mul_one]⟩
def zRa (ta:TA) (lo:List V->Option (Int×Int)):TE:=λU H Q=>ta U H λvs H1=>∃i j,lo vs=some (i,j)/\(-(2^20)<=i/\i<2^20/\ -(2^20)<=j/\j<2^20)/\∀p,H1 p=none->Q (.ref p) (zH H1 p (.lst ((List.range (j - i).toNat).map λk:Nat=>V.int (i+k))))
def rg1:List V->Option (Int×Int)
 | [.int j]=>some (0,j)
 | _=>none
theorem zEH {a:Expr} {ta:TA} {p pos p' pos':Pos} (pG:X.calm=true) (hg:Gl X "range") (hm:X.mg "range"=none) (hg':Gl X "list") (hm':X.mg "list"=none) (ha:PA X [a] ta) (hs:starEach [a] X.env=[(false,eval a X.env)]:=by rfl)
  (hs':starEach [.Call (.Name "range" p) [a] [] pos] X.env=[(false,eval (.Call (.Name "range" p) [a] [] pos) X.env)]:=by rfl):
  PE X (.Call (.Name "list" p') [.Call (.Name "range" p) [a] [] pos] [] pos') (zRa ta rg1):=by
 intro pA s U H Q I h;refine Call_ (yZ I hg' hm' boot_list (QE ?_ hs' rfl));rw [hs'];show wpAny _ _ (spliced ((false,eval (.Call (.Name "range" p) [a] [] pos) X.env)::[])) _ _ s;refine xZ (Call_ (yZ I hg hm boot_range (QE (zg (ha pos pA s U H _ I h) λus s1 ⟨vs,H1,I1,r1,q1⟩=>?_) hs rfl)));obtain ⟨i,j,e,⟨q1,q2,q3,q4⟩,q⟩:=q1;cases r1 with
 | nil=>cases e
 | @cons x u xs us r rr=>
  cases rr with
  | cons _ _=>cases x <;> cases e
  | nil=>
   cases x with
   | int k=>
    cases e;obtain ⟨t,rfl⟩:=r;exact call_range_1 (xq (zMG pG I1 q1 q2 q3 q4 q))
   | _=>cases e
theorem ye:∀{ns:List Int} {us:List Value},za (ns.map V.int) us->IntsAre us ns
 | [],_, .nil=> .nil
 | n::r,_, .cons h t=>by obtain ⟨k,rfl⟩:=h; exact .cons n k (ye t)
theorem jd:∀{us:List Value} {ns:List Int},IntsAre us ns->za (ns.map V.int) us
 | _,_, .nil=> .nil
 | _,_, .cons n t h=> .cons ⟨t,rfl⟩ (jd h)
def zHh (K:W.Frag):List V->Hp->VK->Prop:=λvs H Q=>∃(p:Addr) (ns:List Int),vs=[.ref p]/\zK K H p (ns.map V.int)/\ns.length<64/\∀(l:Addr) (ns':List Int),H l=none->ns'.Perm ns->ns'.Pairwise (·<=·)->Q (.ref l) (zH H l (.lst (ns'.map V.int)))
theorem Ye:yh X (.builtin "sorted") (zHh X.K):=by
 intro pA s U H xs us Q I r h;obtain ⟨p,ns,rfl,hq,h64,q⟩:=h;obtain ⟨u,rfl,ru⟩:=r.one;cases ru;obtain ⟨pD,rv,pl,hz⟩:=I.list hq;have hl:=rv.length;rw [qA] at hl;refine sorted_ints (vs:=pD) pl.isList (ye rv) (by lia) λout ns' a1 a2 a3=>?_;obtain ⟨e,he⟩:=sortedAll_at s.heap pD out;have pF:ns'.length=ns.length:=a2.length_eq;refine ⟨.ref _,_,I.laid (t':=s.toks) (λ_ _=>sortedAll_old) (xM _) (show ZH X.prog X.w _ _ _ (.lst (ns'.map V.int)) from ⟨?_,out.toList,e,jd a1,by simpa using he⟩),rfl,q _ ns' (I.hok.fresh (xM _)) a2 a3⟩;rw [qA,pF];exact qQ (qf h64) (by decide)
theorem zN.ghost {H':Hp} (I:zN X pA U H s) (hd:∃o,H d=some o/\(∀xs,o≠ .tup xs)/\(∀ps,o≠ .tbl ps)/\∀y,o≠ .own y) (he:∀b,b≠d->H' b=H b) (hfz:∀o u,X.H₀ d=some (.frz o u)->H' d=some (.frz o u))
  (hn:∃o,H' d=some o/\(∀y,o≠ .own y)/\ZH X.prog X.w H' s.heap d o):zN X pA U H' s:=by
 obtain ⟨o,ho,n1,n2,n3⟩:=hd;obtain ⟨o',ho',n3',ok'⟩:=hn;have ne:∀b,H b=none->b≠d:=λb hb z=>by rw [z,ho] at hb; cases hb
 refine ⟨I.ok,I.os,I.bare,⟨I.base.keep,I.base.slot,λb ob e n hx=>?_,I.base.there,λb xs e=>?_,λb ob u e=>?_,λb ps e=>?_⟩,I.loc,I.cell,?_,λx c e=>?_,λp hp=>?_,λb u e=>?_,I.len⟩
 .have q:=I.base.free b ob e n hx
  rw [he b (ne b q)]; exact q
 .have q:=I.base.tups b xs e
  have hb:b≠d:=λz=>by rw [z,ho] at q; exact n1 xs (Option.some.inj q)
  rw [he b hb]; exact q
 .by_cases hb:b=d
  .rw [hb] at e ⊢; exact hfz ob u e
  .rw [he b hb]; exact I.base.frzs b ob u e
 .obtain ⟨m,q⟩:=I.base.tbls b ps e
  have hb:b≠d:=λz=>by rw [z,ho] at q; exact n2 _ (Option.some.inj q)
  exact ⟨m,by rw [he b hb]; exact q⟩
 .rw [he _ (ne _ I.free)]; exact I.free
 .rw [he c (ne c (I.freeC x c e))]; exact I.freeC x c e
 .obtain ⟨q1,q2,q3⟩:=I.pin p hp
  exact ⟨q1,by rw [he _ (ne _ q2)]; exact q2,q3⟩
 .by_cases hb:b=d
  .subst hb
   rw [ho'] at e;cases e;exact ok'
  .rw [he b hb] at e
   refine (I.hok b u e).stay (λc w _ q=>q) (λc q=>?_) λc xs q=>?_
   .have hc:c≠d:=λz=>by rw [z,ho] at q; exact n3 _ (Option.some.inj q)
    rw [he c hc]; exact q
   .have hc:c≠d:=λz=>by rw [z,ho] at q; exact n1 _ (Option.some.inj q)
    rw [he c hc]; exact q
def zSQ (t:TE):TE:=λU H Q=>∃d pB,H d=some (.dK pB)/\∀o,t U (zH H d (.frz o (.dK pB))) λv H'=>H' d=some (.frz o (.dK pB))/\Q v (zH H' d (.dK pB))
theorem zN.hold (I:zN X pA U H s) (h:H d=some (.dK pB)):∃o,s.heap.get? d=some o/\zN X pA U (zH H d (.frz o (.dK pB))) s:=by
 have ok:ZH X.prog X.w H s.heap d (.dK pB):=I.hok d _ h;obtain ⟨z,y,vs,r,o,es,ep,e,c⟩:=id ok;refine ⟨o,e,I.ghost (d:=d) ⟨_,h,(λ_ z=>nomatch z),(λ_ z=>nomatch z),(λ_ z=>nomatch z)⟩ (λb hb=>zI hb) (λo' u q=>?_) ⟨_,zC,(λ_ z=>nomatch z),e,⟨z,y,vs,r,o,es,ep,e,c⟩⟩⟩;have:=I.base.frzs d o' u q;rw [h] at this; cases this
theorem zOO {t:TE} (he:PE X e t):PE X e (zSQ t):=by
 intro pA s U H Q I ⟨d,pB,h,q⟩;obtain ⟨o,eo,I1⟩:=I.hold h;have nf:∀o' u,X.H₀ d≠some (.frz o' u):=λo' u q=>by
  have:=I.base.frzs d o' u q;rw [h] at this; cases this
 refine zg (he pA s U _ _ I1 (q o)) λv s1 ⟨x,H1,I2,r,eH,q1⟩=>?_;have ok:ZH X.prog X.w H1 s1.heap d (.frz o (.dK pB)):=I2.hok d _ eH;obtain ⟨eo',z,y,vs,rr,ob,es,ep,e,c⟩:=ok;exact ⟨x,_,I2.ghost (d:=d) (H':=zH H1 d (.dK pB)) ⟨_,eH,(λ_ z=>nomatch z),(λ_ z=>nomatch z),(λ_ z=>nomatch z)⟩ (λb hb=>zI hb) (λo' u q=>v6 q (nf o' u)) ⟨_,zC,(λ_ z=>nomatch z),z,y,vs,rr,ob,es,ep,e,c⟩,r,q1⟩
def Itd (d:Addr) (o:Obj) (pB:List (zZ×V)):It:=
 ⟨λi H=>H d=some (.frz o (.dK pB))/\i<pB.length,λi H x H'=>H'=H/\∃k,(pB.map (·.1))[i]?=some k/\x=kV k,λi H=>H d=some (.frz o (.dK pB))/\pB.length<=i⟩
theorem zEt {k:zZ} (h:zAE k u=true):zp (kV k) u:=by
 rcases Z2 h with ⟨i,t,rfl,rfl⟩ | ⟨x,t,rfl,rfl⟩
 .exact ⟨t,rfl⟩
 .exact ⟨t,rfl⟩
theorem KV.get {κ:Type}:∀{pB:List (κ×V)} {vs:List (κ×Value)} {i:Nat},KV pB vs->i<pB.length->∃k v,vs[i]?=some (k,v)/\(pB.map (·.1))[i]?=some k
 | _,_,_, .nil,h=>v6 h (Qn _)
 | (a,b)::_,(c,e)::_,0, .cons r _,_=>⟨c,e,rfl,Qe some (show a=c from r.1)⟩
 | _::_,_::_,i+1, .cons _ t,h=>by
  obtain ⟨k,v,h1,h2⟩:=KV.get (i:=i) t (by simpa using h);exact ⟨k,v,by simpa using h1,by simpa using h2⟩
theorem KV.len {pB:List (κ×V)} (r:KV pB vs):pB.length=vs.length:=Paired.length r
theorem zFz (ok:ZH P w H h d (.frz o (.dK pB))) (hd:o.data= .dict es0 ep):
  (d==sysModules)=false/\∃vs,KV pB vs/\h.DictAt (Zu P w) d vs ep:=by
 obtain ⟨eo,z,y,vs,r,ob,es,ep',e,c1,c2,c3⟩:=ok;rw [eo] at e; cases e;rw [hd] at c2;cases c2;exact ⟨y,vs,r,o,es0,eo,c1,hd,c3⟩
theorem zKN (d it:Addr) (hd:o.data= .dict es0 ep):zAn P w K tg (Itd d o pB) [it] it (λi h=>h.IsKeyIter it d i pB.length ep) where
 mem:=by simp
 obj:=λi h st b hb=>by
  have e:b=it:=by simpa using hb
  subst e;obtain ⟨o,e,c,d⟩:=st;exact ⟨o,e,λv z=>by rw [d] at z; cases z⟩
 keep:=λi h h' st k=>by
  obtain ⟨o,e,r⟩:=st;exact ⟨o,k it (by simp) o e,r⟩
 item:=by
  intro X hP hw hK hc i pA s U H E I hf st hg;subst hP hw hK;obtain ⟨hq,hx⟩:=hg;obtain ⟨_,vs,rv,hat⟩:=zFz (I.hok d _ hq) hd;obtain ⟨k,v,hv,hk⟩:=rv.get hx;obtain ⟨f0,f1,f2,f3,f4,f5⟩:=hf it (by simp);rw [rv.len] at st;refine wpAny_pyNext_dict_item st hat hv λkey h' hkey st' sb=>?_;have I1:zN X pA U H {s with heap:=h'}:=I.turned (t':=s.toks) (λb o hb e=>(sb.2 b hb).trans e) f0 f1 f3 f4 f5;obtain ⟨ob,e,c,dd⟩:=id st';rw [<-rv.len] at st';exact ⟨key,rfl,zDI (s:={s with heap:=h'}) e c dd (by decide) ⟨kV k,H,I1,zEt hkey,⟨rfl,k,hk,rfl⟩,st',λb hb=>(hf b hb).1⟩⟩
 done:=by
  intro X hP hw hK hc i pA s U H E I hf st hg;subst hP hw hK;obtain ⟨hq,hx⟩:=hg;obtain ⟨_,vs,rv,hat⟩:=zFz (I.hok d _ hq) hd;obtain ⟨f0,f1,f2,f3,f4,f5⟩:=hf it (by simp);have hl:=rv.len;rw [hl] at st;exact wpAny_pyNext_dict_end (I.ok.hd hc) st hat (Qj (by lia)) λh' eb=>⟨rfl,I.turned (t':=s.toks) (λb o hb e=>eb b o hb e) f0 f1 f3 f4 f5⟩
 self:=λ_ _ _ _ _ st h=>by
  obtain ⟨o,e,c,dd⟩:=id st;exact wpAny_pyIter_keyiter st h
def zRd (tl:TE):TI:=λU H R=>tl U H λx H1=>∃d o pB,x= .ref d/\H1 d=some (.frz o (.dK pB))/\R (Itd d o pB) H1
theorem zHR {l:Expr} {tl:TE} (hl:PE X l tl):PI X tg l (zRd tl):=by
 intro pA s U H R I h;refine zg (hl pA s U H _ I h) λv s1 ⟨x,H1,I1,r1,q1⟩=>?_;obtain ⟨d,o,pB,e,hq,q⟩:=q1;subst e;cases r1;obtain ⟨eo,z,y,vs,rr,ob,es,ep,e,c1,c2,c3⟩:=I1.hok d _ hq;rw [eo] at e; cases e;refine wpAny_pyIter_dict (knd:=Zu X.prog X.w) (kvs:=vs) (ep:=ep) y ⟨o,es,eo,c1,c2,c3⟩ ?_;refine ⟨s1.heap.objs.size,[s1.heap.objs.size],_,_,H1,rfl,I1.kept (t':=s1.toks) λb o e=>qH _ e,zKN d _ c2,⟨_,qW _ rfl,rfl,by rw [KV.len rr]; rfl⟩,λb hb=>?_,q⟩;have e:b=s1.heap.objs.size:=by simpa using hb
 subst e;exact I1.fpOk (qG _) (I1.hok.fresh (qG _))
theorem J7 (pG:X.calm=true):yh X (.builtin "sorted") (λvs H Q=>∃(d:Addr) (pB:List (zZ×V)) (ns:List Int),vs=[.ref d]/\H d=some (.dK pB)/\pB.map (·.1)=ns.map Sum.inl/\ns.length<64/\∀(l:Addr) (ns':List Int),H l=none->ns'.Perm ns->ns'.Pairwise (·<=·)->Q (.ref l) (zH H l (.lst (ns'.map V.int)))):=by
 intro pA s U H xs us Q I r h;obtain ⟨d,pB,ns,rfl,hq,hk,h64,q⟩:=h;obtain ⟨u,rfl,ru⟩:=r.one;cases ru;obtain ⟨z,y,vs,rr,ob,es,ep,e,c1,c2,c3⟩:=I.hok d _ hq;have pF:pB.length=ns.length:=by have:=Qe List.length hk; simpa using this
 have hn:vs.length<=sizeLine:=by rw [<-rr.len]; exact z
 refine Calls.call_function_entry kind_sorted plain_sorted entry_sorted (args_sorted1 _) ?_;unfold Builtin.«sorted»;refine qD (m:=checkCount "sorted" 1 1 _) (qI ?_);refine qD (W.kdu_collect (W.kdl_dict (prog:=X.prog) (w:=X.w) (knd:=Zu X.prog X.w) (d:=d) (kvs:=vs) (ep:=ep) y) (I.ok.hd pG) ⟨ob,es,e,c1,c2,c3⟩ hn λh' tk acc hkp hacc=>?_);have I1:zN X pA U H {s with heap:=h',toks:=tk}:=I.kept hkp;have hl:acc.toList.length=vs.length:=by rw [qc]; exact hacc.1
 have hv:za (ns.map V.int) acc.toList:=by
  have key:∀(ns:List Int) (pB:List (zZ×V)) (vs:List (zZ×Value)) (us:List Value),KV pB vs->pB.map (·.1)=ns.map Sum.inl->us.length=vs.length->(∀(j:Nat) (u:Value),us[j]?=some u->∃k x,vs[j]?=some (k,x)/\zAE k u=true)->za (ns.map V.int) us:=by
   intro ns
   induction ns with
   | nil=>
    intro pB vs us r e hl _;have:pB=[]:=by simpa using e
    subst this;cases r;have:us=[]:=Qy hl;subst this;exact .nil
   | cons n ns ih=>
    intro pB vs us r e hl hu;cases r with
    | nil=>cases e
    | @cons a b l1 l2 r0 rr=>
     rw [qe,qe] at e;injection e with e1 e2
     cases us with
     | nil=>cases hl
     | cons u ur=>
      obtain ⟨k,x,hx,hki⟩:=hu 0 u rfl;have hb:b=(k,x):=by simpa using hx
      have ek:k=Sum.inl n:=by
       have:a.1=k:=by rw [r0.1,hb]
       rw [<-this]; exact e1
      rw [ek] at hki;refine .cons (zEt (k:=Sum.inl n) hki) (ih l1 l2 ur rr e2 (by simpa using hl) λj w hw=>?_);obtain ⟨k',x',h1,h2⟩:=hu (j+1) w (by simpa using hw);exact ⟨k',x',by simpa using h1,h2⟩
  exact key ns pB vs acc.toList rr hk hl λj u hu=>hacc.2 j u (by rw [<-Qc]; exact hu)
 refine qD (wpAny_newList ?_ (by rw [hl]; exact hn));have hoL:(h'.push (seqObj "list" acc.toList.toArray 0)).get? h'.objs.size=some (seqObj "list" acc.toList.toArray 0):=qW _ rfl;have hal:acc.toList.length<64:=by rw [hl,<-rr.len,pF]; exact h64
 refine qD (Qt (Qs slot_list_sort ⟨_,hoL,rfl⟩ entry_list_sort (list_sort_tree hoL (ye hv) hal λout ns' a1 a2 a3=>⟨_,rfl,?_⟩) (args_list_sort _)));obtain ⟨ee,he⟩:=sortedHeap_at (out:=out) hoL;have hsz:(h'.push (seqObj "list" acc.toList.toArray 0)).objs.size=h'.objs.size+1:=Qi ..;refine qI ⟨_,rfl, .ref h'.objs.size,_,I1.laid (t':=tk) (λb o eb=>?_) (qG _) (show ZH X.prog X.w _ _ _ (.lst (ns'.map V.int)) from ⟨?_,out.toList,ee,jd a1,by simpa using he⟩),rfl,q _ ns' (I1.hok.fresh (qG _)) a2 a3⟩
 .have hb:b<h'.objs.size:=qV eb
  exact (sortedHeap_old (qb hb) (by rw [hsz]; exact QG hb)).trans (qH _ eb)
 .rw [qA,a2.length_eq]
  exact qQ (qf h64) (by decide)
theorem zBW (pG:X.calm=true):yh X (.builtin "all") (λvs H Q=>∃(p:Addr) (bs:List Bool),vs=[.ref p]/\zK X.K H p (bs.map V.bl)/\Q (.bl (bs.all id)) H):=by
 intro pA s U H xs us Q I r h;obtain ⟨p,bs,rfl,hq,q⟩:=h;obtain ⟨u,rfl,ru⟩:=r.one;cases ru;obtain ⟨pD,rv,pl,hz⟩:=I.list hq;have pL:p<s.heap.objs.size:=by obtain ⟨o,e,_⟩:=pl.isList; exact qV e
 refine call_all_walk (Xw pl.isList ?_);have hl:=rv.length;rw [qA] at hl;refine ⟨s.heap.objs.size,_,_,pD.toArray.size,_,_,λi=>bs.getD i false,rfl,Walks.list (A:=X.A.in1) (I.ok.hd pG) s.heap.objs.size p (qb pL) pD.toArray,⟨⟨_,qW _ rfl,rfl,rfl⟩,pl.isList.at λo e=>qH _ e⟩,?_,λh' tk hk=>?_⟩
 .intro i v s' Q' E' hP hQ
  have hv:pD[i]?=some v:=by simpa using hP
  have hi:i<bs.length:=by rw [hl]; exact (List.getElem?_eq_some_iff.mp hv).1
  obtain ⟨u,hu,ru⟩:=rv.get (i:=i) (x:=V.bl bs[i]) (by rw [qM,qB hi]; rfl);rw [hv] at hu;cases hu;have eb:v=Value.bool bs[i]:=ru;subst eb;have eg:bs.getD i false=bs[i]:=by simp [List.getD,hi]
  refine QW ?_;rw [<-eg]; exact hQ
 .have I1:zN X pA U H {s with heap:=h',toks:=tk}:=I.kept λb o e=>hk b o (by simp; exact qb (qV e)) (qH _ e)
  have e:(List.range pD.toArray.size).all (λi=>bs.getD i false)=bs.all id:=by
   have e1:pD.toArray.size=bs.length:=by simpa using hl.symm
   rw [e1,qu,xE,xE];constructor
   .intro h x hx
    obtain ⟨i,hi,rfl⟩:=List.mem_iff_getElem.mp hx;have:=h i (List.mem_range.mpr hi);simpa [List.getD,hi] using this
   .intro h i hi
    have hi':=List.mem_range.mp hi;have:=h bs[i] (qg hi');simpa [List.getD,hi'] using this
  rw [e];exact ⟨.bl _,H,I1,rfl,q⟩
end L2
namespace L2
open PySem PySem.Spec PyProof.Rows
variable {X:Cx} {dvs xs:List V} {sc:Scope} {H H1:Hp} {D a b d p:Addr} {U:St} {J:It} {n:Nat} {tc:TT} {te:TE} {Q:Hp->Prop} {K:W.Frag} {e o:Expr} {pB:List (zZ×V)} {tb:TS} {Pv:St->Hp->Prop} {μ:St->Hp->Nat} {es:List Expr} {apos pos tp:Pos} {S:Addr->Prop} {ks:List Int} {g:TG} {α:Type} {h':Heap} {fp:List Addr} {P prog:Program} {w:World} {ta:TA} {pl:Sem Bool} {pA:List (Addr×Obj)} {s:Shared} {mc:Value} {fd:FuncData} {ps:List Str} {ds:List Value} {E:Value->Shared->Prop} {A:Around}
def zIu (osc:Scope) (N xs:List Str) (sc:Scope):Bool:=
 (sc.kind== .function)&&sc.names.all (λy=>y.2 != .cell)&&sc.names.all (λy=>y.2 != .local||(sc.names.lookup y.1==some .local))&&sc.names.all (λy=>y.2 != .local||(xs.contains y.1||y.1==(".0":Str)))&&
  sc.names.all (λy=>y.2 != .free||(osc.names.lookup y.1==some .cell||osc.names.lookup y.1==some .free))&&N.all (λy=>(sc.names.lookup (y++("#":Str))).isNone)&& !N.contains (".0":Str)
theorem zKA {xs:List Str} (osc:Scope) (N:List Str) (hs:X.env.scope=osc) (hN:X.N=N) (h:zIu osc N xs sc=true):Zt X xs sc:=by
 unfold zIu at h;simp only [QV,xE,Bool.or_eq_true,Xz,bne_iff_ne,Xo,qw] at h;obtain ⟨⟨⟨⟨⟨⟨h1,h2⟩,h3⟩,h4⟩,h5⟩,h6⟩,h7⟩:=h;refine ⟨h1,h2,λy hy e=>?_,λy hy e=>?_,λy hy e=>?_,λy hy=>?_,?_⟩
 .exact (h3 y hy).resolve_left λz=>z e
 .exact (h4 y hy).resolve_left λz=>z e
 .have z:=(h5 y hy).resolve_left λz=>z e
  rw [<-hs] at z;exact z
 .rw [hN] at hy
  exact Option.isNone_iff_eq_none.mp (h6 y hy)
 .rw [hN]
  intro z;rw [List.contains_iff_mem.mpr z] at h7;cases h7
def zBI (t:TE) (U:St) (H:Hp) (v:V):Prop:=∀P:VK,(∀H2,zE H H2->P v H2)->t U H P
def JW (t:TT) (U:St) (H:Hp) (b:Bool):Prop:=∀P:Bool->Hp->Prop,(∀H2,zE H H2->P b H2)->t U H P
theorem zE.rfl':zE H H:=λ_ _ h=>h
theorem zE.new (h:H p=none) (o:HO):zE H (zH H p o):=λb u q=>by rw [zI (zF q h)]; exact q
theorem zAm:JW zDK U H true:=λ_ h=>h H zE.rfl'
theorem zBb (item:Nat->V) (c:Nat->Bool) (v:Nat->V) (hD:H1 D=none) (hn:n<=1000)
  (hgo:∀i H',zE H1 H'->i<n->J.go i H') (hyl:∀i H' x H2,zE H1 H'->i<n->J.yld i H' x H2->H2=H'/\x=item i) (hst:∀H',zE H1 H'->J.stop n H')
  (ht:∀i H',i<n->zE H1 H'->JW tc (some (item i)::U) H' (c i)) (he:∀i H',i<n->c i=true->zE H1 H'->zBI te (some (item i)::U) H' (v i))
  (hq:∀H',zE H1 H'->H' D=some (.lst (((List.range n).filter c).map v))->Q H'):YM J (ZW 0) tc te D Q (none::U) (zH H1 D (.lst [])):=by
 refine ⟨λi m U' H'=>∃x,U'=x::U/\m=n - i/\i<=n/\zE H1 H'/\H' D=some (.lst (((List.range i).filter c).map v)),⟨n,none,rfl,rfl,QF _,zE.new hD _,zC⟩,?_⟩;rintro i m U' H' ⟨x,rfl,rfl,hi,g,hl⟩;by_cases pL:i<n
 .refine .inr ⟨hgo i H' g pL,λU2 H2=>∃x,U2=x::U/\zE H1 H2/\H2 D=some (.lst (((List.range (i+1)).filter c).map v)),?_,λx' H2 y=>?_⟩
  .rintro U2 H2 ⟨x,rfl,g2,l2⟩
   exact ⟨n - (i+1),by lia,x,rfl,rfl,pL,g2,l2⟩
  .obtain ⟨rfl,rfl⟩:=hyl i H' x' H2 g pL y
   show tc (some (item i)::U) H2 _;refine ht i H2 pL g _ λH3 g3=>?_;have hr:(List.range (i+1)).filter c=(List.range i).filter c++(if c i=true then [i] else []):=by
    rw [xO,qz,qh,Qo]
   refine zr (λhc=>?_) (λhc=>?_)
   .refine he i H3 pL hc (g.trans g3) _ λH4 g4=>?_
    have l4:=g4 _ _ (g3 _ _ hl);refine ⟨_,l4,?_,some (item i),rfl,λb o hb=>?_,?_⟩
    .rw [qA]
     have:=qY c (List.range i);rw [QB] at this;exact Zb (by lia)
    .have hne:b≠D:=λe=>by rw [e,hD] at hb; cases hb
     rw [zI hne];exact g4 _ _ (g3 _ _ (g _ _ hb))
    .rw [zC,hr,qO hc,qN]
     rfl
   .refine ⟨some (item i),rfl,g.trans g3,?_⟩
    rw [hr,qP hc,qv];exact g3 _ _ hl
 .have e:i=n:=by lia
  subst e;exact .inl ⟨hst H' g,hq H' g hl⟩
theorem zCY {lo:Int} (c:Nat->Bool) (v:Nat->V) (hD:H1 D=none) (hn:n<=1000)
  (ht:∀i H',i<n->zE H1 H'->JW tc (some (.int (lo+i))::U) H' (c i)) (he:∀i H',i<n->c i=true->zE H1 H'->zBI te (some (.int (lo+i))::U) H' (v i))
  (hq:∀H',zE H1 H'->H' D=some (.lst (((List.range n).filter c).map v))->Q H'):YM (Itr lo n) (ZW 0) tc te D Q (none::U) (zH H1 D (.lst [])):=
 zBb (λi=> .int (lo+i)) c v hD hn (λi _ _ h=>h) (λi H' x H2 _ _ y=>y) (λ_ _=>qG _) ht he hq
theorem Z5 {α:Type} (c:α->Bool) (d:α):∀(xs:List α),((List.range xs.length).filter λi=>c (xs.getD i d)).map (λi=>xs.getD i d)=xs.filter c
 | []=>rfl
 | x::xs=>by
  have ih:=Z5 c d xs;rw [qT,XR,qh];have e1:(x::xs).getD 0 d=x:=rfl;rw [e1];have e2:(List.map Nat.succ (List.range xs.length)).filter (λi=>c ((x::xs).getD i d))=(((List.range xs.length).filter λi=>c (xs.getD i d)).map Nat.succ):=by
   rw [Q7];rfl
  by_cases hc:c x=true
  .rw [qO hc,qh,qO hc,qe,e2,qo,<-ih]
   rfl
  .rw [qP hc,qh,qP hc,e2,qo,<-ih]
   rfl
theorem yt (c:Nat->Bool) (v:Nat->V) (hS:zK K H1 a xs) (hD:H1 D=none) (hn:xs.length<=1000)
  (ht:∀i H',i<xs.length->zE H1 H'->JW tc (some (xs.getD i .non)::U) H' (c i)) (he:∀i H',i<xs.length->c i=true->zE H1 H'->zBI te (some (xs.getD i .non)::U) H' (v i))
  (hq:∀H',zE H1 H'->H' D=some (.lst (((List.range xs.length).filter c).map v))->Q H'):YM (Itl K a) (ZW 0) tc te D Q (none::U) (zH H1 D (.lst [])):=by
 refine zBb (λi=>xs.getD i .non) c v hD hn (λi H' g h=>⟨xs,xs[i],g.seq hS,qB h⟩) (λi H' x H2 g h y=>⟨y.1,?_⟩) (λH' g=>⟨xs,g.seq hS,qG _⟩) ht he hq;have:=y.2 xs (g.seq hS);rw [qB h] at this;rw [qC,qB h];exact (Option.some.inj this).symm
theorem zIU {o:Obj} (c:Nat->Bool) (v:Nat->V) (hS:H1 d=some (.frz o (.dK pB))) (hD:H1 D=none) (hn:pB.length<=1000)
  (ht:∀i H',i<pB.length->zE H1 H'->JW tc (some (((pB.map λkv=>kV kv.1)).getD i .non)::U) H' (c i)) (he:∀i H',i<pB.length->c i=true->zE H1 H'->zBI te (some ((pB.map λkv=>kV kv.1).getD i .non)::U) H' (v i))
  (hq:∀H',zE H1 H'->H' D=some (.lst (((List.range pB.length).filter c).map v))->Q H'):YM (Itd d o pB) (ZW 0) tc te D Q (none::U) (zH H1 D (.lst [])):=by
 refine zBb (λi=>(pB.map λkv=>kV kv.1).getD i .non) c v hD hn (λi H' g h=>⟨g _ _ hS,h⟩) (λi H' x H2 g h y=>⟨y.1,?_⟩) (λH' g=>⟨g _ _ hS,qG _⟩) ht he hq;obtain ⟨_,k,hk,rfl⟩:=y;rw [qM,qB h] at hk;have e:pB[i].1=k:=Option.some.inj hk;rw [qC,qM,qB h];show kV k=kV pB[i].1;rw [e]
theorem yy {c:TT} {D:zAV} (Pv:St->Hp->Prop) (μ:St->Hp->Nat) (h0:Pv U H)
  (hs:∀U H,Pv U H->c U H λb H1=>if b=true then ∃N:St->Hp->Prop,(∀U' H',N U' H'->∃m',m'<μ U H/\m'=μ U' H'/\Pv U' H')/\tb {D with nx:=N,ct:=N,bk:=D.nx} U H1 else D.nx U H1):zJo c tb D U H:=by
 refine ⟨λm U H=>m=μ U H/\Pv U H,⟨_,rfl,h0⟩,?_⟩;rintro m U H ⟨rfl,p⟩;exact hs U H p
theorem jO {D:zAV} (h:tb {D with nx:=λU' H'=>Pv U' H'/\μ U' H'<μ U H,ct:=λU' H'=>Pv U' H'/\μ U' H'<μ U H,bk:=D.nx} U H1):
  ∃N:St->Hp->Prop,(∀U' H',N U' H'->∃m',m'<μ U H/\m'=μ U' H'/\Pv U' H')/\tb {D with nx:=N,ct:=N,bk:=D.nx} U H1:=⟨_,λ_ _ h=>⟨_,h.2,rfl,h.1⟩,h⟩
section
variable {pB:List (Str×Tok×Value)} {i:Expr} {td ty:TE}
end
theorem yJ (xs:List Int) {i:Nat} (h:i<xs.length):(xs.map V.int).getD i .non= .int (xs.getD i 0):=by
 rw [qC,qM,qB h,qC,qB h];rfl
section
variable (K:W.Frag)
theorem jL (h:X.K=K:=by rfl):IxR X (zQc K):=h▸zx
theorem j5 (h:X.K=K:=by rfl):IxR X (zQe K):=h▸zh
theorem zPA (hu:X.A.units+64<cLine) (h:X.K=K:=by rfl):Z1 X (compareOp .Eq) (zPO K):=h▸zAc hu
theorem zOR (hu:X.A.units+64<cLine) (h:X.K=K:=by rfl):Z1 X (compareOp .NotEq) (zMU K):=h▸Z3 hu
theorem zFE (h:X.K=K:=by rfl):yh X (.builtin "len") (λxs H Q=>∃p ys,xs=[.ref p]/\(zK K H p ys\/ZD K H p ys)/\Q (.int ys.length) H):=h▸zQ
theorem zGl (h:X.K=K:=by rfl):yh X (.builtin "sorted") (zHh K):=h▸Ye
end
theorem zQw (K:W.Frag) {to:TE} {t:TA} {name:Str} {cpos:Pos} {T id:String} {r:V->List V->Hp->VK->Prop} (pa:PlainAttrs T) (slot:Slot T name id) (hty:typeOf (.builtin id)=pure (.type "method_descriptor")) (hm:MtR X id r) (ho:PE X o to) (ha:PA X (e::es) t)
  (h:X.K=K:=by rfl) (hbase:attributeBase o name X.env (eval o X.env)=eval o X.env:=by rfl)
  (hfew:((backTo cpos (starEach (e::es) X.env)).all (λx=> !x.1)&&(backToKw cpos (keywordEach [] X.env)).all (λx=>x.1.isSome)
   &&decide ((e::es).length+([]:List Keyword).length+(if ([]:List Keyword).isEmpty then 0 else 1)<30))=true:=by rfl)
  (hline:(apos.endLine==cpos.line)=true:=by rfl) (hs:starEach (e::es) X.env=(false,eval e X.env)::starEach es X.env:=by rfl) (hplain:(backTo cpos (starEach es X.env)).any (·.1)=false:=by rfl):
  PE X (.Call (.Attribute o name apos) (e::es) [] cpos) (tBM K T r to t):=by
 subst h;exact YF pa slot hty hm ho ha hbase hfew hline hs hplain
def Ex (S:Addr->Prop) (H H':Hp):Prop:=∀b o,¬S b->H b=some o->H' b=some o
theorem Ex.refl:Ex S H H:=λ_ _ _ h=>h
theorem Ex.trans {H2:Hp} (a:Ex S H H1) (b:Ex S H1 H2):Ex S H H2:=λc o n h=>b c o n (a c o n h)
theorem Ex.same (a:zE H H1):Ex S H H1:=λc o _ h=>a c o h
theorem Ex.put (o:HO) (hp:S p):Ex S H (zH H p o):=λc o' n h=>by
 have:c≠p:=λe=>n (e▸hp);rw [zI this]; exact h
theorem Ex.new (o:HO) (hp:H p=none):Ex S H (zH H p o):=Ex.same (zE.new hp o)
theorem Ex.wide {S':Addr->Prop} (a:Ex S H H1) (h:∀b,S b->S' b):Ex S' H H1:=λc o n e=>a c o (λz=>n (h c z)) e
theorem Jo (xs:List Int) {r:Int} (h0:0<=r) (h1:r<(xs.length:Nat)):∃v,YH (xs.map V.int) r=some (.int v)/\v∈xs:=by
 have hj:r.toNat<xs.length:=by lia
 have e:r=((r.toNat:Nat):Int):=by lia
 refine ⟨xs[r.toNat],?_,qg hj⟩;have q:YH (xs.map V.int) ((r.toNat:Nat):Int)=some (.int xs[r.toNat]):=Zx (by rw [qM,qB hj] <;> rfl);rw [<-e] at q;exact q
theorem zJy {x:Int} {v:V} (h:pB.map (·.1)=ks.map Sum.inl):(Zd pB (Sum.inl x) v).map (·.1)=(if x∈ks then ks else ks++[x]).map Sum.inl:=by
 unfold Zd;have key:(pB.any λkv=>decide (kv.1=Sum.inl x))=decide (x∈ks):=by
  have e1:(pB.any λkv=>decide (kv.1=Sum.inl x))=(pB.map (·.1)).any λk=>decide (k=Sum.inl x):=by rw [vM]; rfl
  rw [e1,h,vM,qu,X7,Qr];constructor
  .rintro ⟨y,hy,e⟩
   have e':(Sum.inl y:zZ)=Sum.inl x:=qZ e;cases e';exact hy
  .intro hx
   exact ⟨x,hx,qK rfl⟩
 rw [key];by_cases hx:x∈ks
 .rw [qK hx,qO rfl,qO hx,<-h,qo]
  refine QK λkv _=>?_;show (if kv.1=Sum.inl x then (kv.1,v) else kv).1=kv.1;split <;> rfl
 .rw [qa hx,qP qR,qP hx,qN,qN,h]
  rfl
theorem zEF (x:Int):∀xs:List Int,inV (.int x) (xs.map V.int)=xs.contains x
 | []=>rfl
 | y::r=>by
  have ih:=zEF x r;unfold inV at ih ⊢;rw [qe,xk,ih,List.contains_cons];have e:eqV (.int y) (.int x)=(x==y):=by
   show (y==x)=(x==y);exact Bool.eq_iff_iff.mpr ⟨λh=>beq_iff_eq.mpr (beq_iff_eq.mp h).symm,λh=>beq_iff_eq.mpr (beq_iff_eq.mp h).symm⟩
  rw [e]
theorem zBn:∀xs:List Int,(xs.map V.int).all JT=true
 | []=>rfl
 | _::r=>by rw [qe,X2,zBn r]; rfl
section
variable (K:W.Frag)
def zQF (K:W.Frag) (neg:Bool):R2:=λx y H Q=>∃(p:Addr) (i:Int) (xs:List Int),x= .int i/\y= .ref p/\zK K H p (xs.map V.int)/\Q (.bl (if neg then !xs.contains i else xs.contains i)) H
theorem Y3 (h:X.K=K:=by rfl):Z1 X (compareOp .In) (zQF K false):=by
 intro pA s U H x y v u Q I rx ry ⟨p,i,xs,e1,e2,hs,q⟩;subst e1 e2;refine zJi pA s U H _ _ v u Q I rx ry ⟨p,xs.map V.int,rfl, .inl (h▸hs),rfl,zBn xs,?_⟩;rw [zEF];exact q
theorem yK (h:X.K=K:=by rfl):Z1 X (compareOp .NotIn) (zQF K true):=by
 intro pA s U H x y v u Q I rx ry ⟨p,i,xs,e1,e2,hs,q⟩;subst e1 e2;refine zGO pA s U H _ _ v u Q I rx ry ⟨p,xs.map V.int,rfl, .inl (h▸hs),rfl,zBn xs,?_⟩;rw [zEF];exact q
end
def Ite (a:Addr):It:=
 ⟨λi H=>∃xs x,H a=some (.lst xs)/\xs[i]?=some x,λi H x H'=>∃T xs y,H T=none/\H a=some (.lst xs)/\xs[i]?=some y/\x= .ref T/\H'=zH H T (.tup [.int i,y]),λi H=>∃xs,H a=some (.lst xs)/\xs.length<=i⟩
theorem Zy {U0:St} {H0:Hp} (Z:Nat->St->Hp->Prop) (h0:Z 0 U0 H0)
  (step:∀i U H,i<n->Z i U H->J.go i H/\∀x H',J.yld i H x H'->g x U H' λU2 H2=>tc U2 H2 λb H3=>
   if b=true then te U2 H3 λv H4=>∃zs,H4 D=some (.lst zs)/\zs.length<sizeLine/\Z (i+1) U2 (zH H4 D (.lst (zs++[v]))) else Z (i+1) U2 H3)
  (stop:∀U H,Z n U H->J.stop n H/\Q H):YM J g tc te D Q U0 H0:=by
 refine ⟨λi m U H=>m=n - i/\i<=n/\Z i U H,⟨n,rfl,QF _,h0⟩,?_⟩;rintro i m U H ⟨rfl,hi,w⟩;by_cases pL:i<n
 .obtain ⟨hg,hy⟩:=step i U H pL w
  exact .inr ⟨hg,Z (i+1),λU' H' w'=>⟨n - (i+1),by lia,rfl,pL,w'⟩,hy⟩
 .have e:i=n:=by lia
  subst e;exact .inl (stop U H w)
theorem zJS (c:Nat->Bool) (v:Nat->V) (hS:H1 a=some (.lst xs)) (hD:H1 D=none) (hn:xs.length<=1000)
  (ht:∀i H',i<xs.length->zE H1 H'->JW tc (some (.int (i:Int))::some (xs.getD i .non)::U) H' (c i)) (he:∀i H',i<xs.length->c i=true->zE H1 H'->zBI te (some (.int (i:Int))::some (xs.getD i .non)::U) H' (v i))
  (hq:∀H',zE H1 H'->H' D=some (.lst (((List.range xs.length).filter c).map v))->Q H'):YM (Ite a) (zJH K 2 (zDW (ZW 0) (zDW (ZW 1) zMx))) tc te D Q (none::none::U) (zH H1 D (.lst [])):=by
 refine Zy (n:=xs.length) (λi U' H'=>∃x y,U'=x::y::U/\zE H1 H'/\H' D=some (.lst (((List.range i).filter c).map v))) ⟨none,none,rfl,zE.new hD _,zC⟩ ?_ ?_
 .rintro i U' H' hi ⟨x,y,rfl,g,hl⟩
  refine ⟨⟨xs,xs[i],g _ _ hS,qB hi⟩,λz H2 hz=>?_⟩;obtain ⟨T,ys,u,hT,hy,hu,rfl,rfl⟩:=hz;rw [g _ _ hS] at hy;cases hy;have eu:xs.getD i .non=u:=by rw [qC,hu]; rfl
  have g2:zE H1 (zH H' T (.tup [.int (i:Int),u])):=λb o hb=>by
   have h1:=g _ _ hb;rw [zI (zF h1 hT)]; exact h1
  have pK:(zH H' T (.tup [.int (i:Int),u])) D=some (.lst (((List.range i).filter c).map v)):=by rw [zI (zF hl hT)]; exact hl
  refine ⟨T,_,rfl,ZD.of zC,rfl,_,_,rfl,_,_,rfl,rfl,?_⟩;show tc (some (.int (i:Int))::some u::U) _ _;rw [<-eu] at g2 pK ⊢;generalize zH H' T (.tup [.int (i:Int),xs.getD i .non])=H3 at g2 pK ⊢;refine ht i H3 hi g2 _ λH4 g4=>?_;have hr:(List.range (i+1)).filter c=(List.range i).filter c++(if c i=true then [i] else []):=by
   rw [xO,qz,qh,Qo]
  refine zr (λhc=>?_) (λhc=>?_)
  .refine he i H4 hi hc (g2.trans g4) _ λH5 g5=>?_
   have l5:=g5 _ _ (g4 _ _ pK);refine ⟨_,l5,?_,_,_,rfl,λb o hb=>?_,?_⟩
   .rw [qA]
    have:=qY c (List.range i);rw [QB] at this;exact Zb (by lia)
   .have hne:b≠D:=λe=>by rw [e,hD] at hb; cases hb
    rw [zI hne];exact g5 _ _ (g4 _ _ (g2 _ _ hb))
   .rw [zC,hr,qO hc,qN]
    rfl
  .refine ⟨_,_,rfl,g2.trans g4,?_⟩
   rw [hr,qP hc,qv];exact g4 _ _ pK
 .rintro U' H' ⟨x,y,rfl,g,hl⟩
  exact ⟨⟨xs,g _ _ hS,qG _⟩,hq H' g hl⟩
theorem zBQ (l:List α):l.filter (λ_=>true)=l:=List.filter_eq_self.mpr λ_ _=>rfl
theorem rgD (xs:List α) (d:α):(List.range xs.length).map (λi=>xs.getD i d)=xs:=by
 have h:=Z5 (λ_:α=>true) d xs;rw [zBQ,zBQ] at h;exact h
def zCG (i:Nat) (U:St):Nat:=match U[i]? with
 | some (some (.int v))=>v.toNat
 | _=>0
theorem zEj (h:n<=2000):n<sizeLine:=by rw [Ql]; lia
theorem zN.turnedL {t':Nat} (I:zN X pA U H s) (k:∀b o,b∉fp->s.heap.get? b=some o->h'.get? b=some o) (hf:∀b∈fp,JN X pA H b):zN X pA U H {s with heap:=h',toks:=t'}:=by
 have nit:∀b u,H b=some u->b∉fp:=λb u e z=>by rw [(hf b z).1] at e; cases e
 refine I.step (g':=s.gens) (d':=s.drawn) (ch:=fp) (λb hb=>?_) (λb o _ _ hc e _=>k b o hc e) (λb o _ _ hc e _=>⟨o.slots,k b o hc e⟩) (λ_ _ _ _ n=>n)
  (λb o hc e=>⟨o,k b o hc e⟩) (λ_ _ e=>e) (λ_ _ _ e=>e) (λb ps e=>⟨#[],by rw [e]; simp⟩) (λm hm=>?_) (λb u e=>?_) I.bare
 .obtain ⟨_,f1,_,f3,f4,f5⟩:=hf b hb
  exact ⟨f3,f1,f4,f5⟩
 .obtain ⟨o,es,ep,ho,r⟩:=hm
  exact ⟨o,es,ep,k _ o (λz=>(hf _ z).2.1 rfl) ho,r⟩
 .refine (I.hok b u e).stay (λc v hc q=>k c v ?_ q) (λ_ q=>q) λ_ _ q=>q
  rcases hc with z | z
  .rw [z]; exact nit b u e
  .exact nit c _ z
theorem zKc {k:Nat} (a e it:Addr) (hei:e≠it):
  zAn P w K (.Tuple es k pos) (Ite a) [e,it] e (λi h=>(∃old,IsEnum h e it ((i:Nat):Int) old)/\h.IsListIter it a i) where
 mem:=by simp
 obj:=λi h st b hb=>by
  obtain ⟨⟨old,he⟩,o,e1,c,d⟩:=st;rcases List.mem_cons.mp hb with z | z
  .subst z
   exact ⟨_,he,λv z=>by cases z⟩
  .have z:b=it:=by simpa using z
   subst z;exact ⟨o,e1,λv z=>by rw [d] at z; cases z⟩
 keep:=λi h h' st k=>⟨let ⟨old,he⟩:=st.1; ⟨old,k e (by simp) _ he⟩,st.2.at λo e=>k it (by simp) o e⟩
 item:=by
  intro X hP hw hK hc i pA s U H E I hf st hg;subst hP hw hK;obtain ⟨xs,x,hq,hx⟩:=hg;obtain ⟨hz,pD,n,r,hl,ea⟩:=I.lstM hq;obtain ⟨u,hu,ru⟩:=r.get hx;obtain ⟨⟨old,he⟩,hit⟩:=st;have hL:s.heap.IsList a pD.toArray:=⟨_,ea,rfl,n,rfl⟩;have helt:e<s.heap.objs.size:=qV he;have hilt:it<s.heap.objs.size:=by obtain ⟨_,x,_⟩:=id hit; exact qV x
  have hun:∀b∈[e,it],b<s.heap.objs.size:=λb hb=>by
   rcases List.mem_cons.mp hb with z | z
   .rw [z]; exact helt
   .rw [show b=it by simpa using z]; exact hilt
  refine wpAny_pyNext_enum_item he hit hL (x:=u) (by simpa using hu) hei λh' ho hit' hT hsz hk=>?_;refine ⟨_,rfl,wpAny_letOwnedTupleGo_enum ho λh2 he2 hs2=>?_⟩
  replace hs2:Heap.SameBut e h' h2:=hs2
  have I1:zN X pA U (zH H s.heap.objs.size (.tup [.int i,x])) {s with heap:=s.heap.push {cls:= .type "tuple",data:= .seq #[.int i s.toks,u]},toks:=s.toks+1}:=
   I.laid (λb o q=>qH _ q) (qG _) ⟨by show 2<=sizeLine; decide,[.int i s.toks,u], .cons ⟨_,rfl⟩ (.cons ru .nil),⟨_,qW _ rfl,rfl,_,rfl⟩⟩
  have jT:∀b∈[e,it],zH H s.heap.objs.size (.tup [.int i,x]) b=none:=λb hb=>by
   rw [zI (qb (hun b hb))]; exact (hf b hb).1
  have I2:zN X pA U (zH H s.heap.objs.size (.tup [.int i,x])) {s with heap:=h2,toks:=s.toks+1}:=by
   refine zN.turnedL (s:={s with heap:=s.heap.push {cls:= .type "tuple",data:= .seq #[.int i s.toks,u]},toks:=s.toks+1}) (h':=h2) (t':=s.toks+1) (fp:=[e,it]) I1 (λb o hb q=>?_) (λb hb=>⟨jT b hb,(hf b hb).2⟩);have n1:b≠e:=λz=>hb (by simp [z]);have n2:b≠it:=λz=>hb (by simp [z]);refine (hs2.2 b n1).trans ?_;rcases Heap.get?_push_cases q with ⟨eb,eo⟩ | q
   .rw [eb,eo]; exact hT
   .exact hk b o n1 n2 q
  refine ⟨.ref s.heap.objs.size,_,I2,rfl,⟨_,xs,x,I.fresh,hq,hx,rfl,rfl⟩,⟨⟨u,?_⟩,?_⟩,jT⟩
  .have e1:(((i+1:Nat)):Int)=(i:Int)+1:=by simp
   rw [e1]; exact he2
  .exact hit'.at λo y=>(hs2.2 it hei.symm).trans y
 done:=by
  intro X hP hw hK hc i pA s U H E I hf st hg;subst hP hw hK;obtain ⟨xs,hq,hx⟩:=hg;obtain ⟨hz,pD,n,r,hl,ea⟩:=I.lstM hq;obtain ⟨⟨old,he⟩,hit⟩:=st;have hL:s.heap.IsList a pD.toArray:=⟨_,ea,rfl,n,rfl⟩;exact wpAny_pyNext_enum_end (I.ok.hd hc) he hit hL (by simp; lia) λh' eb=>⟨rfl,I.turnedL (t':=s.toks) (fp:=[e,it]) (λb o hb q=>eb b o (λz=>hb (by simp [z])) q) hf⟩
 self:=λ_ _ _ _ _ st h=>let ⟨_,he⟩:=st.1; wpAny_pyIter_enum he h
def zSB (ta:TA):TI:=λU H R=>ta U H λvs H1=>∃a xs,vs=[.ref a]/\H1 a=some (.lst xs)/\R (Ite a) H1
theorem zHk (K:W.Frag) {k:Nat} {t:TGs} (hc:X.calm=true) (h:PGs X es t) (hK:X.K=K:=by rfl)
  (hn:(assignEach es X.env).length=n:=by rfl) (hst:(assignEach es X.env).findIdx? (·.1)=none:=by rfl):PG X (.Tuple es k pos) (zJH K n t):=hK▸zGp hc h hn hst
theorem zEP:bootBuiltins "enumerate"=some (.type "enumerate"):=by decide +kernel
theorem zHm {k:Nat} {a:Expr} {p:Pos} (hg:Gl X "enumerate") (hm:X.mg "enumerate"=none) (ha:PA X [a] ta) (hs:starEach [a] X.env=[(false,eval a X.env)]:=by rfl):
  PI X (.Tuple es k tp) (.Call (.Name "enumerate" p) [a] [] pos) (zSB ta):=by
 intro pA s U H R I h;refine Qp (yZ I hg hm zEP ?_ (by decide) (by decide));refine QE (zg (ha pos pA s U H _ I h) λus s1 ⟨vs,H1,I1,r1,q1⟩=>?_) hs rfl;obtain ⟨a,xs,e,hq,q⟩:=q1;subst e;obtain ⟨u,rfl,ru⟩:=r1.one;cases ru;obtain ⟨hz,pD,n,r,hl,ea⟩:=I1.lstM hq;refine call_enumerate_1 ea λh' he hit hsz hk=>?_;refine wpAny_pyIter_enum he ?_;have I2:zN X pA U H1 {s1 with heap:=h'}:=I1.kept (t':=s1.toks) hk;refine ⟨s1.heap.objs.size+1,[s1.heap.objs.size+1,s1.heap.objs.size],_,_,H1,rfl,I2,zKc a _ _ (Nat.succ_ne_self _),⟨⟨_,he⟩,hit⟩,λb hb=>?_,q⟩;rcases List.mem_cons.mp hb with z | z
 .subst z; exact I1.fpOk (xM _) (I1.hok.fresh (xM _))
 .have z:b=s1.heap.objs.size:=by simpa using z
  subst z; exact I1.fpOk (qG _) (I1.hok.fresh (qG _))
theorem zDz {t:TE} (h:PE X e t) (he:∀whole,isTrue e X.env whole=(do let v <-whole; standAt e.pos; holding [v] (truthy v)):=by intro _; rfl):PT X e (λU H Q=>t U H λx H1=>∃i,x= .int i/\Q (i !=0) H1):=by
 intro pA s U H Q I hw;refine isTrue_plain (zg (h pA s U H _ I hw) λv s1 ⟨x,H1,I1,r1,i,ex,q⟩=>?_) (he _);subst ex;obtain ⟨tk,rfl⟩:=r1;exact PySem.P.truthy_int ⟨H1,I1,q⟩
structure zHt (K:W.Frag) (C:Addr) (mc:Value) (m:Str) (f:Addr):Prop where
 ga:W.specialIn K (.ref C) "__getattribute__"=some (some (.builtin "type.__getattribute__"))
 rd:W.readsIn K C mc=true
 at_:W.findCls K (.ref C) mc m=some (.val (.ref f))
 kp:W.keepIn K (.ref f)=true
section
variable {CX:CXT} {k:Nat} {f C:Addr} {sp:Sp} {E:XK} {x m:Str} {p:Pos} {t:TA}
theorem zEJ (B:zHt X.K C mc m f) (F:FnOk X.prog X.w X.K X.mg X.base CX k f fd ps sp) (hr:yD k X.A) (hg:Gl X x) (hm:X.mg x=some (.ref C)) (hb:zX X.K fd ps ds) (hd:za dvs ds) (hx:JH CX X E) (ha:PA X (e::es) t)
  (hdb:(x==("__debug__":Str))=false:=by decide) (hst:starEach (e::es) X.env=(false,eval e X.env)::starEach es X.env:=by rfl) (hpl:(backTo pos (starEach es X.env)).any (·.1)=false:=by rfl)
  (ht:eval (.Call (.Attribute (.Name x p) m apos) (e::es) [] pos) X.env=(do
   let ov <-eval (.Name x p) X.env
   standAt apos.atName
   let (f,first) <-holding [ov] (getMethod ov m pl)
   callWith pos f first (backTo pos (starEach (e::es) X.env)) (backToKw pos (keywordEach [] X.env))):=by rfl):
  PE X (.Call (.Attribute (.Name x p) m apos) (e::es) [] pos) (zJR sp dvs E t):=by
 intro pA s U H Q I h;refine vB (pl:=pl) (zg (jR (v:= .ref C) (pos:=p) hg hm rfl hdb pA s U H (λv H1=>v= .ref C/\H1=H) I ⟨rfl,rfl⟩) λu s1 ⟨x,H1,I1,rx,ex,eH⟩=>?_) ht;subst ex eH;obtain rfl:u=Value.ref C:=rx;refine W.method_cls I1.kIn B.ga (W.cls_value I1.kIn B.rd B.at_ rfl ?_);have I2:zN X pA U H1 {s1 with toks:=s1.toks+1}:=I1.tok _;refine Xf (first:=[]) (h₀:=X.base) I2.ok.mod.kin B.kp (zg (ha pos pA _ U H1 _ I2 h) λus s2 ⟨vs,H2,I3,r,q2⟩=>⟨I3.kIn,?_⟩) hst hpl;exact zDk F hr hb hd hx I3 r q2
end
theorem zEp (pG:X.calm=true):yh X (.builtin "sum") (λvs H Q=>∃(p:Addr) (ns:List Int),vs=[.ref p]/\H p=some (.lst (ns.map V.int))/\Q (.int ns.sum) H):=by
 intro pA s U H xs us Q I r h;obtain ⟨p,ns,rfl,hq,q⟩:=h;obtain ⟨u,rfl,ru⟩:=r.one;cases ru;obtain ⟨pD,rv,pl,hz⟩:=I.list (zK.of hq);have hi:=ye rv;obtain ⟨ws,e⟩:=hi.allInts.items;have hns:ns=ws.toList.map (·.1):=by rw [<-hi.numsOf,<-nums_intItems,<-e]
 refine sum_intListG (I.ok.hd pG) (l:=p) (xs:=ws) (e▸pl.isList) λh' tk t' hk=>⟨.int _,H,I.kept hk,⟨t',rfl⟩,?_⟩;have es:preSum (numAt ws) ws.size=ns.sum:=by rw [hns,preSum_eq,q9 (by simp)]
 rw [es];exact q
def Itz (a b:Addr):It:=
  ⟨λi H=>∃xs ys x y,H a=some (.lst xs)/\H b=some (.lst ys)/\xs[i]?=some x/\ys[i]?=some y,
   λi H v H'=>∃T xs ys x y,H T=none/\H a=some (.lst xs)/\H b=some (.lst ys)/\xs[i]?=some x/\ys[i]?=some y/\v= .ref T/\H'=zH H T (.tup [x,y]),
   λi H=>∃xs ys,H a=some (.lst xs)/\H b=some (.lst ys)/\(xs.length<=i\/ys.length<=i)⟩
theorem zNI {k:Nat} {z TI TO i1 i2:Addr} (D:ZipApart z TI TO i1 i2 a b):
  zAn P w K (.Tuple es k pos) (Itz a b) [z,TI,TO,i1,i2] z (λi h=>IsZip h z TI TO .none/\IsPair h TI (.ref i1) (.ref i2)/\(∃u v,IsPair h TO u v)/\h.IsListIter i1 a i/\h.IsListIter i2 b i) where
 mem:=by simp
 obj:=λi h st c hc=>by
  obtain ⟨hz,hTI,⟨u,v,hTO⟩,h1,h2⟩:=st;simp only [Q2,Q1,or_false] at hc;rcases hc with rfl | rfl | rfl | rfl | rfl
  .exact ⟨_,hz,λv z=>by cases z⟩
  .exact ⟨_,hTI,λv z=>by cases z⟩
  .exact ⟨_,hTO,λv z=>by cases z⟩
  .obtain ⟨o,e1,c,d⟩:=h1
   exact ⟨o,e1,λv z=>by rw [d] at z; cases z⟩
  .obtain ⟨o,e1,c,d⟩:=h2
   exact ⟨o,e1,λv z=>by rw [d] at z; cases z⟩
 keep:=λi h h' st k=>by
  obtain ⟨hz,hTI,⟨u,v,hTO⟩,h1,h2⟩:=st;exact ⟨k z (by simp) _ hz,k TI (by simp) _ hTI,⟨u,v,k TO (by simp) _ hTO⟩,h1.at λo e=>k i1 (by simp) o e,h2.at λo e=>k i2 (by simp) o e⟩
 item:=by
  intro X hP hw hK hc i pA s U H E I hf st hg;subst hP hw hK;obtain ⟨xs,ys,x,y,hqa,hqb,hx,hy⟩:=hg;obtain ⟨_,its1,n1,r1,hl1,ea⟩:=I.lstM hqa;obtain ⟨_,its2,n2,r2,pK,eb⟩:=I.lstM hqb;obtain ⟨u1,hu1,ru1⟩:=r1.get hx;obtain ⟨u2,hu2,ru2⟩:=r2.get hy;obtain ⟨hz,hTI,⟨p,q,hTO⟩,h1,h2⟩:=st;have hA:s.heap.IsList a its1.toArray:=⟨_,ea,rfl,n1,rfl⟩;have hB:s.heap.IsList b its2.toArray:=⟨_,eb,rfl,n2,rfl⟩;have lt:∀c∈[z,TI,TO,i1,i2],c<s.heap.objs.size:=λc hc=>by
   simp only [Q2,Q1,or_false] at hc;rcases hc with rfl | rfl | rfl | rfl | rfl
   .exact qV hz
   .exact qV hTI
   .exact qV hTO
   .obtain ⟨_,e,_⟩:=h1; exact qV e
   .obtain ⟨_,e,_⟩:=h2; exact qV e
  refine wpAny_pyNext_zip_item D hz hTI hTO h1 h2 hA hB (x:=u1) (y:=u2) (by simpa using hu1) (by simpa using hu2) λh' a1 a2 a3 a4 a5 a6 hk=>?_;refine ⟨_,rfl,wpAny_letOwnedTupleGo_zip a1 λh2' hz2 hs2=>?_⟩
  replace hs2:Heap.SameBut z h' h2':=hs2
  have I1:zN X pA U (zH H s.heap.objs.size (.tup [x,y])) {s with heap:=s.heap.push {cls:= .type "tuple",data:= .seq #[u1,u2]},toks:=s.toks}:=
   I.laid (λb o q=>qH _ q) (qG _) ⟨by show 2<=sizeLine; decide,[u1,u2], .cons ru1 (.cons ru2 .nil),⟨_,qW _ rfl,rfl,_,rfl⟩⟩
  have jT:∀c∈[z,TI,TO,i1,i2],zH H s.heap.objs.size (.tup [x,y]) c=none:=λc hc=>by
   rw [zI (qb (lt c hc))]; exact (hf c hc).1
  have I2:zN X pA U (zH H s.heap.objs.size (.tup [x,y])) {s with heap:=h2',toks:=s.toks}:=by
   refine zN.turnedL (s:={s with heap:=s.heap.push {cls:= .type "tuple",data:= .seq #[u1,u2]},toks:=s.toks}) (h':=h2') (t':=s.toks) (fp:=[z,TI,TO,i1,i2]) I1 (λc o hc q=>?_) (λc hc=>⟨jT c hc,(hf c hc).2⟩);have n1:c≠z:=λe=>hc (by simp [e]);refine (hs2.2 c n1).trans ?_;rcases Heap.get?_push_cases q with ⟨ec,eo⟩ | q
   .rw [ec,eo]; exact a5
   .exact hk c o n1 (λe=>hc (by simp [e])) (λe=>hc (by simp [e])) (λe=>hc (by simp [e])) q
  refine ⟨.ref s.heap.objs.size,_,I2,rfl,⟨_,xs,ys,x,y,I.fresh,hqa,hqb,hx,hy,rfl,rfl⟩,⟨hz2,?_,⟨_,_,hs2.extBut _ _ D.TOz a2⟩,a3.extBut hs2.extBut D.i1z,a4.extBut hs2.extBut D.i2z⟩,jT⟩;exact hs2.extBut _ _ D.TIz (hk _ _ D.TIz D.TITO D.TIi1 D.TIi2 hTI)
 done:=by
  intro X hP hw hK hc i pA s U H E I hf st hg;subst hP hw hK;obtain ⟨xs,ys,hqa,hqb,hend⟩:=hg;obtain ⟨_,its1,n1,r1,hl1,ea⟩:=I.lstM hqa;obtain ⟨_,its2,n2,r2,pK,eb⟩:=I.lstM hqb;obtain ⟨hz,hTI,⟨p,q,hTO⟩,h1,h2⟩:=st;have hA:s.heap.IsList a its1.toArray:=⟨_,ea,rfl,n1,rfl⟩;have hB:s.heap.IsList b its2.toArray:=⟨_,eb,rfl,n2,rfl⟩;have he:its1.toArray[i]?=none\/its2.toArray[i]?=none:=by
   rcases hend with z | z
   .exact .inl (by simp; lia)
   .exact .inr (by simp; lia)
  exact wpAny_pyNext_zip_end (I.ok.hd hc) D hz hTI hTO h1 h2 hA hB he λh' hk=>⟨rfl,I.turnedL (t':=s.toks) (fp:=[z,TI,TO,i1,i2]) (λc o hc q=>hk c o (λe=>hc (by simp [e])) (λe=>hc (by simp [e])) (λe=>hc (by simp [e])) (λe=>hc (by simp [e])) q) hf⟩
 self:=λ_ _ _ _ _ st h=>wpAny_pyIter_zip st.1 h
def zSz (ta:TA):TI:=λU H R=>ta U H λvs H1=>∃a b xs ys,vs=[.ref a, .ref b]/\H1 a=some (.lst xs)/\H1 b=some (.lst ys)/\R (Itz a b) H1
theorem zPF {k:Nat} {a b:Expr} {p:Pos} (hg:Gl X "zip") (hm:X.mg "zip"=none) (ha:PA X [a,b] ta) (hs:starEach [a,b] X.env=(false,eval a X.env)::starEach [b] X.env:=by rfl) (hpl:(backTo pos (starEach [b] X.env)).any (·.1)=false:=by rfl):
  PI X (.Tuple es k tp) (.Call (.Name "zip" p) [a,b] [] pos) (zSz ta):=by
 intro pA s U H R I h;refine Qp (yZ I hg hm boot_zip ?_ (by decide) (by decide));refine QE (zg (ha pos pA s U H _ I h) λus s1 ⟨vs,H1,I1,r1,q1⟩=>?_) hs hpl;obtain ⟨a,b,xs,ys,e,hqa,hqb,q⟩:=q1;subst e;obtain ⟨u1,u2,rfl,ru1,ru2⟩:∃u1 u2,us=[u1,u2]/\zp (.ref a) u1/\zp (.ref b) u2:=by
  cases r1 with
  | cons x1 t1=>
   cases t1 with
   | cons x2 t2=>
    cases t2;exact ⟨_,_,rfl,x1,x2⟩
 cases ru1;cases ru2;obtain ⟨_,its1,n1,rv1,hl1,ea⟩:=I1.lstM hqa;obtain ⟨_,its2,n2,rv2,pK,eb⟩:=I1.lstM hqb;refine call_zip_2 (xs:=its1.toArray) (ys:=its2.toArray) ⟨_,ea,rfl,n1,rfl⟩ ⟨_,eb,rfl,n2,rfl⟩ λh' hz hTI hTO hi1 hi2 hsz hk=>?_;refine wpAny_pyIter_zip hz ?_;have I2:zN X pA U H1 {s1 with heap:=h'}:=I1.kept (t':=s1.toks) hk;refine ⟨s1.heap.objs.size+4,[s1.heap.objs.size+4,s1.heap.objs.size+2,s1.heap.objs.size+3,s1.heap.objs.size,s1.heap.objs.size+1],_,_,H1,rfl,I2,zNI (zipApart_new (qV ea) (qV eb)),⟨hz,hTI,⟨_,_,hTO⟩,hi1,hi2⟩,λc hc=>?_,q⟩;have hge:s1.heap.objs.size<=c:=by
  simp only [Q2,Q1,or_false] at hc;rcases hc with rfl | rfl | rfl | rfl | rfl <;> lia
 exact I1.fpOk hge (I1.hok.fresh hge)
theorem zKG {ys:List V} (c:Nat->Bool) (v:Nat->V) (hA:H1 a=some (.lst xs)) (hB:H1 b=some (.lst ys)) (hmin:n=min xs.length ys.length) (hD:H1 D=none) (hn:n<=1000)
  (ht:∀i H',i<n->zE H1 H'->JW tc (some (xs.getD i .non)::some (ys.getD i .non)::U) H' (c i)) (he:∀i H',i<n->c i=true->zE H1 H'->zBI te (some (xs.getD i .non)::some (ys.getD i .non)::U) H' (v i))
  (hq:∀H',zE H1 H'->H' D=some (.lst (((List.range n).filter c).map v))->Q H'):YM (Itz a b) (zJH K 2 (zDW (ZW 0) (zDW (ZW 1) zMx))) tc te D Q (none::none::U) (zH H1 D (.lst [])):=by
 refine Zy (n:=n) (λi U' H'=>∃x y,U'=x::y::U/\zE H1 H'/\H' D=some (.lst (((List.range i).filter c).map v))) ⟨none,none,rfl,zE.new hD _,zC⟩ ?_ ?_
 .rintro i U' H' hi ⟨x,y,rfl,g,hl⟩
  have hix:i<xs.length:=by lia
  have hiy:i<ys.length:=by lia
  refine ⟨⟨xs,ys,xs[i],ys[i],g _ _ hA,g _ _ hB,qB hix,qB hiy⟩,λz H2 hz=>?_⟩;obtain ⟨T,xs',ys',u,u',hT,hxs,hys,hu,hu',rfl,rfl⟩:=hz;rw [g _ _ hA] at hxs;rw [g _ _ hB] at hys;cases hxs;cases hys;have eu:u=xs.getD i .non:=by rw [qC,hu]; rfl
  have eu':u'=ys.getD i .non:=by rw [qC,hu']; rfl
  subst eu eu';have g2:zE H1 (zH H' T (.tup [xs.getD i .non,ys.getD i .non])):=λb o hb=>by
   have h1:=g _ _ hb;rw [zI (zF h1 hT)]; exact h1
  have pK:(zH H' T (.tup [xs.getD i .non,ys.getD i .non])) D=some (.lst (((List.range i).filter c).map v)):=by rw [zI (zF hl hT)]; exact hl
  refine ⟨T,_,rfl,ZD.of zC,rfl,_,_,rfl,_,_,rfl,rfl,?_⟩;show tc (some (xs.getD i .non)::some (ys.getD i .non)::U) _ _;generalize zH H' T (.tup [xs.getD i .non,ys.getD i .non])=H3 at g2 pK ⊢;refine ht i H3 hi g2 _ λH4 g4=>?_;have hr:(List.range (i+1)).filter c=(List.range i).filter c++(if c i=true then [i] else []):=by
   rw [xO,qz,qh,Qo]
  refine zr (λhc=>?_) (λhc=>?_)
  .refine he i H4 hi hc (g2.trans g4) _ λH5 g5=>?_
   have l5:=g5 _ _ (g4 _ _ pK);refine ⟨_,l5,?_,_,_,rfl,λb o hb=>?_,?_⟩
   .rw [qA]
    have:=qY c (List.range i);rw [QB] at this;exact Zb (by lia)
   .have hne:b≠D:=λe=>by rw [e,hD] at hb; cases hb
    rw [zI hne];exact g5 _ _ (g4 _ _ (g2 _ _ hb))
   .rw [zC,hr,qO hc,qN]
    rfl
  .refine ⟨_,_,rfl,g2.trans g4,?_⟩
   rw [hr,qP hc,qv];exact g4 _ _ pK
 .rintro U' H' ⟨x,y,rfl,g,hl⟩
  exact ⟨⟨xs,ys,g _ _ hA,g _ _ hB,by lia⟩,hq H' g hl⟩
theorem zMZ {D:zAV} (Pv:Nat->St->Hp->Prop) (h0:Pv 0 U H) (hl:∀i U H,i<=xs.length->Pv i U H->H a=some (.lst xs))
  (hs:∀i x U H T,xs[i]?=some x->Pv i U H->H T=none->g (.ref T) U (zH H T (.tup [.int (i:Int),x])) λU2 H2=>tb {D with nx:=Pv (i+1),ct:=Pv (i+1),bk:=D.nx} U2 H2) (hd:∀U H,Pv xs.length U H->D.nx U H):
  ∃Z:Nat->Nat->St->Hp->Prop,(∃m,Z 0 m U H)/\∀i m U H,Z i m U H->
   ((Ite a).stop i H/\D.nx U H)\/((Ite a).go i H/\∃N:St->Hp->Prop,(∀U' H',N U' H'->∃m',m'<m/\Z (i+1) m' U' H')/\∀x H',(Ite a).yld i H x H'->g x U H' λU2 H2=>tb {D with nx:=N,ct:=N,bk:=D.nx} U2 H2):=by
 refine ⟨λi m U H=>m=xs.length - i/\i<=xs.length/\Pv i U H,⟨xs.length,by simp,QF _,h0⟩,?_⟩;rintro i m U H ⟨rfl,hi,p⟩;have q:=hl i U H hi p;by_cases pL:i<xs.length
 .refine .inr ⟨⟨xs,xs[i],q,qB pL⟩,Pv (i+1),λU' H' p'=>⟨xs.length - (i+1),by lia,rfl,pL,p'⟩,λx H' y=>?_⟩
  obtain ⟨T,ys,u,hT,hy,hu,rfl,rfl⟩:=y;rw [q] at hy;cases hy;exact hs i u U H T hu p hT
 .have e:i=xs.length:=by lia
  subst e;exact .inl ⟨⟨xs,q,qG _⟩,hd U H p⟩
def zPh (K:W.Frag):R2:=λx y H Q=>rNe x y H Q\/zMU K x y H Q
theorem zGn (hu:X.A.units+64<cLine):Z1 X (compareOp .NotEq) (zPh X.K):=by
 intro pA s U H x y v u Q I rx ry h;rcases h with h | h
 .exact Yl pA s U H x y v u Q I rx ry h
 .exact Z3 hu pA s U H x y v u Q I rx ry h
def zSX (K:W.Frag) (te:TE):TE:=λU H Q=>te U H λx H1=>∃a xs,x= .ref a/\zK K H1 a xs/\∀p,H1 p=none->Q (.ref p) (zH H1 p (.lst xs.reverse))
theorem zMF (pD:List Value):slicePick pD.toArray none none (some (-1))=pD.reverse.toArray:=by
 have hb:sliceBounds none none (some (-1)) pD.toArray.size=((pD.length:Int) - 1,-1,-1):=by
  unfold sliceBounds;simp
 unfold slicePick;rw [hb];have hr:sliceRange ((pD.length:Int) - 1) (-1) (-1)=(List.range pD.length).map λk:Nat=>pD.length - 1 - k:=by
  unfold sliceRange;have hc:(if (-1:Int) > 0 then (if ((pD.length:Int) - 1) < -1 then ((-1) - ((pD.length:Int) - 1)+(-1) - 1) / (-1) else 0) else (if ((pD.length:Int) - 1) > -1 then (((pD.length:Int) - 1) - (-1) - (-1) - 1) / (-(-1)) else 0))=(pD.length:Int):=by
   rw [qP (by decide)];by_cases h:((pD.length:Int) - 1) > -1
   .rw [qO h]
    have e: -(-1:Int)=1:=by decide
    rw [e,Int.ediv_one];lia
   .rw [qP h]
    lia
  rw [hc];show (List.range ((pD.length:Nat):Int).toNat).map (λk:Nat=>((pD.length:Int) - 1+ -1*(k:Int)).toNat)=_;rw [qy];refine QK λk hk=>?_;have:=List.mem_range.mp hk;lia
 show (List.filterMap (λx=>pD.toArray[x]?) (sliceRange ((pD.length:Int) - 1) (-1) (-1))).toArray=_;rw [hr];congr 1;have key:∀l:List Value,((List.range l.length).map λk:Nat=>l.length - 1 - k).filterMap (λx=>l.toArray[x]?)=l.reverse:=by
  intro l;have gen:∀(ks:List Nat),(∀k∈ks,k<l.length)->(ks.map λk:Nat=>l.length - 1 - k).filterMap (λx=>l.toArray[x]?)=ks.map λk=>l.getD (l.length - 1 - k) .none:=by
   intro ks
   induction ks with
   | nil=>intro _; rfl
   | cons k r ih=>
    intro h;have hk:=h k qE;rw [qe,qe,xW,ih λx hx=>h x (qF _ hx)];have e:l.toArray[l.length - 1 - k]?=some (l.getD (l.length - 1 - k) .none):=by
     rw [vD,qC,qB (by lia)];rfl
    rw [e]
  rw [gen _ λk hk=>List.mem_range.mp hk];refine XW (by rw [qA,QB,Qh]) λi h1 h2=>?_;have hi:i<l.length:=by rw [Qh] at h2; exact h2
  rw [XC,xa,List.getElem_reverse,qC,qB (by lia)];rfl
 exact key pD
theorem zPJ {p1 p2 p3:Pos} {j:Nat} (he:PE X e te):PE X (.Subscript e (.Slice none none (some (.UnaryOp .USub (.Constant (.int 1) j p1) p2)) p3) pos) (zSX X.K te):=by
 intro pA s U H Q I h;refine Subscript_ (zg (he pA s U H _ I h) λv s1 ⟨x,H1,I1,r1,q1⟩=>?_);obtain ⟨a,xs,rfl,hx,q⟩:=q1;cases r1;refine wpAny_Slice ?_;rw [evalPart_none];refine qI (qI ?_);rw [evalPart_some];refine zg ((Y9 Yc zJ:PE X (.UnaryOp .USub (.Constant (.int 1) j p1) p2) _) pA s1 U H1 (λy H2=>y= .int (-1)/\H2=H1) I1 ⟨1,rfl,rfl,rfl⟩) λvs s2 ⟨y,H2,I2,r2,ey,eH⟩=>?_;subst ey eH;obtain ⟨t,rfl⟩:=r2;have I4:zN X pA U H2 {s2 with heap:=s2.heap.push {cls:= .type "slice",data:= .fields #[.none, .none, .int (-1) t]}}:=I2.kept (t':=s2.toks) λb ob q=>qH _ q;obtain ⟨pD,r,ht,hz⟩:=I4.list hx;have pF:=r.length;have hg:wpAny (model X.prog X.w) X.A (getItem (.ref a) (.ref s2.heap.objs.size)) (EP X pA U Q) X.xe {s2 with heap:=s2.heap.push {cls:= .type "slice",data:= .fields #[.none, .none, .int (-1) t]}}:=by
  refine wpAny_getItem_list_slice ht.isList (Heap.IsSliceOf.new ..) .none .none (.int (-1) t) (by decide) ?_ (by rw [qj] <;> lia);rw [zMF];refine ⟨.ref _,_,I4.laid (t':=s2.toks) (o:= .lst xs.reverse) (λb ob q=>qH _ q) (qG _) ?_,rfl,q _ (I4.hok.fresh (qG _))⟩;exact ⟨by rw [Qh]; exact hz,pD.reverse,0,r.reverse,qW _ rfl⟩
 show wpAny (model X.prog X.w) X.A (subscriptTail e (.Slice none none (some (.UnaryOp .USub (.Constant (.int 1) j p1) p2)) p3) (.ref a) (.ref s2.heap.objs.size)) (EP X pA U Q) X.xe {s2 with heap:=s2.heap.push {cls:= .type "slice",data:= .fields #[.none, .none, .int (-1) t]}};exact tail_any (ops:=[.ref a, .ref s2.heap.objs.size]) ht.isList.typeIs slot_list_getitem.lookup hg (by with_unfolding_all rfl)
section
variable {xs:List Str} {z:Str}
end
def zPN:V->List V->Hp->VK->Prop:=λx vs H Q=>∃(l:Addr) (ns:List Int) (k:Int) (j:Nat),x= .ref l/\vs=[.int k]/\H l=some (.lst (ns.map V.int))/\ns[j]?=some k/\(∀m<j,ns[m]?≠some k)/\ns.length<=1000/\Q (.int (j:Int)) H
theorem zCc:MtM X "list.index" zPN:=by
 intro pA s U H x vs v us Q I rx rv h;obtain ⟨l,ns,k,j,rfl,rfl,hH,hj,hno,hsm,q⟩:=h;cases rx;obtain ⟨u,rfl,ru⟩:=rv.one;obtain ⟨t,rfl⟩:=ru;obtain ⟨z,pD,n,r,hl,e⟩:=I.lstM hH;have hi:=ye r;have pF:pD.length=ns.length:=by rw [<-hl,qA]
 have jlt:j<ns.length:=(List.getElem?_eq_some_iff.mp hj).1;have at_:∀m (hm:m<pD.toArray.size),∃t',pD.toArray[m]= .int (ns.getD m 0) t':=λm hm=>by
  have hm':m<pD.length:=by simpa using hm
  exact IntsAre.int_at hi m _ (by rw [qB hm']; simp)
 have hsj:(j:Int)<2^63 - 1:=by
  have:j<1000:=by lia
  lia
 refine call_meets F.slot_list_index ⟨_,e,rfl⟩ F.entry_list_index (F.args_list_index_2 _ _)
  (MeetsSeq.list_index l pD.toArray n (.int k t) (isInt k) (λy hy=>eq_isInt k t hi y (by simpa using hy)) j (by simpa [pF] using jlt) hsj ?_ (λm hm hmj=>?_)) ⟨e,?_⟩
 .obtain ⟨t',e'⟩:=at_ j (by simpa [pF] using jlt)
  rw [e'];have:ns.getD j 0=k:=by rw [qC,hj]; rfl
  rw [this];simp [isInt]
 .obtain ⟨t',e'⟩:=at_ m hm
  rw [e'];have hm':m<ns.length:=by simpa [pF] using hm
  have hne:ns.getD m 0≠k:=λz=>hno m hmj (by rw [qB hm',<-z,qC,qB hm']; rfl);show (ns.getD m 0==k)=false;exact beq_eq_false_iff_ne.mpr hne
 .exact ⟨.int (j:Int),H,I.tok _,⟨_,rfl⟩,q⟩
end L2
namespace HT
open PySem PyProof.Rows
variable {prog:Program} {w:World} {A:Around} {E Q:Value->Shared->Prop} {s:Shared} {xs:Array (Int×Tok)} {d:Value} {R:Result->Shared->Prop} {P:Nat->Value->Prop}
def YK (val:Nat->Int):Nat->Nat->Option Int->Option Int
 | 0,_,b=>b
 | k+1,i,b=>YK val k (i+1) (some (match b with | none=>val i | some m=>if m<val i then val i else m))
def zQr (h:Heap) (S:Addr) (b:Option Int):Prop:=match b with
 | none=>∃c,h.get? S=some {cls:= .type "list",dict:=none,data:= .seq #[] c,slots:=#[]}
 | some m=>∃c t,h.get? S=some {cls:= .type "list",dict:=none,data:= .seq #[.int m t, .int m t] c,slots:=#[]}
def zIg (d:Value) (b:Option Int) (u:Value):Prop:=match b with
 | none=>u=d
 | some m=>∃t,u= .int m t
theorem zJa (a d:Value):argsOk "max" ⟨[a],[(Str.ofString "default",d)]⟩:=by unfold argsOk; kernel_rfl
section
variable {I S:Addr} {fp wr:List Addr} {n:Nat} {St:Nat->Heap->Prop}
theorem zKh (Z:Walks prog w A.in1 I fp wr n P St) (val:Nat->Int) (hv:∀i v,P i v->∃t,v= .int (val i) t) (d:Value) (nS:S∉fp):∀(k i:Nat) (b:Option Int) (s:Shared),i+k=n->St i s.heap->zQr s.heap S b->
  (∀u h' tk,zIg d (YK val k i b) u->(∀c o,c∉wr->c≠S->s.heap.get? c=some o->h'.get? c=some o)->R (.ok (.ret u)) {s with heap:=h',toks:=tk})->
  codeAny (model prog w) A (.builtin "max.loop" ⟨[.ref I, .none, .ref S],[("default",d)]⟩) R s:=by
 have nW:S∉wr:=λz=>nS (Z.sub S z);have qt:(Code.builtin "max.loop" ⟨[.ref I, .none, .ref S],[("default",d)]⟩).quiet=true:=xU X8 _;have nm:(toString "max"++toString ".loop":String)="max.loop":=by decide
 intro k
 induction k with
 | zero=>
  intro i b s hi hst hb q;have fin:=Qu (prog:=prog) (w:=w) (A:=A) (R:=R) (s:=s) (args:=⟨[.ref I, .none, .ref S],[("default",d)]⟩) F.entry_max_loop;refine fin ?_;rw [Qf X8 _];cases b with
  | none=>
   obtain ⟨c,e⟩:=hb;refine qD (m:=seqItems? (.ref S)) (xy e rfl ?_);refine qD (m:=tryCatch (pyNext (.ref I)) _) (Xp (Z.done s _ _ (by rw [show n=i by lia]; exact hst) λh' tk kp=>?_));exact qD (vN (qI (q d h' tk rfl λc o h1 _ h3=>kp c o h1 h3)))
  | some m=>
   obtain ⟨c,t,e⟩:=hb;refine qD (m:=seqItems? (.ref S)) (xy e rfl ?_);refine qD (m:=tryCatch (pyNext (.ref I)) _) (Xp (Z.done s _ _ (by rw [show n=i by lia]; exact hst) λh' tk kp=>?_));refine qD (m:=updateSeq S λ_=>#[]) (xi (kp S _ nW e) rfl ?_);exact qD (vc (qI (q _ _ tk ⟨t,rfl⟩ λc o h1 h2 h3=>by rw [QI _ _ (Ne.symm h2)]; exact kp c o h1 h3)))
 | succ k ih=>
  intro i b s hi hst hb q;refine Qu F.entry_max_loop ?_;rw [Qf X8 _];cases b with
  | none=>
   obtain ⟨c,e⟩:=hb;refine qD (m:=seqItems? (.ref S)) (xy e rfl ?_);refine qD (m:=tryCatch (pyNext (.ref I)) _) (Xp (Z.item i s _ _ (by lia) hst λv h' tk hP st' kp=>?_));obtain ⟨t,rfl⟩:=hv i v hP;have e':=kp S _ nW e;refine qD (m:=updateSeq S λ_=>#[.int (val i) t, .int (val i) t]) (xi e' rfl ?_);rw [nm];refine qI ⟨qt,ih (i+1) (some (val i)) _ (by lia) (Z.frame _ _ _ st' λc hc o h=>?_) ⟨_,t,Qk _ e' rfl⟩ λu h2 tk2 hu k2=>q u h2 tk2 hu λc o h1 h3 h4=>k2 c o h1 h3 ?_⟩
   .rw [QI _ _ (λz:S=c=>nS (by rw [z]; exact hc))]; exact h
   .rw [QI _ _ (Ne.symm h3)]; exact kp c o h1 h4
  | some m=>
   obtain ⟨c,t0,e⟩:=hb;refine qD (m:=seqItems? (.ref S)) (xy e rfl ?_);refine qD (m:=tryCatch (pyNext (.ref I)) _) (Xp (Z.item i s _ _ (by lia) hst λv h' tk hP st' kp=>?_));obtain ⟨t,rfl⟩:=hv i v hP;have e':=kp S _ nW e;have gt:∀(s':Shared) (Q:Value->Shared->Prop) (E:Value->Shared->Prop),Q (.bool (decide (m<val i))) s'->wpAny (model prog w) A.in1 (richCompare .Gt (.int (val i) t) (.int m t0)) Q E s':=
    λs' Q E h=>(PyProof.Rows.gt_int h:wpAny (model prog w) A.in1 (compareOp .Gt (.int (val i) t) (.int m t0)) Q E s')
   refine qD (m:=tryCatch (holding [.int (val i) t, .int (val i) t] (richCompare .Gt (.int (val i) t) (.int m t0) >>=_)) _) (Xp (Qt (qD (gt _ _ _ ?_))));refine qD (Qt (QW (qD (vc (qI ?_)))));by_cases hm:m<val i
   .have q':∀u h' tk,zIg d (YK val k (i+1) (some (val i))) u->_:=λu h' tk hu=>q u h' tk (by unfold YK; dsimp only; rw [qO hm]; exact hu)
    rw [qK hm,qO rfl];refine qD (m:=updateSeq S λ_=>#[.int (val i) t, .int (val i) t]) (xi e' rfl (qD (vc ?_)));rw [nm];refine qI ⟨qt,ih (i+1) (some (val i)) _ (by lia) (Z.frame _ _ _ st' λc hc o h=>?_) ⟨_,t,Qk _ e' rfl⟩ λu h2 tk2 hu k2=>q' u h2 tk2 hu λc o h1 h3 h4=>k2 c o h1 h3 ?_⟩
    .rw [QI _ _ (λz:S=c=>nS (by rw [z]; exact hc))]; exact h
    .rw [QI _ _ (Ne.symm h3)]; exact kp c o h1 h4
   .have q':∀u h' tk,zIg d (YK val k (i+1) (some m)) u->_:=λu h' tk hu=>q u h' tk (by unfold YK; dsimp only; rw [qP hm]; exact hu)
    rw [qa hm,qP qR];refine qD (vc ?_);rw [nm];exact qI ⟨qt,ih (i+1) (some m) _ (by lia) st' ⟨c,t0,e'⟩ λu h2 tk2 hu k2=>q' u h2 tk2 hu λc o h1 h3 h4=>k2 c o h1 h3 (kp c o h1 h4)⟩
end
theorem zGs {prog:Program} {w:World} {A:Around} {E:Value->Shared->Prop} {s:Shared} {id:String} {b:Builtin} {a:Args} {Q:Value->Shared->Prop} (hk:builtinKind id=none) (hp:plainId id=true) (hb:entryFor table id=some b) (ha:argsOk id a)
  (hc:wpAny (model prog w) A.in1 (b a) (λfin s'=>match fin with
   | .done f=>(match (Except.ok f:Result) with | .ok (.ret v)=>Q v s' | .ok _=>False | .error e=>E e s')
   | .again c'=>c'.quiet=true/\codeAny (model prog w) A c' (λr s'=>match r with | .ok (.ret v)=>Q v s' | .ok _=>False | .error e=>E e s') s') E s):wpAny (model prog w) A (call (.builtin id) a.pos a.kw) Q E s:=by
 refine wpAny_call (codeAny_call_builtin hp hb ?_);unfold checkBuiltinCall;rw [hk];unfold argsOk at ha;cases g:Manifest.signature? id with
 | none=>exact qI hc
 | some sig=>
  rw [g] at ha;have ha':Bind.checkArgs id sig a=pure ():=ha;show wpAny _ _ (Bind.checkArgs id sig a) _ _ _;rw [ha'];exact qI hc
theorem zKJ {l:Addr} (hh:A.handled=none) (hl:s.heap.IsList l (intItems xs))
  (q:∀u h' tk,zIg d (YK (numAt xs) xs.size 0 none) u->(∀c o,s.heap.get? c=some o->h'.get? c=some o)->Q u {s with heap:=h',toks:=tk}):wpAny (model prog w) A (call (.builtin "max") [.ref l] [(Str.ofString "default",d)]) Q E s:=by
 have nm:(toString "max"++toString ".loop":String)="max.loop":=by decide
 refine zGs (a:=⟨[.ref l],[(Str.ofString "default",d)]⟩) F.kind_max F.plain_max F.entry_max (zJa _ _) ?_;refine qD (m:=Builtin.Builtins.bindParams "max" ["key","default"] 0 ⟨[],[(Str.ofString "default",d)]⟩) (wpAny_of_eq (show Builtin.Builtins.bindParams "max" ["key","default"] 0 ⟨[],[(Str.ofString "default",d)]⟩=pure [none,some d] from rfl) ?_);refine qD (qI (qD (iter_intList hl λs2 e st hf ne=>?_)));subst e;refine qD (Qd ?_);rw [nm];have Z:=Walks.list (prog:=prog) (w:=w) (A:=A.in1) hh _ l ne (intItems xs);refine qI ⟨xU X8 _,zKh Z (numAt xs) (λ_ _=>intItems_at) d (λz=>QQ _ (hf _ z)) _ 0 none _ (XD _) (Z.frame _ _ _ st λc _ o h=>qH _ h) ⟨_,qW _ rfl⟩ λu h' tk hu kp=>?_⟩;have sz:(intItems xs).size=xs.size:=by unfold intItems; rw [Array.size_map]
 rw [sz] at hu;exact q u h' tk hu (old_kept λc o h1 h2=>kp c o h1 (qb (qV h2)) (qH _ h2))
end HT
namespace L2
open PySem PySem.Spec PyProof.Rows
variable {e:Expr} {d:Int} {ns:List Int}
def zAz (d:Int) (ns:List Int):Int:=(HT.YK (λi=>ns.getD i 0) ns.length 0 none).getD d
section
variable {X:Cx}
def zRQ (K:W.Frag) (d:Int) (te:TE):TE:=λU H Q=>te U H λx H1=>∃(p:Addr) (ns:List Int),x= .ref p/\zK K H1 p (ns.map V.int)/\Q (.int (zAz d ns)) H1
theorem zOF {te:TE} {p p1 kp pos:Pos} {j:Nat} (pG:X.calm=true) (hg:Gl X "max") (hm:X.mg "max"=none) (he:PE X e te) (hs:starEach (e::[]) X.env=(false,eval e X.env)::starEach [] X.env:=by rfl):
  PE X (.Call (.Name "max" p) [e] [⟨some "default", .Constant (.int d) j p1,kp⟩] pos) (zRQ X.K d te):=by
 intro pA s U H Q I h;refine Qp (yZ I hg hm boot_max ?_);have h1:backTo pos (starEach (e::[]) X.env)=(false,eval e X.env)::backTo pos (starEach [] X.env):=by rw [hs]; rfl
 refine callWith_kw ?_ h1 (by rw [h1]; rfl);rw [h1];refine xZ (zg (he pA s U H _ I h) λu s1 ⟨x,H1,I1,r1,q1⟩=>xq ?_);obtain ⟨l,ns,rfl,hq,q⟩:=q1;cases r1;refine kws_cons (zg ((zJ:PE X (.Constant (.int d) j p1) _) pA s1 U H1 (λy H2=>y= .int d/\H2=H1) I1 ⟨rfl,rfl⟩) λv s2 ⟨y,H2,I2,r2,ey,eH⟩=>kws_nil ?_);subst ey eH;obtain ⟨t,rfl⟩:=r2;obtain ⟨pD,rv,pl,hz⟩:=I2.list hq;have hi:=ye rv;obtain ⟨ws,ew⟩:=hi.allInts.items;have hns:ns=ws.toList.map (·.1):=by rw [<-hi.numsOf,<-nums_intItems,<-ew]
 have hl:ns.length=ws.size:=by rw [hns,qA,qc]
 refine HT.zKJ (I2.ok.hd pG) (l:=l) (xs:=ws) (ew▸pl.isList) λu h' tk hu hk=>?_;have hv:(λi=>ns.getD i 0)=numAt ws:=funext λi=>by rw [hns]; exact (numAt_eq ws i).symm
 refine ⟨.int (zAz d ns),_,I2.kept hk,?_,q⟩;unfold zAz;rw [hv,hl];cases eb:HT.YK (numAt ws) ws.size 0 none with
 | none=>rw [eb] at hu; exact ⟨t,hu⟩
 | some m=>rw [eb] at hu; exact hu
end
theorem zGA {val:Nat->Int}:∀(k i:Nat) (b:Option Int),(b=none->k=0->HT.YK val k i b=none)/\(∀m,HT.YK val k i b=some m->(b=some m\/∃j,i<=j/\j<i+k/\m=val j)/\(∀x,b=some x->x<=m)/\∀j,i<=j->j<i+k->val j<=m)/\((b≠none\/0<k)->∃m,HT.YK val k i b=some m)
 | 0,i,b=>⟨λh _=>h,λm h=>⟨.inl h,λx hx=>by rw [show HT.YK val 0 i b=b from rfl,hx] at h; cases h; exact Int.le_refl _,λj h1 h2=>by lia⟩,λh=>by
   cases b with
   | none=>rcases h with z | z; exact v6 rfl z; lia
   | some m=>exact ⟨m,rfl⟩⟩
 | k+1,i,b=>by
  obtain ⟨_,h2,h3⟩:=zGA (val:=val) k (i+1) (some (match b with | none=>val i | some m=>if m<val i then val i else m));refine ⟨λ_ h=>by lia,λm h=>?_,λ_=>h3 (.inl λz=>nomatch z)⟩;obtain ⟨a1,a2,a3⟩:=h2 m h;have a2':=a2 _ rfl;cases b with
  | none=>
   have a2'':val i<=m:=a2';refine ⟨?_,(λx hx=>nomatch hx),λj h1 h2=>?_⟩
   .rcases a1 with z | ⟨j,j1,j2,j3⟩
    .exact .inr ⟨i,qG _,by lia,(Option.some.inj z).symm⟩
    .exact .inr ⟨j,by lia,by lia,j3⟩
   .by_cases hj:j=i
    .rw [hj]; exact a2''
    .exact a3 j (by lia) (by lia)
  | some x=>
   have a2'':(if x<val i then val i else x)<=m:=a2';refine ⟨?_,(λy hy=>?_),λj h1 h2=>?_⟩
   .rcases a1 with z | ⟨j,j1,j2,j3⟩
    .have z':(if x<val i then val i else x)=m:=Option.some.inj z
     by_cases hx:x<val i
     .rw [qO hx] at z'; exact .inr ⟨i,qG _,by lia,z'.symm⟩
     .rw [qP hx] at z'; exact .inl (by rw [z'])
    .exact .inr ⟨j,by lia,by lia,j3⟩
   .cases hy
    split at a2'' <;> lia
   .by_cases hj:j=i
    .rw [hj]; split at a2'' <;> lia
    .exact a3 j (by lia) (by lia)
theorem zMk {m:Int} (h1:m∈ns) (h2:∀x∈ns,x<=m):zAz d ns=m:=by
 obtain ⟨_,a,b⟩:=zGA (val:=λi=>ns.getD i 0) ns.length 0 none;have hp:=xA h1;obtain ⟨m',e⟩:=b (.inr hp);obtain ⟨c1,_,c3⟩:=a m' e;unfold zAz;rw [e];show m'=m;have le1:m<=m':=by
  obtain ⟨j,hj,rfl⟩:=List.mem_iff_getElem.mp h1;have:=c3 j (QF _) (by lia);rw [qC,qB hj] at this;exact this
 have le2:m'<=m:=by
  rcases c1 with z | ⟨j,_,hj,rfl⟩
  .cases z
  .refine h2 _ ?_
   have hj':j<ns.length:=by lia
   rw [qC,qB hj'];exact qg hj'
 lia
end L2
namespace HT
open PySem PyProof.Rows PySem.SeqAt PySem.MeetsSeq PySem.MeetsSeq2 PySem.MeetsSeq3
inductive zLa
 | lt
 | le
 | gt
def zLa.rel:zLa->Int->Int->Bool
 | .lt,a,c=>decide (a<c)
 | .le,a,c=>decide (a<=c)
 | .gt,a,c=>decide (c<a)
def zBB (k:zLa):List Int->List Int->Bool
 | a::as,c::cs=>if a=c then zBB k as cs else k.rel a c
 | _,_=>k.rel 0 0
end HT
namespace L2
open PySem PySem.Spec PyProof.Rows
section
variable {X:Cx}
end
end L2
namespace HT
open PySem PyProof.Rows
variable {prog:Program} {w:World} {A:Around} {E:Value->Shared->Prop} {s:Shared} {R:Result->Shared->Prop} {P:Nat->Value->Prop}
section
variable {I S:Addr} {fp wr:List Addr} {n:Nat} {St:Nat->Heap->Prop}
end
end HT
namespace L2
open PySem PySem.Spec PyProof.Rows
variable {a:Addr}
section
variable {X:Cx}
def zAt (H:Hp) (a:Addr):List Int:=match H a with
 | some (.lst xs)=>xs.map fun | .int i=>i | _=>0
 | _=>[]
theorem jJ {H:Hp} {r:List Int} (h:H a=some (.lst (r.map V.int))):zAt H a=r:=by
 unfold zAt;rw [h];show (r.map V.int).map _=r;rw [qo];exact vy _
end
end L2
namespace HT
open PySem PyProof.Rows
variable {order xs:Array Nat} {ep given i j n p slot:Nat} {h:Heap} {led wd:Bool} {hs:Array Int} {es es':Array (Int×Value)} {e:Int×Value} {o:Obj} {Q:Option Value->Shared->Prop} {I S T a:Addr} {R:Result->Shared->Prop} {fp:List Addr} {P:Nat->Value->Prop} {items:Array Value} {ks ns:List Int} {M:Model} {A:Around} {E:Value->Shared->Prop} {s:Shared} {src:Source} {α:Type} {K:Value->Sem (Option Value)} {res v:Value} {ps:List Nat} {vs:List Value} {prog:Program} {w:World}
def UpP (xs:Array Nat):Prop:=xs.toList.Pairwise (·<·)
theorem UpP.at (u:UpP xs) {k:Nat} (h:i<k) (hk:k<xs.size):xs.getD i 0<xs.getD k 0:=by
 have:=List.pairwise_iff_getElem.mp u i k (by rw [qc]; lia) (by rw [qc]; exact hk) h;rw [xt,xt] at this;rw [QS,QS,qx (by lia),qx hk];exact this
structure Jf (xs:Array Nat) (j b:Nat):Prop where
 le:b<=xs.size
 lo:∀i<b,xs.getD i 0<j
 hi:∀i,b<=i->i<xs.size->j<=xs.getD i 0
theorem zCk {xs:Array Nat} (u:UpP xs) (j:Nat):∀(fuel lo hi:Nat),lo<=hi->hi<=xs.size->hi - lo<=fuel->(∀i<lo,xs.getD i 0<j)->(∀i,hi<=i->i<xs.size->j<=xs.getD i 0)->Jf xs j (SetTable.below.go xs j fuel lo hi)
 | 0,lo,hi,h1,h2,h3,h4,h5=>⟨by show lo<=_; lia,h4,λi a b=>h5 i (by have a':lo<=i:=a; lia) b⟩
 | fuel+1,lo,hi,h1,h2,h3,h4,h5=>by
  unfold SetTable.below.go;by_cases pL:lo<hi
  .rw [qO pL]
   have hm:(lo+hi) / 2<xs.size:=by lia
   have em:xs.getD ((lo+hi) / 2) j=xs.getD ((lo+hi) / 2) 0:=by rw [QS,QS,qx hm]; rfl
   show Jf xs j (if xs.getD ((lo+hi) / 2) j<j then SetTable.below.go xs j fuel ((lo+hi) / 2+1) hi else SetTable.below.go xs j fuel lo ((lo+hi) / 2));rw [em];by_cases hc:xs.getD ((lo+hi) / 2) 0<j
   .rw [qO hc]
    refine zCk u j fuel _ hi (by lia) h2 (by lia) (λi hi'=>?_) h5;by_cases e:i=(lo+hi) / 2
    .rw [e]; exact hc
    .exact Xh (u.at (show i<(lo+hi) / 2 by lia) hm) hc
   .rw [qP hc]
    refine zCk u j fuel lo _ (by lia) (by lia) (by lia) h4 λi a b=>?_;by_cases e:i=(lo+hi) / 2
    .rw [e]; lia
    .have:=u.at (show (lo+hi) / 2<i by lia) b
     lia
  .rw [qP pL]
   exact ⟨by lia,h4,λi a b=>h5 i (by lia) b⟩
theorem zCr (u:UpP xs) (j:Nat):Jf xs j (SetTable.below xs j):=zCk u j _ 0 xs.size (QF _) (qG _) (by lia) (λi h=>v6 h (Qn _)) (λi h1 h2=>by lia)
theorem zHV (j:Nat):SetTable.has #[] j=false:=by
 unfold SetTable.has;rw [show (#[]:Array Nat)[SetTable.below #[] j]?=none by simp];rfl
theorem zIB {t:SetTable} (u:UpP t.place) (h:t.slot j= .empty):∀x∈t.place.toList,x≠j:=by
 intro x hx e;subst e;obtain ⟨i,hi,ei⟩:=List.mem_iff_getElem.mp hx;rw [qc] at hi;rw [xt] at ei;have gi:t.place.getD i 0=x:=by rw [QS,qx hi,ei]; rfl
 have B:=zCr u x;have hbi:SetTable.below t.place x<=i:=Nat.le_of_not_lt λz=>by have:=B.lo i z; lia
 have hb:SetTable.below t.place x<t.place.size:=by lia
 have eb:SetTable.below t.place x=i:=by
  rcases xN (SetTable.below t.place x) i with z | z
  .have h1:=B.hi _ (qG _) hb
   have h2:=u.at z hi;lia
  .lia
 have e1:(t.place[SetTable.below t.place x]?==some x)=true:=by rw [eb,qx hi,ei]; exact QN _
 unfold SetTable.slot at h;dsimp only at h;rw [qO e1] at h;cases h
theorem zGb {t:SetTable} (d:t.dummies=#[]) (j:Nat):t.slot j≠ .dummy:=by
 unfold SetTable.slot;dsimp only;rw [d,zHV];split
 .exact λz=>nomatch z
 .exact λz=>nomatch z
theorem zCX {t:SetTable} (d:t.dummies=#[]) (hashAt:Nat->Int) (h:Int):∀(fuel:Nat) (p:SetTable.Probe) (j:Nat) (dm:Option Nat),SetTable.probe.go t hashAt h fuel p=some (.empty j dm)->t.slot j= .empty/\dm=p.dummy
 | 0,_,_,_,e=>by cases e
 | fuel+1,p,j,dm,e=>by
  unfold SetTable.probe.go at e;cases hs:t.slot p.j with
  | empty=>
   rw [hs] at e;cases e;exact ⟨hs,rfl⟩
  | dummy=>exact v6 hs (zGb d _)
  | live i=>
   rw [hs] at e;dsimp only at e;have adv:(t.advance p).dummy=p.dummy:=by
    unfold SetTable.advance;split <;> rfl
   split at e
   .cases e
   .have ih:=zCX d hashAt h fuel (t.advance p) j dm e
    rw [adv] at ih;exact ih
theorem zJZ {t:SetTable} (d:t.dummies=#[]) {h:Int} (e:t.freeSlot h=some (j,wd)):t.slot j= .empty:=by
 unfold SetTable.freeSlot at e;split at e
 .rename_i j' dm hp
  obtain ⟨h1,h2⟩:=zCX d _ _ _ _ _ _ hp;have h3:dm=none:=h2;rw [h3] at e;cases e;exact h1
 .cases e
structure yg (t:SetTable) (led:Bool):Prop where
 up:UpP t.place
 dum:t.dummies=#[]
 led:t.led=led
theorem zMr (n:Nat):UpP (Array.range n):=by
 unfold UpP;rw [Array.toList_range];exact QY
theorem yg.standIn {t:SetTable} (T:yg t led) (n:Nat):yg (t.standIn n) led:=⟨zMr n,rfl,T.led⟩
theorem yg.layNew {t:SetTable} (T:yg t led) (es:Array (Int×Value)) (h:Int) (x:Value):yg (layNew t es h x).2.1 led:=by
 unfold PySem.layNew;split
 .rename_i slot wd hf
  have hE:=zJZ T.dum hf;have T':yg (t.put slot).1 led:=by
   refine ⟨?_,?_,T.led⟩
   .have B:=zCr T.up slot
    have ne:=zIB T.up hE;show UpP (SetTable.insertAt t.place (SetTable.below t.place slot) slot);unfold UpP;rw [SetTable.toList_insertAt];have lt:∀a∈t.place.toList.take (SetTable.below t.place slot),a<slot:=λa ha=>by
     obtain ⟨i,hi,ei⟩:=List.mem_iff_getElem.mp ha;rw [QC,qc] at hi;rw [List.getElem_take,xt] at ei;have:=B.lo i (by lia);rw [QS,qx (by lia),ei] at this;exact this
    have gt:∀a∈t.place.toList.drop (SetTable.below t.place slot),slot<a:=λa ha=>by
     obtain ⟨i,hi,ei⟩:=List.mem_iff_getElem.mp ha;rw [Qg,qc] at hi;rw [List.getElem_drop,xt] at ei;have:=B.hi (SetTable.below t.place slot+i) (by lia) (by lia);rw [QS,qx (by lia),ei] at this;have this':slot<=a:=this;have:=ne a (List.mem_of_mem_drop ha);lia
    refine List.pairwise_append.mpr ⟨T.up.sublist (List.take_sublist _ _),List.pairwise_cons.mpr ⟨gt,T.up.sublist (List.drop_sublist _ _)⟩,λa ha b hb=>?_⟩;rcases List.mem_cons.mp hb with z | z
    .rw [z]; exact lt a ha
    .exact Xh (lt a ha) (gt b z)
   .show (if SetTable.has t.dummies slot then SetTable.eraseAt t.dummies (SetTable.below t.dummies slot) else t.dummies)=#[]
    rw [T.dum,zHV];rfl
  show yg ((t.put slot).1.orStandIn _) led;unfold SetTable.orStandIn;split
  .exact T'
  .exact T'.standIn _
 .exact T.standIn _
theorem yg.laid {mask finger moves:Nat} {plain:Bool} {t:SetTable} (e:SetTable.laid mask finger moves led plain hs=some (t,order)):yg t led:=by
 unfold SetTable.laid at e;cases hl:SetTable.layClean mask hs with
 | none=>rw [hl] at e; cases e
 | some owner=>
  rw [hl] at e;have e':=Option.some.inj e;have e1:_=t:=Qe Prod.fst e';rw [<-e1];refine ⟨?_,rfl,rfl⟩;show ((((List.range (mask+1)).filterMap λj=>(owner.getD j none).map (j,·)).map (·.1)).toArray).toList.Pairwise (·<·);have key:∀(l:List Nat),l.Pairwise (·<·)->((l.filterMap λj=>(owner.getD j none).map (j,·)).map (·.1)).Pairwise (·<·)/\∀a∈(l.filterMap λj=>(owner.getD j none).map (j,·)).map (·.1),a∈l:=by
   intro l
   induction l with
   | nil=>intro _; exact ⟨List.Pairwise.nil,nofun⟩
   | cons a r ih=>
    intro hp;obtain ⟨i1,i2⟩:=ih hp.of_cons;rw [xW];cases owner.getD a none with
    | none=>exact ⟨i1,λx hx=>qF _ (i2 x hx)⟩
    | some k=>
     refine ⟨List.pairwise_cons.mpr ⟨λx hx=>xJ hp (i2 x hx),i1⟩,λx hx=>?_⟩;rcases List.mem_cons.mp hx with z | z
     .rw [z]; exact qE
     .exact qF _ (i2 x z)
  exact (key _ QY).1
theorem yg.relayAll {t:SetTable} (T:yg t led) (es:Array (Int×Value)) (n:Nat):yg (relayAll t es n).2.1 led:=by
 unfold PySem.relayAll;split
 .rename_i t' order hr
  have T':yg t' t.led:=yg.laid hr;rw [T.led] at T';dsimp only;split
  .exact T'
  .exact T.standIn _
 .exact T.standIn _
def zCJ (e:Int×Value):Prop:=∃k t,e=(hashInt k, .int k t)
def jY (e:Int×Value):Int:=match e.2 with
 | .int k _=>k
 | _=>0
def jE (h:Heap) (a:Addr) (ks:List Int) (led:Bool):Prop:=∃o es ep t,h.get? a=some o/\o.ExactSet/\o.data= .set es ep t/\(∀e∈es.toList,zCJ e)/\es.toList.map jY=ks/\ks.Nodup/\es.size<scanBound/\t.fits es.size=true/\yg t led
theorem zJY {es:List (Int×Value)} (h:∀e∈es,zCJ e):ElemsOf (intKind prog w) es:=λe he=>by
 obtain ⟨k,t,rfl⟩:=h e he;exact ⟨⟨k,intKind_is _ _ _ _,rfl⟩,rfl⟩
theorem zHc (h:zCJ e) (k:Int):(intKind prog w).is k e.2=decide (jY e=k):=by
 obtain ⟨k',t,rfl⟩:=h;show Value.isInt k (.int k' t)=decide (k'=k);unfold Value.isInt;rw [qu,Qr]
 first | (rw [Xo]) | simp
theorem jE.store {t t':SetTable} (ho:h.get? a=some o) (hx:o.ExactSet) (hd:o.data= .set es ep t) (g:∀e∈es'.toList,zCJ e) (nd:(es'.toList.map jY).Nodup) (hb:es'.size<scanBound) (hf:t'.fits es'.size=true) (T:yg t' led):
  (h.update a (Obj.putSet es' t')).get? a=some {o with data:= .set es' (ep+1) t'}/\jE (h.update a (Obj.putSet es' t')) a (es'.toList.map jY) led:=by
 have e:=Qk (Obj.putSet es' t') ho (by rw [putSet_of es' t' hd]; rfl);rw [putSet_of es' t' hd] at e;exact ⟨e,_,es',ep+1,t',e,hx,rfl,g,rfl,nd,hb,hf,T⟩
theorem zLS {k:Int} {tk:Tok} {Q:Bool->Shared->Prop} (S:jE s.heap a ks led) (room:ks.length+1<scanBound)
  (q:∀b h' ks',Heap.SameBut a s.heap h'->jE h' a ks' led->(k∈ks->ks'.Perm ks)->(k∉ks->ks'.Perm (ks++[k]))->Q b {s with heap:=h'}):wpAny (model prog w) A (setAddHashed a (.int k tk) (hashInt k)) Q E s:=by
 obtain ⟨o,es,ep,t,ho,hx,hd,hg,hk,nd,hb,hf,T⟩:=S;have hel:ElemsOf (intKind prog w) es.toList:=zJY hg;have sc:(Value.int k tk).scannable=true:=rfl;have isk:(intKind prog w).is k (.int k tk)=true:=intKind_is _ _ _ _;have len:ks.length=es.size:=by rw [<-hk,qA,qc]
 have idx:(k∈ks↔∃e∈es.toList,(intKind prog w).is k e.2=true):=by
  rw [<-hk,XE];exact ⟨λ⟨e,h1,h2⟩=>⟨e,h1,by rw [zHc (hg e h1)]; exact qK h2⟩,λ⟨e,h1,h2⟩=>⟨e,h1,by rw [zHc (hg e h1)] at h2; exact qZ h2⟩⟩
 unfold setAddHashed setAddHashedIn;refine Qt (qD (xQ ho hd hf ?_));dsimp only;rw [byScan_of sc hb hel,qO rfl];unfold setAddByScan;refine qD (qD (vN (qD (wpAny_setScan_of isk ho hd hf hel ?_))));cases hr:List.findIdx? (λe=>(intKind prog w).is k e.2) es.toList with
 | some j=>
  obtain ⟨hj,hpj,_⟩:=List.findIdx?_eq_some_iff_getElem.mp hr;have hm:k∈ks:=idx.mpr ⟨_,qg hj,hpj⟩;dsimp only;exact qI (qI (q false s.heap ks (Heap.SameBut.refl a s.heap) ⟨o,es,ep,t,ho,hx,hd,hg,hk,nd,hb,hf,T⟩ (λ_=>List.Perm.refl _) (λz=>v6 hm z)))
 | none=>
  have hn:k∉ks:=λz=>by
   obtain ⟨e,h1,h2⟩:=idx.mp z;have:=List.findIdx?_eq_none_iff.mp hr e h1;rw [h2] at this;cases this
  dsimp only;have gw:∀(b:Bool) {s1:Shared} {Q':Unit->Shared->Prop},Q' () s1->wpAny (model prog w) A (match b with | true=>rule "set.scan.the-table-gave-way" | false=>pure ()) Q' E s1:=λb s1 Q' z=>by
   cases b
   .exact qI z
   .exact vN z
  have p1:=layNew_perm t es (hashInt k) (.int k tk);have f1:=layNew_fits t es (hashInt k) (.int k tk);have T1:=T.layNew es (hashInt k) (.int k tk);generalize layNew t es (hashInt k) (.int k tk)=L at p1 f1 T1 ⊢;obtain ⟨es1,t1,wd,gv⟩:=L;dsimp only at p1 f1 T1 ⊢;rw [vi] at p1;have g1:∀e∈es1.toList,zCJ e:=λe he=>by
   rcases List.mem_append.mp (p1.mem_iff.mp he) with z | z
   .exact hg e z
   .rw [List.mem_singleton.mp z]; exact ⟨k,tk,rfl⟩
  have pk:(es1.toList.map jY).Perm (ks++[k]):=by
   have:=p1.map jY;rw [qN,hk] at this;exact this
  have nd1:(es1.toList.map jY).Nodup:=pk.nodup_iff.mpr (List.nodup_append.mpr ⟨nd,List.nodup_cons.mpr ⟨nofun,qr⟩,λx hx' y hy e=>hn (by rw [<-List.mem_singleton.mp hy,<-e]; exact hx')⟩);have b1:es1.size<scanBound:=by
   rw [<-qc,p1.length_eq,qJ,qc];show es.size+1<_;lia
  have fin:∀(g:Bool->Sem Unit) (_:∀(b:Bool) (s1:Shared) (Q':Unit->Shared->Prop),Q' () s1->wpAny (model prog w) A (g b) Q' E s1) (t2:SetTable),t2.fits es1.size=true->yg t2 led->wpAny (model prog w) A (do
    storeSet a es1 t2
    if (!wd&&t2.tooFull)=true then do
      g (relayAll t2 es1 (SetTable.grown es1.size)).2.2
      storeSet a (relayAll t2 es1 (SetTable.grown es1.size)).1 (relayAll t2 es1 (SetTable.grown es1.size)).2.1
      pure (some true)
     else pure (some true)) (λr s'=>wpAny (model prog w) A (match r with | some added=>pure added | none=>setAddHashedIn a (.int k tk) (hashInt k) 99999) Q E s') E s:=by
   intro g hg2 t2 f2 T2;refine qD (wpAny_storeSet_of ho hd ?_ (vj b1));obtain ⟨e1,S1⟩:=jE.store (led:=led) ho hx hd g1 nd1 b1 f2 T2;have sb:=Xb s.heap a (Obj.putSet es1 t2);by_cases hc:(!wd&&t2.tooFull)=true
   .rw [qO hc]
    have p2:=relayAll_perm t2 es1 (SetTable.grown es1.size);have f3:=relayAll_fits t2 es1 (SetTable.grown es1.size);have T3:=T2.relayAll es1 (SetTable.grown es1.size);generalize relayAll t2 es1 (SetTable.grown es1.size)=L at p2 f3 T3 ⊢;obtain ⟨es2,t3,gv2⟩:=L;dsimp only at p2 f3 T3 ⊢;have sz:es2.size=es1.size:=by rw [<-qc,p2.length_eq,qc]
    have pk2:=(p2.map jY).trans pk;refine qD (hg2 _ _ _ (qD (wpAny_storeSet_of e1 rfl ?_ (vj (by rw [sz]; exact b1)))));obtain ⟨_,S2⟩:=jE.store (led:=led) (es':=es2) (t':=t3) e1 hx rfl (λe he=>g1 e (p2.mem_iff.mp he)) ((p2.map jY).nodup_iff.mpr nd1) (by rw [sz]; exact b1) f3 T3;exact qI (qI (q true _ _ (sb.trans (Xb _ a _)) S2 (λz=>v6 z hn) λ_=>pk2))
   .rw [qP hc]
    exact qI (qI (q true _ _ sb S1 (λz=>v6 z hn) λ_=>pk))
  refine qD (gw _ ?_);split
  .refine qD ?_
   rw [hashByValue_scannable 8 sc];refine qI ?_;exact fin _ (λb s1 Q' z=>by cases b <;> first | exact qI z | exact vN z) _ (by split; exact f1; exact SetTable.fits_plain_off f1) (by split; exact T1; exact ⟨T1.up,T1.dum,T1.led⟩)
  .refine qD (qI ?_)
   exact fin _ (λb s1 Q' z=>by cases b <;> first | exact qI z | exact vN z) _ f1 T1
def zBG (w:World):Bool:= !w.params.followText "set-order"
def yd (w:World):Obj:={cls:= .type "set",dict:=none,data:= .set #[] 0 (.fresh 0 0 (zBG w))}
theorem zJV (e:h.get? a=some (yd w)):jE h a [] (zBG w):=
 ⟨_,#[],0, .fresh 0 0 (zBG w),e,⟨rfl,rfl,rfl⟩,rfl,nofun,rfl,qr,by show 0<scanBound; decide,rfl,⟨List.Pairwise.nil,rfl,rfl⟩⟩
theorem zNc (v:Value) {R:Value->Shared->Prop} (q:R (.ref s.heap.objs.size) {s with heap:=s.heap.push (yd w)}):codeAny (model prog w) A (.call (.builtin "set.__new__") ⟨[.type "set",v],[]⟩) (wants R E) s:=by
 refine codeAny_of_tree ?_
 change wpAny _ A.in1 (checkBuiltinCall "set.__new__" ⟨[.type "set",v],[]⟩ >>=λ_=>again (.builtin "set.__new__" ⟨[.type "set",v],[]⟩)) _ _ s
 refine qD (wpAny_of_eq (F.newCall_set_1 v) (qI ⟨xU F.plain_set_new _,Qu F.entry_set_new ?_⟩));rw [Qf F.plain_set_new _];unfold Builtin.«set.__new__» Builtin.Frozenset.newClass;have sub:=sub_set_self;obtain ⟨h0,g0,d0,t0,o0⟩:=s;dsimp only
 wp_walk
 refine XX (qI ?_);dsimp only;simp only [newObj];exact qD (wpAny_alloc (qI (qI q)))
theorem zNE {wr:List Addr} {St:Nat->Heap->Prop} (Z:Walks prog w A.in1 I fp wr n P St) (nS:S∉fp) (val:Nat->Int) (hv:∀i v,P i v->∃t,v= .int (val i) t) (hb:∀ks:List Int,ks.Nodup->(∀x∈ks,∃j<n,val j=x)->ks.length+1<scanBound):
  ∀(k i:Nat) (s:Shared) (ks:List Int),i+k=n->St i s.heap->jE s.heap S ks led->ks.length<=i->(∀x,x∈ks↔∃j<i,val j=x)->
   (∀h' tk ks',jE h' S ks' led->(∀x,x∈ks'↔∃j<n,val j=x)->(∀b o,b∉wr->b≠S->s.heap.get? b=some o->h'.get? b=some o)->R (.ok (.ret .none)) {s with heap:=h',toks:=tk})->
   codeAny (model prog w) A (.builtin "set.update.loop" ⟨[.ref S, .ref I],[]⟩) R s:=by
 have nW:S∉wr:=λz=>nS (Z.sub S z);intro k
 induction k with
 | zero=>
  intro i s ks hi hst hS _ hm q;have ei:i=n:=by lia
  subst ei;refine Qu F.entry_set_update_loop ?_;rw [Qf Xr _];refine qD (m:=pyNext (.ref I)) (Z.done s _ _ hst λh' tk kp=>?_);obtain ⟨o,es,ep,t,ho,rest⟩:=hS;exact qI (q h' tk ks ⟨o,es,ep,t,kp S _ nW ho,rest⟩ hm λb o h1 _ h3=>kp b o h1 h3)
 | succ k ih=>
  intro i s ks hi hst hS pF hm q;refine Qu F.entry_set_update_loop ?_;rw [Qf Xr _];refine qD (m:=pyNext (.ref I)) (Z.item i s _ _ (by lia) hst λv h1 t1 hP st1 kp=>?_);obtain ⟨tv,rfl⟩:=hv i v hP;have hS1:jE h1 S ks led:=by
   obtain ⟨o,es,ep,t,ho,rest⟩:=hS;exact ⟨o,es,ep,t,kp S _ nW ho,rest⟩
  refine qD (m:=holding [Value.int (val i) tv] (setAdd S (.int (val i) tv))) (Qt ?_);unfold setAdd;refine Qt (qD (wpAny_pyHash_int ?_));refine zLS (s:={s with heap:=h1,toks:=t1+1}) hS1 (hb ks (let ⟨_,_,_,_,_,_,_,_,_,nd,_⟩:=hS; nd) λx hx=>let ⟨j,h1,h2⟩:=(hm x).mp hx; ⟨j,by lia,h2⟩) λb h2 ks2 sb S2 c1 c2=>?_;have m2:∀x,x∈ks2↔∃j<i+1,val j=x:=λx=>by
   by_cases hin:val i∈ks
   .rw [(c1 hin).mem_iff,hm x]
    refine ⟨λ⟨j,h1,h2⟩=>⟨j,by lia,h2⟩,λ⟨j,h1,h2⟩=>?_⟩;by_cases e:j=i
    .rw [e] at h2
     rw [h2] at hin;exact (hm x).mp hin
    .exact ⟨j,by lia,h2⟩
   .rw [(c2 hin).mem_iff,vx,xc,hm x]
    refine ⟨λz=>z.elim (λ⟨j,h1,h2⟩=>⟨j,by lia,h2⟩) λe=>⟨i,by lia,e.symm⟩,λ⟨j,h1,h2⟩=>?_⟩;by_cases e:j=i
    .rw [e] at h2
     exact .inr h2.symm
    .exact .inl ⟨j,by lia,h2⟩
  have l2:ks2.length<=i+1:=by
   by_cases hin:val i∈ks
   .rw [(c1 hin).length_eq]; lia
   .rw [(c2 hin).length_eq,qJ]
    show ks.length+1<=_;lia
  refine qI ⟨xU Xr _,ih (i+1) _ ks2 (by lia) (Z.frame _ _ _ st1 λc hc o h=>?_) S2 l2 m2 λh' tk ks' S' m' kp'=>q h' tk ks' S' m' λc o h1' h2' h3'=>kp' c o h1' h2' ?_⟩
  .rw [sb.2 c (λz:c=S=>nS (by rw [<-z]; exact hc))]; exact h
  .show h2.get? c=some o
   rw [sb.2 c h2']; exact kp c o h1' h3'
set_option maxHeartbeats 6400000 in
theorem zKY {l:Addr} {Q:Value->Shared->Prop} (hh:A.handled=none) (hl:s.heap.IsList l items) (hi:IntsAre items.toList ns) (hb:∀ks:List Int,ks.Nodup->(∀x∈ks,x∈ns)->ks.length+1<scanBound)
  (q:∀h' tk ks,jE h' s.heap.objs.size ks (zBG w)->(∀x,x∈ks↔x∈ns)->(∀b o,b<s.heap.objs.size->s.heap.get? b=some o->h'.get? b=some o)->Q (.ref s.heap.objs.size) {s with heap:=h',toks:=tk}):wpAny (model prog w) A (call (.type "set") [.ref l]) Q E s:=by
 obtain ⟨c0,tl0,mro0⟩:=F.called_set.mro;have made0:=F.called_set.made;have sub0:=F.called_set.sub;have lt:l<s.heap.objs.size:=by obtain ⟨_,e,_⟩:=hl; exact qV e
 refine wpAny_call (codeAny_of_tree ?_)
 change wpAny _ _ (callAny (.type "set") _) _ _ _
 refine qI ⟨Code.quiet_builtin _ (by decide +kernel),Qu F.entry_type_call ?_⟩;rw [Around.under_plain (weight_type_call_type "set" [.ref l] []) rfl];have nt:=F.called_set.notType;have cc:=F.called_set.canCreate;have tc:=F.typeCall_set_1 (.ref l)
 repeat (any_goals (first | assumption | wp_step))
 refine Xe (zNc (.ref l) (E:=E) (R:=λob s1=>ob= .ref s.heap.objs.size/\s1={s with heap:=s.heap.push (yd w)}) ⟨rfl,rfl⟩) λr s1 hr=>?_;cases r with
 | error e=>exact hr
 | ok fl=>
  cases fl with
  | ret ob=>
   obtain ⟨rfl,rfl⟩:=hr;have eS:(s.heap.push (yd w)).get? s.heap.objs.size=some (yd w):=qW _ rfl;have tS:Shared.TypeIs {s with heap:=s.heap.push (yd w)} (.ref s.heap.objs.size) "set":=⟨_,eS,rfl⟩;have li:=F.called_set.init.lookup;have bi:=F.called_set.init.bind (.ref s.heap.objs.size)
   repeat (any_goals (first | assumption | wp_step))
   refine Xe (codeAny_call_builtin (R:=wants (λr s2=>r= .none/\∃h' tk ks,s2={s with heap:=h',toks:=tk}/\jE h' s.heap.objs.size ks (zBG w)/\(∀x,x∈ks↔x∈ns)/\(∀b o,b<s.heap.objs.size->s.heap.get? b=some o->h'.get? b=some o)) E) F.called_set.init.plain F.entry_set_init (check_set_init_1 tS ?_)) λr2 s2 hr2=>?_
   .have ll:(s.heap.push (yd w)).IsList l items:=hl.push _
    obtain ⟨⟨oc,od,odat,osl⟩,ho,hc,nl,hd⟩:=id ll;simp only at hc hd;subst hc hd;have s1:=F.sub_list_set;have s2:=F.sub_list_frozenset;have nd:(Value.type "list"==Value.type "dict")=false:=by decide
    unfold yd at eS;unfold Builtin.«set.__init__» noKeywords Builtin.Frozenset.updateFrom;generalize ePI:pyIter=PI
    wp_walk
    subst ePI;refine Xw ll (qD (wpAny_runValue ?_));have h3:A.in1.in1.in1.handled=none:=by simp [hh]
    have sz:(s.heap.push (yd w)).objs.size=s.heap.objs.size+1:=Qi ..;have ne:l≠(s.heap.push (yd w)).objs.size:=by rw [sz]; exact qb (QG lt)
    have nf:s.heap.objs.size∉[(s.heap.push (yd w)).objs.size,l]:=by
     rw [sz,Q2,xc];exact λz=>z.elim (λy=>v6 y (qb (Q0 _))) λy=>v6 y (XA lt)
    have hsz:ns.length=items.size:=by rw [<-hi.length,qc]
    refine zNE (Walks.list h3 _ l ne items) nf (λi=>ns.getD i 0) (λi v hv=>IntsAre.int_at hi i v (by rw [Qc]; exact hv)) (λks nd m=>hb ks nd λx hx=>by
     obtain ⟨j,hj,rfl⟩:=m x hx;rw [qC,qB (by lia)];exact qg _) items.size 0 _ [] (XD _)
     ⟨⟨_,qW _ rfl,rfl,rfl⟩,ll.push _⟩ (zJV (qH _ eS)) (QF _) (λx=>⟨(λz=>nomatch z),λ⟨j,hj,_⟩=>v6 hj (Qn _)⟩) λh' tk ks S' m' kp=>?_
    refine qI (qI ⟨rfl,h',tk,ks,rfl,S',λx=>?_,λb o hb' e=>?_⟩)
    .rw [m' x]
     constructor
     .rintro ⟨j,hj,rfl⟩
      rw [qC,qB (by lia)];exact qg _
     .intro hx
      obtain ⟨j,hj,e⟩:=List.mem_iff_getElem.mp hx;exact ⟨j,by lia,by rw [qC,qB hj]; exact e⟩
    .refine kp b o (λz=>?_) (qb hb') (qH _ (qH _ e))
     rw [xc,sz] at z;have y:=QG hb';rw [z] at y;exact v6 y (QQ _)
   .cases r2 with
    | error e=>exact hr2
    | ok fl2=>
     cases fl2 with
     | ret r=>
      obtain ⟨rfl,h',tk,ks,rfl,S',m',kp⟩:=hr2
      repeat (any_goals (first | assumption | wp_step))
      exact q _ _ _ S' m' kp
     | _=>exact hr2.elim
  | _=>exact hr.elim
theorem Zl:Slot "set_iterator" "__next__" "set_iterator.__next__":=
 .of (owner:="set_iterator") (n:="__next__") (by rw [typeLookup_type,vE]; kernel_rfl) (by decide +kernel) (by decide +kernel) (by decide +kernel) (by first | exact .inl (by decide +kernel) | exact .inr (by decide +kernel)) (by rw [isSubtype_type]; kernel_rfl)
theorem Yi:entryFor table "set_iterator.__next__"=some Builtin.«set_iterator.__next__»:=entryFor_of_fast (by kernel_rfl)
theorem Yx (a:Value):argsOk "set_iterator.__next__" ⟨[a],[]⟩:=by unfold argsOk; kernel_rfl
theorem zEO:entryFor table "set.__iter__"=some Builtin.«frozenset.__iter__»:=entryFor_alias (id':="frozenset.__iter__") (by kernel_rfl) rfl (by decide +kernel) (by kernel_rfl)
theorem zJm {Q:Nat->Shared->Prop} (hn:n≠0) (q:∀i d,i<n->Q i {s with drawn:=d}):wpAny M A (choose src n) Q E s:=
 λ_ _ _=>⟨hn,q _ _ (Nat.mod_lt _ (Nat.pos_of_ne_zero hn))⟩
theorem zCe {α:Type}:∀{l:List α} {i:Nat} (h:i<l.length),(l[i]::l.eraseIdx i).Perm l
 | _::_,0,_=>List.Perm.refl _
 | a::r,i+1,h=>((List.Perm.swap a _ _).trans (List.Perm.cons a (zCe (l:=r) (i:=i) (Nat.lt_of_succ_lt_succ h))))
theorem zKS (n:Nat):∀(xs:List α) (s:Shared) (Q:List α->Shared->Prop),xs.length<=n->(∀ys d,ys.Perm xs->Q ys {s with drawn:=d})->wpAny M A (drawOrder n xs) Q E s:=by
 induction n with
 | zero=>
  intro xs s Q hl q;have e:xs=[]:=List.length_eq_zero_iff.mp (by lia);subst e;exact qI (q [] s.drawn (List.Perm.refl _))
 | succ n ih=>
  intro xs s Q hl q;cases xs with
  | nil=>exact qI (q [] s.drawn (List.Perm.refl _))
  | cons x r=>
   unfold drawOrder;refine qD (zJm (by simp) λi d hi=>?_);rw [qB hi];refine qD (ih _ _ _ ?_ λys d' hp=>qI (q _ d' ?_))
   .rw [vf hi]
    rw [qT] at hl ⊢;lia
   .exact (List.Perm.cons _ hp).trans (zCe hi)
theorem zHn {α:Type} (next:Nat->Nat):∀(fuel k:Nat) (left:List α) (out:Array α),left.length=fuel->(pickOrder.go next fuel k left out).toList.Perm (out.toList++left)
 | 0,k,[],out,_=>by show out.toList.Perm _; rw [qv]
 | fuel+1,k,left,out,hl=>by
  have hi:next k % left.length<left.length:=Nat.mod_lt _ (by lia);unfold pickOrder.go;rw [qB hi];refine (zHn next fuel (k+1) _ _ (by rw [vf hi]; lia)).trans ?_;rw [vi,xS];exact List.Perm.append_left _ (zCe hi)
theorem zKF (next:Nat->Nat) (xs:Array α):(pickOrder next xs).toList.Perm xs.toList:=zHn next _ 0 _ #[] (qc)
def zBp (place:Array Nat) (i:Nat):Nat:=if i=0 then 0 else place.getD (i - 1) 0+1
theorem Jf.uniq {b c:Nat} (B:Jf xs j b) (C:Jf xs j c):b=c:=by
 rcases xr b c with z | z | z
 .have h1:=C.lo b z
  have h2:=B.hi b (qG _) (by have:=C.le; lia);lia
 .exact z
 .have h1:=B.lo c z
  have h2:=C.hi c (qG _) (by have:=B.le; lia);lia
theorem zBi (u:UpP xs) (hi:i<=xs.size):SetTable.below xs (zBp xs i)=i:=by
 refine (zCr u _).uniq ?_;unfold zBp;by_cases h0:i=0
 .rw [qO h0,h0]
  exact ⟨QF _,λk h=>v6 h (Qn _),λk _ _=>QF _⟩
 .rw [qP h0]
  refine ⟨hi,λk hk=>?_,λk h1 h2=>?_⟩
  .by_cases e:k=i - 1
   .rw [e]; exact Q0 _
   .have:=u.at (show k<i - 1 by lia) (by lia)
    lia
  .exact u.at (show i - 1<k by lia) h2
section
variable {t:SetTable}
theorem zEh {Q:Option (Value×Nat)->Shared->Prop} (ho:s.heap.get? a=some o) (hd:o.data= .set es ep t) (hf:t.fits es.size=true) (hT:w.params.followText "set-order"=true)
  (q:Q (((pickOrder (w.params.setOrder a ep) es)[given]?).map λe=>(e.2,slot)) s):wpAny (model prog w) A (setNext a slot given ep) Q E s:=by
 have by_:∀{Q':Bool->Shared->Prop},Q' true s->wpAny (model prog w) A setsByText Q' E s:=λz=>by
  unfold setsByText;have z':=z;rw [<-hT] at z';exact qD (XX (qI z'))
 unfold setNext;refine qD (xQ ho hd hf (qD (by_ ?_)));rw [qO rfl];dsimp only;rw [qP (by simp)];unfold setWalk;refine qD (qD (xQ ho hd hf (qD (by_ ?_))));rw [qO rfl];exact qD (XX (qI (qI q)))
theorem zGM {Q:Option (Value×Nat)->Shared->Prop} (ho:s.heap.get? a=some o) (hd:o.data= .set es ep t) (hf:t.fits es.size=true) (hT:w.params.followText "set-order"=false) (hl:t.led=true) (hp:(!t.plain&&decide (es.size > 1))=false)
  (q:Q (match es[SetTable.below t.place slot]?,t.place[SetTable.below t.place slot]? with | some (_,x),some j=>some (x,j+1) | _,_=>none) s):wpAny (model prog w) A (setNext a slot given ep) Q E s:=by
 have by_:∀{Q':Bool->Shared->Prop},Q' false s->wpAny (model prog w) A setsByText Q' E s:=λz=>by
  unfold setsByText;have z':=z;rw [<-hT] at z';exact qD (XX (qI z'))
 unfold setNext;refine qD (xQ ho hd hf (qD (by_ ?_)));rw [qP qR];dsimp only
 change wpAny _ _ (if (!t.plain&&decide (es.size > 1))=true then _ else _) _ _ _
 rw [qP (by rw [hp]; exact qR)]
 change wpAny _ _ ((if (!t.led&& !es.isEmpty)=true then _ else _) >>=_) _ _ _
 rw [qP (by rw [hl]; exact qR)];exact qD (qI (qI q))
end
def itO (first:Value) (i n ep:Nat) (a:Addr):Obj:={cls:= .type "set_iterator",dict:=none,data:= .fields #[first,rawInt i, .ref a,rawInt n,rawInt ep],slots:=#[]}
section
variable {t:SetTable}
theorem jg {Q:Array (Int×Value)->Shared->Prop} (ho:s.heap.get? a=some o) (hd:o.data= .set es ep t) (hf:t.fits es.size=true) (q:Q es s):wpAny (model prog w) A (setEntries a) Q E s:=by
 unfold setEntries;exact qD (xQ ho hd hf (qI q))
theorem zHg (hh:A.handled=none) (q:∀h',(∀b o,s.heap.get? b=some o->h'.get? b=some o)->∀x,(∃oo,h'.get? x=some oo/\oo.cls= .type "StopIteration")->wpAny (model prog w) A (K (.ref x)) Q E {s with heap:=h'}):
  wpAny (model prog w) A.in1 (newExc (.type "StopIteration") [] >>=λx=>raiseNew (α:=Fin) x) (λ_ _=>False) (λe s'=>wpAny (model prog w) A (K e) Q E s') s:=by
 refine qD ?_;simp only [newExc,newTuple];refine qD (Qd ?_ (by size_fits));refine qD (m:=firstArgMember _ _) (wpAny_of_eq (a:=Value.none) (by first | rfl | (simp only [firstArgMember]; rfl)) ?_);refine Qd ?_ (by size_fits);simp only [raiseNew];refine qD (wpAny_handled ?_);rw [show A.in1.handled=none from hh];refine qD (qI (wpAny_throw ?_));exact q _ (λb o e=>qH _ (qH _ e)) _ ⟨_,qW _ rfl,rfl⟩
theorem zKP {sl sl':Nat} (hI:s.heap.get? I=some (itO (rawInt sl) i n ep a)) (ho:s.heap.get? a=some o) (hd:o.data= .set es ep t) (hf:t.fits es.size=true) (hz:es.size=n)
  (hn:∀(E':Value->Shared->Prop) (Q':Option (Value×Nat)->Shared->Prop),Q' (some (v,sl')) s->wpAny (model prog w) A.in1 (setNext a sl i ep) Q' E' s)
  (q:∀h',h'.get? I=some (itO (rawInt sl') (i+1) n ep a)->Heap.SameBut I s.heap h'->Q (some v) {s with heap:=h'}):wpAny (model prog w) A (pyNext (.ref I)) Q E s:=by
 have ty:s.TypeIs (.ref I) "set_iterator":=⟨_,hI,rfl⟩;unfold pyNext;refine qD (Xa (Q3 (name:=Str.ofString "__next__") ty Zl (Qs Zl ty Yi ?_ (Yx _))))
 change wpAny _ _ (fieldsOf (.ref I) >>=_) _ _ s
 refine qD (xY hI rfl ?_)
 change wpAny _ _ (setEntries a >>=_) _ _ s
 refine qD (jg ho hd hf ?_);rw [hz]
 change wpAny _ _ (if (((n:Nat):Int) !=((n:Nat):Int))=true then _ else _) _ _ s
 rw [qP (by simp)]
 change wpAny _ _ (setNext a ((sl:Nat):Int).toNat ((i:Nat):Int).toNat ((ep:Nat):Int).toNat >>=_) _ _ s
 rw [qy,qy,qy];refine qD (hn _ _ ?_)
 change wpAny _ _ (setField (.ref I) 0 (rawInt (sl':Nat)) >>=_) _ _ s
 refine qD (xf hI (by simp) λh1 e1 sb1=>?_);refine qD (m:=setField (.ref I) 1 (rawInt (((i:Nat):Int)+1))) (xf e1 (by simp) λh2 e2 sb2=>qI ⟨v,rfl,qI (q _ ?_ (sb1.trans sb2))⟩);exact e2
theorem zNY {sl:Nat} (hh:A.handled=none) (hI:s.heap.get? I=some (itO (rawInt sl) i n ep a)) (ho:s.heap.get? a=some o) (hd:o.data= .set es ep t) (hf:t.fits es.size=true) (hz:es.size=n)
  (hn:∀(E':Value->Shared->Prop) (Q':Option (Value×Nat)->Shared->Prop),Q' none s->wpAny (model prog w) A.in1 (setNext a sl i ep) Q' E' s)
  (q:∀h',Heap.ExtBut I s.heap h'->Q none {s with heap:=h'}):wpAny (model prog w) A (pyNext (.ref I)) Q E s:=by
 have ty:s.TypeIs (.ref I) "set_iterator":=⟨_,hI,rfl⟩;unfold pyNext;refine qD (Xa (Q3 (name:=Str.ofString "__next__") ty Zl (Qs Zl ty Yi ?_ (Yx _))))
 change wpAny _ _ (fieldsOf (.ref I) >>=_) _ _ s
 refine qD (xY hI rfl ?_)
 change wpAny _ _ (setEntries a >>=_) _ _ s
 refine qD (jg ho hd hf ?_);rw [hz]
 change wpAny _ _ (if (((n:Nat):Int) !=((n:Nat):Int))=true then _ else _) _ _ s
 rw [qP (by simp)]
 change wpAny _ _ (setNext a ((sl:Nat):Int).toNat ((i:Nat):Int).toNat ((ep:Nat):Int).toNat >>=_) _ _ s
 rw [qy,qy,qy];refine qD (hn _ _ ?_)
 change wpAny _ _ (setField (.ref I) 2 .none >>=_) _ _ s
 refine qD (xf hI (by simp) λh1 e1 sb1=>?_);refine xC (zHg (A:=A) (s:={s with heap:=h1}) hh λh2 kp x ⟨oo,e2,c2⟩=>?_) (λ_ _ z=>z.elim) λe s' z=>z;refine qD (XY (T:="StopIteration") (b:=true) ⟨oo,e2,c2⟩ isSubtype_stop ?_);exact qI (q _ λb ob hb e=>kp b ob (sb1.extBut b ob hb e))
theorem zMw {Q:Value->Shared->Prop} (ho:s.heap.get? a=some o) (hd:o.data= .set es ep t) (hf:t.fits es.size=true) (he:es[p]?=some e) (q:Q e.2 s):wpAny (model prog w) A (setNextDrawn a p ep) Q E s:=by
 unfold setNextDrawn;refine qD (xQ ho hd hf ?_);dsimp only;rw [qP (by simp),he];exact qI q
theorem zKg (hI:s.heap.get? I=some (itO (.ref T) i n ep a)) (hT:IsTup s.heap T (ps.map λp:Nat=>rawInt p).toArray) (ho:s.heap.get? a=some o) (hd:o.data= .set es ep t) (hf:t.fits es.size=true) (hz:es.size=n)
  (hp:ps[i]?=some p) (he:es[p]?=some e) (q:∀h',h'.get? I=some (itO (.ref T) (i+1) n ep a)->Heap.SameBut I s.heap h'->Q (some e.2) {s with heap:=h'}):wpAny (model prog w) A (pyNext (.ref I)) Q E s:=by
 have ty:s.TypeIs (.ref I) "set_iterator":=⟨_,hI,rfl⟩;obtain ⟨ot,hot,_,nt,hdt⟩:=hT;unfold pyNext;refine qD (Xa (Q3 (name:=Str.ofString "__next__") ty Zl (Qs Zl ty Yi ?_ (Yx _))))
 change wpAny _ _ (fieldsOf (.ref I) >>=_) _ _ s
 refine qD (xY hI rfl ?_)
 change wpAny _ _ (setEntries a >>=_) _ _ s
 refine qD (jg ho hd hf ?_);rw [hz]
 change wpAny _ _ (if (((n:Nat):Int) !=((n:Nat):Int))=true then _ else _) _ _ s
 rw [qP (by simp)]
 change wpAny _ _ (seqItems? (.ref T) >>=_) _ _ s
 refine qD (xy hot hdt ?_);have ep':(ps.map λp:Nat=>rawInt p).toArray[((i:Nat):Int).toNat]?=some (rawInt p):=by rw [qy,vD,qM,hp]; rfl
 dsimp only;rw [ep']
 change wpAny _ _ (setNextDrawn a ((p:Nat):Int).toNat ((ep:Nat):Int).toNat >>=_) _ _ s
 rw [qy,qy];refine qD (zMw ho hd hf he ?_);refine qD (m:=setField (.ref I) 1 (rawInt (((i:Nat):Int)+1))) (xf hI (by simp) λh2 e2 sb2=>qI ⟨e.2,rfl,qI (q _ ?_ sb2)⟩);exact e2
theorem zLE (hh:A.handled=none) (hI:s.heap.get? I=some (itO (.ref T) i n ep a)) (hT:IsTup s.heap T (ps.map λp:Nat=>rawInt p).toArray) (ho:s.heap.get? a=some o) (hd:o.data= .set es ep t) (hf:t.fits es.size=true) (hz:es.size=n)
  (hp:ps[i]?=none) (q:∀h',Heap.ExtBut I s.heap h'->Q none {s with heap:=h'}):wpAny (model prog w) A (pyNext (.ref I)) Q E s:=by
 have ty:s.TypeIs (.ref I) "set_iterator":=⟨_,hI,rfl⟩;obtain ⟨ot,hot,_,nt,hdt⟩:=hT;unfold pyNext;refine qD (Xa (Q3 (name:=Str.ofString "__next__") ty Zl (Qs Zl ty Yi ?_ (Yx _))))
 change wpAny _ _ (fieldsOf (.ref I) >>=_) _ _ s
 refine qD (xY hI rfl ?_)
 change wpAny _ _ (setEntries a >>=_) _ _ s
 refine qD (jg ho hd hf ?_);rw [hz]
 change wpAny _ _ (if (((n:Nat):Int) !=((n:Nat):Int))=true then _ else _) _ _ s
 rw [qP (by simp)]
 change wpAny _ _ (seqItems? (.ref T) >>=_) _ _ s
 refine qD (xy hot hdt ?_);have ep':(ps.map λp:Nat=>rawInt p).toArray[((i:Nat):Int).toNat]?=none:=by rw [qy,vD,qM,hp]; rfl
 dsimp only;rw [ep']
 change wpAny _ _ (setField (.ref I) 0 (rawInt 0) >>=_) _ _ s
 refine qD (xf hI (by simp) λh0 e0 sb0=>?_)
 change wpAny _ _ (setField (.ref I) 2 .none >>=_) _ _ _
 refine qD (xf e0 (by simp) λh1 e1 sb1=>?_);refine xC (zHg (A:=A) (s:={s with heap:=h1}) hh λh2 kp x ⟨oo,e2,c2⟩=>?_) (λ_ _ z=>z.elim) λe s' z=>z;refine qD (XY (T:="StopIteration") (b:=true) ⟨oo,e2,c2⟩ isSubtype_stop ?_);exact qI (q _ λb ob hb e=>kp b ob ((sb0.trans sb1).extBut b ob hb e))
theorem zLw {Q:Value->Shared->Prop} (ho:s.heap.get? a=some o) (hx:o.ExactSet) (hd:o.data= .set es ep t) (hf:t.fits es.size=true)
  (q1:(w.params.followText "set-order"=true\/(!t.plain&&decide (es.size > 1))=false)->Q (.ref s.heap.objs.size) {s with heap:=s.heap.push (itO (rawInt 0) 0 es.size ep a)})
  (q2:∀(ps:List Nat) (d:Drawn),ps.Perm (List.range es.size)->Q (.ref (s.heap.objs.size+1)) {s with heap:=(s.heap.push {cls:= .type "tuple",data:= .seq (ps.map λp:Nat=>rawInt p).toArray}).push (itO (.ref s.heap.objs.size) 0 es.size ep a),drawn:=d}) (hsz:es.size<=sizeLine):wpAny (model prog w) A (pyIter (.ref a)) Q E s:=by
 have ty:s.TypeIs (.ref a) "set":=⟨o,ho,hx.1⟩;refine wpAny_pyIter_slot ty PySem.F.slot_set_iter (Qs PySem.F.slot_set_iter ty zEO ?_ (PySem.F.args_set_iter_1 _));unfold Builtin.«frozenset.__iter__»
 change wpAny _ _ (Builtin.Frozenset.sizeOf a >>=_) _ _ s
 unfold Builtin.Frozenset.sizeOf;refine qD (qD (jg ho hd hf (qI ?_)));unfold setDrawn;refine qD (qD (xQ ho hd hf ?_));unfold setsByText;refine qD (qD (XX (qI (qI ?_))))
 change wpAny _ _ (if (!w.params.followText "set-order"&&(!t.plain&&decide (es.size > 1)))=true then _ else _) _ _ _
 by_cases hc:(!w.params.followText "set-order"&&(!t.plain&&decide (es.size > 1)))=true
 .rw [qO hc]
  refine qD (zKS es.size (List.range es.size) s _ (by rw [QB]; exact qG _) λps d hp=>?_);have hl:(ps.map λp:Nat=>rawInt p).length<=sizeLine:=by rw [qA,hp.length_eq,QB]; exact hsz
  unfold newTuple;refine qD (Qd ?_ (by first | exact hl | simpa using hl));refine qD (m:=setEpoch a) (wpAny_setEpoch_of (qH _ ho) hd hf ?_);have sz:(s.heap.push {cls:= .type "tuple",data:= .seq (ps.map λp:Nat=>rawInt p).toArray}).objs.size=s.heap.objs.size+1:=Qi ..;refine qD (Qd (qI ⟨_,rfl,"set_iterator",_,⟨_,qW _ rfl,rfl⟩,Zl.lookup,?_⟩));have z:=q2 ps d hp;rw [<-sz] at z;exact z
 .rw [qP hc]
  refine qD (qI ?_);refine qD (m:=setEpoch a) (wpAny_setEpoch_of ho hd hf ?_);refine qD (Qd (qI ⟨_,rfl,"set_iterator",_,⟨_,qW _ rfl,rfl⟩,Zl.lookup,q1 ?_⟩));cases hT:w.params.followText "set-order" with
  | true=>exact .inl rfl
  | false=>
   rw [hT] at hc;exact .inr (Bool.eq_false_iff.mpr hc)
end
structure zJJ (prog:Program) (w:World) (A:Around) (I:Addr) (fp:List Addr) (vs:List Value) (St:Nat->Heap->Prop):Prop where
 inI:I∈fp
 frame:∀i h h',St i h->(∀b∈fp,∀o,h.get? b=some o->h'.get? b=some o)->St i h'
 item:∀(i:Nat) (v:Value) (s:Shared) (Q:Option Value->Shared->Prop) (E:Value->Shared->Prop),vs[i]?=some v->St i s.heap->(∀h',St (i+1) h'->(∀b o,b≠I->s.heap.get? b=some o->h'.get? b=some o)->Q (some v) {s with heap:=h'})->wpAny (model prog w) A (pyNext (.ref I)) Q E s
 done:∀(s:Shared) (Q:Option Value->Shared->Prop) (E:Value->Shared->Prop),St vs.length s.heap->(∀h',(∀b o,b≠I->s.heap.get? b=some o->h'.get? b=some o)->Q none {s with heap:=h'})->wpAny (model prog w) A (pyNext (.ref I)) Q E s
theorem zFY {St:Nat->Heap->Prop} (Z:zJJ prog w A.in1 I fp vs St) (nS:S∉fp) (hz:vs.length<=sizeLine):∀(k i:Nat) (s:Shared) (acc:Array Value) (c:Nat),i+k=vs.length->St i s.heap->
  s.heap.get? S=some {cls:= .type "list",dict:=none,data:= .seq acc c,slots:=#[]}->acc.toList=vs.take i->
  (∀h' acc' c',acc'.toList=vs->h'.get? S=some {cls:= .type "list",dict:=none,data:= .seq acc' c',slots:=#[]}->(∀b o,b≠I->b≠S->s.heap.get? b=some o->h'.get? b=some o)->R (.ok (.ret res)) {s with heap:=h'})->
  codeAny (model prog w) A (.builtin "list.extend.loop" ⟨[.ref S, .ref I,res],[]⟩) R s:=by
 have SI:S≠I:=λz=>nS (by rw [z]; exact Z.inI);intro k
 induction k with
 | zero=>
  intro i s acc c hi hst hS ha q;have ei:i=vs.length:=by lia
  subst ei;refine Qu F.entry_extend_loop ?_;rw [Qf xX _];refine qD (m:=pyNext (.ref I)) (Z.done s _ _ hst λh' kp=>?_);exact qI (q h' acc c (by rw [ha,xF]) (kp S _ SI hS) λb o h1 _ h3=>kp b o h1 h3)
 | succ k ih=>
  intro i s acc c hi hst hS ha q;have pL:i<vs.length:=by lia
  have sza:acc.size=i:=by rw [<-qc,ha,QC]; lia
  refine Qu F.entry_extend_loop ?_;rw [Qf xX _];refine qD (m:=pyNext (.ref I)) (Z.item i vs[i] s _ _ (qB pL) hst λh1 st1 kp=>?_);have hS1:=kp S _ SI hS;refine qD (m:=updateSeq S (·.push vs[i])) (xi hS1 rfl (qI ⟨xU xX _,ih (i+1) _ (acc.push vs[i]) _ (by lia) (Z.frame _ _ _ st1 λb hb o h=>?_) (Qk _ hS1 rfl) ?_ λh' acc' c' h1' h2' h3'=>q h' acc' c' h1' h2' λb o b1 b2 b3=>h3' b o b1 b2 ?_⟩) (by rw [sza]; lia) (by show (acc.push vs[i]).size<=sizeLine+1; rw [Array.size_push,sza]; lia))
  .rw [QI _ _ (λz:S=b=>nS (by rw [z]; exact hb))]; exact h
  .rw [vi,ha,QR,qB pL]; rfl
  .rw [QI _ _ (Ne.symm b2)]; exact kp b o b1 b3
theorem zMm {Q:Bool->Shared->Prop} (ty:s.TypeIs (.ref a) "set") (q:Q false s):wpAny (model prog w) A (Builtin.List.listLengthHint (.ref a)) Q E s:=by
 unfold Builtin.List.listLengthHint;refine qD (vL ty PySem.F.slot_set_len.lookup ?_);generalize eid:("set.__len__":String)=id1
 wp_delta
 rw [show splitId id1=some ("set","__len__") from by subst eid; decide +kernel];subst eid;refine qD (XY (T:="set") (b:=true) ty (by rw [isSubtype_type]; kernel_rfl) ?_);refine Q8 (λz=>v6 z (by decide)) (λ_=>?_);refine Q8 (λ_=>?_) (λz=>v6 (by decide +kernel) z);exact qD (wpAny_typeOf ty (qI q))
theorem zNB {Q:Value->Shared->Prop} (hh:A.handled=none) (hS:jE s.heap a ks (zBG w))
  (q:∀(I:Addr) (fp:List Addr) (vs:List Value) (ks':List Int) (St:Nat->Heap->Prop) (h':Heap) (d:Drawn),IntsAre vs ks'->ks'.Perm ks->zJJ prog w A I fp vs St->St 0 h'->s.heap.objs.size<=I->(∀b∈fp,b<h'.objs.size)->(∀b∈fp,s.heap.objs.size<=b\/b=a)->(∀b o,s.heap.get? b=some o->h'.get? b=some o)->Q (.ref I) {s with heap:=h',drawn:=d}):
  wpAny (model prog w) A (pyIter (.ref a)) Q E s:=by
 obtain ⟨o,es,ep,t,ho,hx,hd,hg,hk,nd,hb,hf,T⟩:=hS;have la:a<s.heap.objs.size:=qV ho;have allI:∀(l:List (Int×Value)),(∀e∈l,zCJ e)->IntsAre (l.map (·.2)) (l.map jY):=by
  intro l
  induction l with
  | nil=>intro _; exact .nil
  | cons e r ih=>
   intro h;obtain ⟨k,tk,rfl⟩:=h e qE;exact .cons k tk (ih λe he=>h e (qF _ he))
 have szI:∀x:Obj,(s.heap.push x).objs.size=s.heap.objs.size+1:=λx=>Qi ..;refine zLw ho hx hd hf (λhm=>?_) (λps d hp=>?_) (vj hb)
 .have fr:∀{sl:Nat->Nat} (i:Nat) (h h':Heap),(h.get? s.heap.objs.size=some (itO (rawInt (sl i)) i es.size ep a)/\h.get? a=some o)->(∀b∈[s.heap.objs.size,a],∀o,h.get? b=some o->h'.get? b=some o)->(h'.get? s.heap.objs.size=some (itO (rawInt (sl i)) i es.size ep a)/\h'.get? a=some o):=λi h h' st kp=>⟨kp _ (by simp) _ st.1,kp _ (by simp) _ st.2⟩
  have mk:∀(sl:Nat->Nat) (l:List (Int×Value)),sl 0=0->l.Perm es.toList->
    (∀(s1:Shared) (i:Nat) (v:Value),(l.map (·.2))[i]?=some v->s1.heap.get? a=some o->∀(E':Value->Shared->Prop) (Q':Option (Value×Nat)->Shared->Prop),Q' (some (v,sl (i+1))) s1->wpAny (model prog w) A.in1 (setNext a (sl i) i ep) Q' E' s1)->
    (∀(s1:Shared),s1.heap.get? a=some o->∀(E':Value->Shared->Prop) (Q':Option (Value×Nat)->Shared->Prop),Q' none s1->wpAny (model prog w) A.in1 (setNext a (sl l.length) l.length ep) Q' E' s1)->
    Q (.ref s.heap.objs.size) {s with heap:=s.heap.push (itO (rawInt 0) 0 es.size ep a)}:=by
   intro sl l h0 hp h1 h2;refine q s.heap.objs.size [s.heap.objs.size,a] (l.map (·.2)) (l.map jY) (λi h=>h.get? s.heap.objs.size=some (itO (rawInt (sl i)) i es.size ep a)/\h.get? a=some o) _ s.drawn (allI l λe he=>hg e (hp.mem_iff.mp he)) (by rw [<-hk]; exact hp.map jY) ⟨by simp,fr,λi v s1 Q' E' hv st q'=>?_,λs1 Q' E' st q'=>?_⟩
    ⟨by rw [h0]; exact qW _ rfl,qH _ ho⟩ (qG _) (λb hb'=>?_) (λb hb'=>?_) (λb ob e=>qH _ e)
   .refine zKP st.1 st.2 hd hf rfl (λE' Q'' z=>h1 s1 i v hv st.2 E' Q'' z) λh' e' sb=>q' h' ⟨e',?_⟩ λb ob hb' e=>sb.extBut b ob hb' e
    exact sb.extBut a o (qb la) st.2
   .have st2:=st
    rw [qA] at st2;exact zNY hh st2.1 st2.2 hd hf rfl (λE' Q'' z=>h2 s1 st2.2 E' Q'' z) λh' eb=>q' h' λb ob hb' e=>eb b ob hb' e
   .rw [szI]
    rcases List.mem_cons.mp hb' with z | z
    .rw [z]; exact Q0 _
    .rw [List.mem_singleton.mp z]; exact QG la
   .rcases List.mem_cons.mp hb' with z | z
    .exact .inl (by rw [z]; exact qG _)
    .exact .inr (List.mem_singleton.mp z)
  cases hT:w.params.followText "set-order" with
  | true=>
   refine mk (λ_=>0) (pickOrder (w.params.setOrder a ep) es).toList rfl (zKF _ _) (λs1 i v hv e1 E' Q' z=>?_) (λs1 e1 E' Q' z=>?_)
   .refine zEh e1 hd hf hT ?_
    rw [qM] at hv;cases he:(pickOrder (w.params.setOrder a ep) es).toList[i]? with
    | none=>rw [he] at hv; cases hv
    | some x=>
     rw [he] at hv;have he':(pickOrder (w.params.setOrder a ep) es)[i]?=some x:=by rw [<-Qc]; exact he
     rw [he'];cases hv;exact z
   .refine zEh e1 hd hf hT ?_
    have he':(pickOrder (w.params.setOrder a ep) es)[(pickOrder (w.params.setOrder a ep) es).toList.length]?=none:=by rw [<-Qc]; exact Qj (qG _)
    rw [he'];exact z
  | false=>
   have hp:(!t.plain&&decide (es.size > 1))=false:=by
    rcases hm with z | z
    .rw [hT] at z; cases z
    .exact z
   have hl:t.led=true:=by rw [T.led]; unfold zBG; rw [hT]; rfl
   have psz:t.place.size=es.size:=by
    have:=hf;simp only [SetTable.fits,QV,Xo] at this;exact this.1
   refine mk (zBp t.place) es.toList rfl (List.Perm.refl _) (λs1 i v hv e1 E' Q' z=>?_) (λs1 e1 E' Q' z=>?_)
   .refine zGM e1 hd hf hT hl hp ?_
    rw [qM] at hv;cases he:es.toList[i]? with
    | none=>rw [he] at hv; cases hv
    | some x=>
     rw [he] at hv;have hi:i<es.size:=by
      have:=(List.getElem?_eq_some_iff.mp he).1;rw [qc] at this;exact this
     have he':es[i]?=some x:=by rw [<-Qc]; exact he
     rw [zBi T.up (by lia),he',qx (by lia)];cases hv;have e2:zBp t.place (i+1)=t.place[i]+1:=by
      unfold zBp;rw [qP (Nat.succ_ne_zero _),Xi,QS,qx (by lia)];rfl
     rw [e2] at z;exact z
   .refine zGM e1 hd hf hT hl hp ?_
    rw [qc,zBi T.up (by lia)];have he':es[es.size]?=none:=Array.getElem?_eq_none (qG _);rw [he'];exact z
 .have psl:ps.length=es.size:=by rw [hp.length_eq,QB]
  have at_:∀{i p:Nat},ps[i]?=some p->p<es.size:=λh=>List.mem_range.mp (hp.mem_iff.mp (qp h));have lsp:(ps.filterMap λp=>es[p]?).Perm es.toList:=(hp.filterMap _).trans (by rw [filterMap_getElem?_range]);have lat:∀(i:Nat),(ps.filterMap λp=>es[p]?)[i]?=(ps[i]?).bind λp=>es[p]?:=by
   have key:∀(ps:List Nat),(∀p∈ps,p<es.size)->∀i:Nat,(ps.filterMap λp=>es[p]?)[i]?=(ps[i]?).bind λp=>es[p]?:=by
    intro ps
    induction ps with
    | nil=>intro _ i; rfl
    | cons p r ih=>
     intro h i;have hpl:=h p qE;rw [xW,qx hpl];cases i with
     | zero=>show some es[p]=es[p]?; rw [qx hpl]
     | succ i=>exact ih (λx hx=>h x (qF _ hx)) i
   exact key ps λp h=>List.mem_range.mp (hp.mem_iff.mp h)
  have tl:(s.heap.push {cls:= .type "tuple",data:= .seq (ps.map λp:Nat=>rawInt p).toArray}).get? s.heap.objs.size=some {cls:= .type "tuple",data:= .seq (ps.map λp:Nat=>rawInt p).toArray}:=qW _ rfl;refine q (s.heap.objs.size+1) [s.heap.objs.size+1,s.heap.objs.size,a] ((ps.filterMap λp=>es[p]?).map (·.2)) ((ps.filterMap λp=>es[p]?).map jY)
   (λi h=>h.get? (s.heap.objs.size+1)=some (itO (.ref s.heap.objs.size) i es.size ep a)/\h.get? s.heap.objs.size=some {cls:= .type "tuple",data:= .seq (ps.map λp:Nat=>rawInt p).toArray}/\h.get? a=some o) _ d
   (allI _ λe he=>hg e (lsp.mem_iff.mp he)) (by rw [<-hk]; exact lsp.map jY) ⟨by simp,λi h h' st kp=>⟨kp _ (by simp) _ st.1,kp _ (by simp) _ st.2.1,kp _ (by simp) _ st.2.2⟩,λi v s1 Q' E' hv st q'=>?_,λs1 Q' E' st q'=>?_⟩
   ⟨by rw [<-szI {cls:= .type "tuple",data:= .seq (ps.map λp:Nat=>rawInt p).toArray}]; exact qW _ rfl,qH _ tl,qH _ (qH _ ho)⟩ (xM _) (λb hb'=>?_) (λb hb'=>?_) (λb ob e=>qH _ (qH _ e))
  .rw [qM,lat i] at hv
   cases hpi:ps[i]? with
   | none=>rw [hpi] at hv; cases hv
   | some p=>
    rw [hpi] at hv;have hv':(es[p]?).map (·.2)=some v:=hv;rw [qx (at_ hpi)] at hv';cases hv';refine zKg st.1 ⟨_,st.2.1,rfl,0,rfl⟩ st.2.2 hd hf rfl hpi (qx (at_ hpi)) λh' e' sb=>q' h' ⟨e',?_,?_⟩ λb ob hb' e=>sb.extBut b ob hb' e
    .exact sb.extBut _ _ (qb (Q0 _)) st.2.1
    .exact sb.extBut a o (qb (QG la)) st.2.2
  .have ln:((ps.filterMap λp=>es[p]?).map (·.2)).length=ps.length:=by rw [qA,lsp.length_eq,qc,psl]
   have st2:=st;rw [ln] at st2;exact zLE hh st2.1 ⟨_,st2.2.1,rfl,0,rfl⟩ st2.2.2 hd hf rfl (Qj (qG _)) λh' eb=>q' h' λb ob hb' e=>eb b ob hb' e
  .rw [Qi,szI]
   rcases List.mem_cons.mp hb' with z | z
   .rw [z]; exact Q0 _
   .rcases List.mem_cons.mp z with z | z
    .rw [z]; exact QG (Q0 _)
    .rw [List.mem_singleton.mp z]; exact QG (QG la)
  .rcases List.mem_cons.mp hb' with z | z
   .exact .inl (by rw [z]; exact xM _)
   .rcases List.mem_cons.mp z with z | z
    .exact .inl (by rw [z]; exact qG _)
    .exact .inr (List.mem_singleton.mp z)
theorem zHC {R:List Value->Shared->Prop} (hh:A.handled=none) (hS:jE s.heap a ks (zBG w)) (hz:ks.length<=sizeLine)
  (q:∀(vs:List Value) (ks':List Int) (h':Heap) (d:Drawn),IntsAre vs ks'->ks'.Perm ks->(∀b o,s.heap.get? b=some o->h'.get? b=some o)->R vs {s with heap:=h',drawn:=d}):wpAny (model prog w) A (collect (.ref a)) R E s:=by
 have la:a<s.heap.objs.size:=by obtain ⟨o,_,_,_,ho,_⟩:=hS; exact qV ho
 unfold collect;refine qD (wpAny_runValue (Qu F.entry_proto_collect ?_));rw [Qf F.plain_proto_collect _];refine qD (m:=newList []) (Qd ?_);refine qI ⟨xU F.plain_list_iadd _,Qu F.entry_list_iadd ?_⟩;rw [Qf F.plain_list_iadd _];have e1:(s.heap.push {cls:= .type "list",data:= .seq ([]:List Value).toArray}).get? s.heap.objs.size=some {cls:= .type "list",dict:=none,data:= .seq #[] 0,slots:=#[]}:=qW _ rfl;have sz1:(s.heap.push {cls:= .type "list",data:= .seq ([]:List Value).toArray}).objs.size=s.heap.objs.size+1:=Qi ..;have hS1:jE (s.heap.push {cls:= .type "list",data:= .seq ([]:List Value).toArray}) a ks (zBG w):=by
  obtain ⟨o,es,ep,t,ho,r⟩:=hS;exact ⟨o,es,ep,t,qH _ ho,r⟩
 have ty:Shared.TypeIs {s with heap:=s.heap.push {cls:= .type "list",data:= .seq ([]:List Value).toArray}} (.ref a) "set":=by
  obtain ⟨o,es,ep,t,ho,hx,_⟩:=hS1;exact ⟨o,ho,hx.1⟩
 change wpAny _ A.in1 (Builtin.List.listExtendWith (.ref s.heap.objs.size) (.ref a) (.ref s.heap.objs.size)) _ _ _
 unfold Builtin.List.listExtendWith;refine qD (wpAny_typeOf ty ?_);have c1:Builtin.List.listSameRef (.ref s.heap.objs.size) (.ref a)=false:=by simp [Builtin.List.listSameRef,XA la]
 have c2:(Value.type "set"==Value.type "list")=false:=by decide
 have c3:(Value.type "set"==Value.type "tuple")=false:=by decide
 simp only [c1,c2,c3,Bool.or_false,Xj,X5];refine qD (zNB (A:=A.in1) (s:={s with heap:=s.heap.push {cls:= .type "list",data:= .seq ([]:List Value).toArray}}) hh hS1 λI fp vs ks' St h2 d hi hp Z st hI pL hfp kp=>?_);have e2:=kp _ _ e1;have nS:s.heap.objs.size∉fp:=λz=>by
  rcases hfp _ z with y | y
  .have y':s.heap.objs.size+1<=s.heap.objs.size:=by rw [<-sz1]; exact y
   exact v6 y' (Nat.not_succ_le_self _)
  .exact v6 y (XA la)
 have hvl:vs.length<=sizeLine:=by rw [hi.length,hp.length_eq]; exact hz
 have ty2:Shared.TypeIs {s with heap:=h2,drawn:=d} (.ref a) "set":=by
  obtain ⟨o,es,ep,t,ho,hx,_⟩:=hS1;exact ⟨o,kp _ _ ho,hx.1⟩
 have fin:∀(h3:Heap) (c:Nat),St 0 h3->h3.get? s.heap.objs.size=some {cls:= .type "list",dict:=none,data:= .seq #[] c,slots:=#[]}->(∀b o,b≠s.heap.objs.size->h2.get? b=some o->h3.get? b=some o)->
   codeAny (model prog w) A (.builtin "list.extend.loop" ⟨[.ref s.heap.objs.size, .ref I, .ref s.heap.objs.size],[]⟩) (λr s'=>match r with | .ok (.ret v)=>wpAny (model prog w) A (match v with | .ref a=>(do match (<-load a).data with | .seq xs _=>pure xs.toList | _=>unsupported "internal:collect") | _=>unsupported "internal:collect") R E s' | .ok _=>False | .error e=>E e s') {s with heap:=h3,drawn:=d}:=by
  intro h3 c st3 e3 k3;refine zFY Z nS hvl vs.length 0 _ #[] c (XD _) st3 e3 rfl λh' acc c' ha e' k'=>?_;refine qD (wpAny_load e' (qI ?_));rw [ha];refine q vs ks' h' d hi hp λb o hb=>?_;have lb:=qV hb;have nb:b≠s.heap.objs.size:=qb lb;have nI:b≠I:=λz=>by
   have y:s.heap.objs.size+1<=I:=by rw [<-sz1]; exact hI
   rw [<-z] at y;exact v6 (qd (Q0 _) y) (Nat.lt_asymm lb)
  exact k' b o nI nb (k3 b o nb (kp b o (qH _ hb)))
 refine qD (Qt (zMm ty2 ?_));refine Q8 (λ_=>?_) (λ_=>qI ⟨xU xX _,fin h2 0 st e2 λb o _ e=>e⟩);refine qD (vN ?_);refine qD ?_
 change wpAny _ _ (updateSeq s.heap.objs.size (·.push .none) >>=λ_=>updateSeq s.heap.objs.size (·.pop)) _ _ _
 refine qD (xi e2 rfl ?_);have e3:=Qk (Obj.mapSeq (·.push Value.none)) e2 rfl;refine xi (hz:=by seq_fits) e3 rfl ?_;have e4:=Qk (Obj.mapSeq (·.pop)) e3 rfl;refine qI ⟨xU xX _,fin _ _ (Z.frame 0 _ _ st λb hb o e=>?_) e4 λb o hb e=>?_⟩
 .have nb:s.heap.objs.size≠b:=λz=>nS (by rw [z]; exact hb)
  rw [QI _ _ nb,QI _ _ nb]; exact e
 .rw [QI _ _ (Ne.symm hb),QI _ _ (Ne.symm hb)]; exact e
end HT
namespace L2
open PySem PySem.Spec PyProof.Rows
variable {e:Expr} {X:Cx}
theorem yE:∀{xs ys:List Int},xs.Nodup->(∀x∈xs,x∈ys)->xs.length<=ys.length
 | [],_,_,_=>QF _
 | x::xs,ys,nd,h=>by
  obtain ⟨h1,nd'⟩:=List.nodup_cons.mp nd;have hx:=h x qE;have ih:=yE (ys:=ys.erase x) nd' λy hy=>(xu (λe:y=x=>h1 (e▸hy))).mpr (h y (qF _ hy));rw [Qb hx] at ih;have:0<ys.length:=xA hx;rw [qT];lia
theorem zMB:bootBuiltins "set"=some (.type "set"):=by decide +kernel
def zJr (K:W.Frag) (te:TE):TE:=λU H Q=>te U H λx H1=>∃(p:Addr) (ns ms:List Int),x= .ref p/\zK K H1 p (ns.map V.int)/\(∀y∈ns,y∈ms)/\ms.length<64/\
 ∀(l:Addr) (ys:List Int),H1 l=none->ys.Pairwise (·<·)->(∀y,y∈ys↔y∈ns)->Q (.ref l) (zH H1 l (.lst (ys.map V.int)))
theorem zAS {te:TE} {p1 p2 pos pos2:Pos} (pG:X.calm=true) (hg1:Gl X "sorted") (hm1:X.mg "sorted"=none) (hg2:Gl X "set") (hm2:X.mg "set"=none) (he:PE X e te) (hs:starEach (e::[]) X.env=(false,eval e X.env)::starEach [] X.env:=by rfl)
  (hs2:starEach ((.Call (.Name "set" p2) [e] [] pos2)::[]) X.env=(false,eval (.Call (.Name "set" p2) [e] [] pos2) X.env)::starEach [] X.env:=by rfl):
  PE X (.Call (.Name "sorted" p1) [.Call (.Name "set" p2) [e] [] pos2] [] pos) (zJr X.K te):=by
 intro pA s U H Q I h;refine Qp (yZ I hg1 hm1 xx ?_);refine vK ?_ hs2 rfl;rw [hs2];show wpAny _ _ (spliced ((false,eval (.Call (.Name "set" p2) [e] [] pos2) X.env)::backTo pos (starEach [] X.env))) _ _ s;refine xZ ?_;refine Qp (yZ I hg2 hm2 zMB ?_);refine QE ?_ hs rfl;rw [hs];show wpAny _ _ (spliced ((false,eval e X.env)::backTo pos2 (starEach [] X.env))) _ _ s;refine xZ (zg (he pA s U H _ I h) λu s1 ⟨x,H1,I1,r1,q1⟩=>xq ?_);obtain ⟨p,ns,ms,rfl,hq,few,h64,q⟩:=q1;cases r1;obtain ⟨pD,rv,pl,hz⟩:=I1.list hq;have hi:=ye rv;have pF:pD.length=ns.length:=hi.length;refine HT.zKY (I1.ok.hd pG) pl.isList (by simpa using hi) (λks nd m=>by have:=yE nd (λx hx=>few x (m x hx)); unfold scanBound; lia) λh2 tk ks S m kp=>xq ?_;have ks64:ks.length<64:=by
  obtain ⟨_,_,_,_,_,_,_,_,_,nd,_⟩:=S;exact Qq (yE nd λx hx=>few x ((m x).mp hx)) h64
 have I2:zN X pA U H1 {s1 with heap:=h2,toks:=tk}:=I1.kept λb o e=>kp b o (qV e) e;refine Calls.call_function_entry kind_sorted plain_sorted entry_sorted (args_sorted1 _) ?_;unfold Builtin.«sorted»;refine qD (m:=checkCount "sorted" 1 1 _) (qI ?_);refine qD (HT.zHC (I2.ok.hd pG) S (qQ (qf ks64) (by decide)) λvs ks' h3 d hv hp k3=>?_);have I3:zN X pA U H1 {s1 with heap:=h3,toks:=tk,drawn:=d}:=by
  have I3':zN X pA U H1 {s1 with heap:=h3,toks:=tk}:=I2.kept (t':=tk) k3;exact ⟨I3'.ok,I3'.os,I3'.bare,I3'.base,I3'.loc,I3'.cell,I3'.free,I3'.freeC,I3'.pin,I3'.hok,I3'.len⟩
 have lv:vs.length=ks.length:=by rw [hv.length,hp.length_eq]
 refine qD (wpAny_newList ?_ (by rw [lv]; exact qQ (qf ks64) (by decide)));have oL:(h3.push (seqObj "list" vs.toArray 0)).get? h3.objs.size=some (seqObj "list" vs.toArray 0):=qW _ rfl;refine qD (Qt (Qs slot_list_sort ⟨_,oL,rfl⟩ entry_list_sort (list_sort_tree oL hv (by rw [lv]; exact ks64) λout ys a1 a2 a3=>⟨_,rfl,?_⟩) (args_list_sort _)));obtain ⟨ee,he'⟩:=sortedHeap_at (out:=out) oL;have sz:(h3.push (seqObj "list" vs.toArray 0)).objs.size=h3.objs.size+1:=Qi ..;have up:ys.Pairwise (·<·):=by
  have nd:ys.Nodup:=by
   obtain ⟨_,_,_,_,_,_,_,_,_,nd,_⟩:=S;exact (a2.trans hp).nodup_iff.mpr nd
  refine List.Pairwise.imp₂ (λa b h1 h2=>?_) a3 nd;rcases Int.lt_or_eq_of_le h1 with z | z
  .exact z
  .exact v6 z h2
 refine qI ⟨_,rfl, .ref h3.objs.size,_,I3.laid (t':=tk) (λb o eb=>?_) (qG _) (show ZH X.prog X.w _ _ _ (.lst (ys.map V.int)) from ⟨?_,out.toList,ee,jd a1,by simpa using he'⟩),rfl,q _ ys (I3.hok.fresh (qG _)) up λy=>?_⟩
 .have hb:b<h3.objs.size:=qV eb
  exact (sortedHeap_old (qb hb) (by rw [sz]; exact QG hb)).trans (qH _ eb)
 .rw [qA,a2.length_eq,hp.length_eq]
  exact qQ (qf ks64) (by decide)
 .rw [(a2.trans hp).mem_iff,m y]
end L2
namespace HT
open PySem PyProof.Rows
variable {E Q:Value->Shared->Prop} {R:Result->Shared->Prop} {S:Addr} {res:Value} {prog:Program} {w:World} {A:Around} {s:Shared} {items:Array Value}
section
variable {I l:Addr}
theorem zNX (hh:A.handled=none) (ne:l≠I):zJJ prog w A I [I,l] items.toList.reverse (λi h=>h.IsRevIter I l ((items.size:Int) - 1 - (i:Int))/\h.IsList l items) where
 inI:=qE
 frame:=λi h h' x k=>⟨x.1.at (k I qE),let ⟨o,e,r⟩:=x.2; ⟨o,k l (qF _ qE) o e,r⟩⟩
 item:=λi v s Q E hv x q=>by
  have hi:=(List.getElem?_eq_some_iff.mp hv).1;rw [Qh,qc] at hi;rw [List.getElem?_reverse (by rw [qc]; exact hi),qc,Qc] at hv;obtain ⟨j,ej⟩:∃j,j=items.size - 1 - i:=⟨_,rfl⟩;rw [<-ej] at hv;have x1:=x.1;rw [show (items.size:Int) - 1 - (i:Int)=(j:Int) by lia] at x1;refine wpAny_pyNext_rev_item x1 x.2 hv λh' y sb=>q h' ⟨?_,?_⟩ λb o hb e=>(sb.2 b hb).trans e
  .rw [show (items.size:Int) - 1 - ((i+1:Nat):Int)=(j:Int) - 1 by lia]
   exact y
  .obtain ⟨o,e,r⟩:=x.2
   exact ⟨o,(sb.2 l ne).trans e,r⟩
 done:=λs Q E x q=>by
  have x1:=x.1;rw [Qh,qc,show (items.size:Int) - 1 - ((items.size:Nat):Int)= -1 by lia] at x1;exact wpAny_pyNext_rev_end hh x1 λh' eb=>q h' λb o hb e=>eb b o hb e
theorem zNP {i:Int} {Q:Bool->Shared->Prop} (ty:s.TypeIs (.ref I) "list_reverseiterator") (q:Q false s):wpAny (model prog w) A (Builtin.List.listLengthHint (.ref I)) Q E s:=by
 unfold Builtin.List.listLengthHint;refine qD (vL (r:=none) ty (by rw [typeLookup_type,vE]; kernel_rfl) ?_)
 wp_delta
 refine Q8 (λz=>v6 z (by decide)) (λ_=>?_);refine Q8 (λz=>v6 z (by decide)) (λ_=>?_);refine qD (vL (r:=some (.builtin "list_reverseiterator.__length_hint__")) ty (by rw [typeLookup_type,vE]; kernel_rfl) ?_);generalize eid:("list_reverseiterator.__length_hint__":String)=id1
 wp_delta
 rw [show splitId id1=some ("list_reverseiterator","__length_hint__") from by subst eid; decide +kernel];subst eid;refine qD (XY (T:="list_reverseiterator") (b:=true) ty (by rw [isSubtype_type]; kernel_rfl) ?_);refine Q8 (λz=>v6 z (by decide)) (λ_=>?_);refine Q8 (λ_=>?_) (λz=>v6 (by decide +kernel) z);refine Q8 (λz=>v6 z (by decide +kernel)) (λ_=>?_);exact qI q
theorem zMD {c:Nat} (hh:A.handled=none) (hS:s.heap.get? S=some {cls:= .type "list",dict:=none,data:= .seq #[] c,slots:=#[]}) (hit:s.heap.IsRevIter I l ((items.size:Int) - 1)) (hl:s.heap.IsList l items) (ne:l≠I) (SI:S≠I) (Sl:S≠l) (hz:items.size<=sizeLine)
  (q:∀h' acc' c',acc'.toList=items.toList.reverse->h'.get? S=some {cls:= .type "list",dict:=none,data:= .seq acc' c',slots:=#[]}->(∀b o,b≠I->b≠S->s.heap.get? b=some o->h'.get? b=some o)->R (.ok (.ret res)) {s with heap:=h'}):
  wpAny (model prog w) A.in1 (Builtin.List.listExtendWith (.ref S) (.ref I) res)
   (λfin s'=>match fin with | .done f=>R (.ok f) s' | .again c'=>c'.quiet=true/\codeAny (model prog w) A c' R s') (λe s'=>R (.error e) s') s:=by
 have ty:s.TypeIs (.ref I) "list_reverseiterator":=hit.typeIs;unfold Builtin.List.listExtendWith;refine qD (wpAny_typeOf (T:="list_reverseiterator") ty ?_);have n1:Builtin.List.listSameRef (.ref S) (.ref I)=false:=by simp [Builtin.List.listSameRef,SI]
 have n2:(Value.type "list_reverseiterator"==Value.type "list")=false:=by decide
 have n3:(Value.type "list_reverseiterator"==Value.type "tuple")=false:=by decide
 simp only [n1,n2,n3,Bool.or_false,Xj,X5];refine qD (wpAny_pyIter_revIter hit ?_);refine qD (Qt (zNP (i:=0) ty ?_));refine Q8 (λz=>v6 z (by decide)) (λ_=>qI ⟨xU xX _,?_⟩);have Z:=zNX (prog:=prog) (w:=w) (A:=A.in1) (items:=items) hh ne;refine zFY Z (λz=>?_) (by rw [Qh,qc]; exact hz) _ 0 s #[] c (XD _) ⟨by simpa using hit,hl⟩ hS rfl λh' acc' c' e1 e2 e3=>q h' acc' c' e1 e2 e3;rcases List.mem_cons.mp z with y | y
 .exact SI y
 .exact Sl (List.mem_singleton.mp y)
theorem zFH (hh:A.handled=none) (hit:s.heap.IsRevIter I l ((items.size:Int) - 1)) (hl:s.heap.IsList l items) (ne:l≠I) (hz:items.size<=sizeLine)
  (q:∀h' acc' c',acc'.toList=items.toList.reverse->h'.get? s.heap.objs.size=some {cls:= .type "list",dict:=none,data:= .seq acc' c',slots:=#[]}->(∀b o,b≠I->s.heap.get? b=some o->h'.get? b=some o)->Q (.ref s.heap.objs.size) {s with heap:=h'}):wpAny (model prog w) A (call (.type "list") [.ref I]) Q E s:=by
 have lI:I<s.heap.objs.size:=by obtain ⟨_,e,_⟩:=hit; exact qV e
 have ll:l<s.heap.objs.size:=by obtain ⟨_,e,_⟩:=hl; exact qV e
 refine callType_codes (Q₁:=λob s1=>ob= .ref s.heap.objs.size/\s1={s with heap:=s.heap.push {cls:= .type "list",data:= .seq #[]}}) F.called_list (F.typeCall_list_1 _) F.entry_list_init (code_list_new _ ⟨rfl,rfl⟩) ?_;rintro ob s1 ⟨rfl,rfl⟩;have e0:(s.heap.push {cls:= .type "list",data:= .seq #[]}).get? s.heap.objs.size=some {cls:= .type "list",data:= .seq #[]}:=qW _ rfl;refine ⟨⟨_,e0,rfl⟩,F.args_list_init_2 _ _,?_⟩
 change wpAny _ _ (Builtin.List.listItems (.ref s.heap.objs.size) >>=λold=>Builtin.List.listUpdate (.ref s.heap.objs.size) (λ_=>#[]) >>=λ_=>letGo old.toList.reverse >>=λ_=>Builtin.List.listExtendWith (.ref s.heap.objs.size) (.ref I) .none) _ _ _
 refine qD ?_;unfold Builtin.List.listItems;refine qD (xy e0 rfl (qI ?_))
 change wpAny _ _ (updateSeq s.heap.objs.size (λ_=>#[]) >>=λ_=>letGo (#[]:Array Value).toList.reverse >>=λ_=>Builtin.List.listExtendWith (.ref s.heap.objs.size) (.ref I) .none) _ _ _
 refine qD (xi e0 rfl (qD (vc ?_)));have e1:=Qk (Obj.mapSeq (λ_=>(#[]:Array Value))) e0 rfl;have kp:∀b o,s.heap.get? b=some o->((s.heap.push {cls:= .type "list",data:= .seq #[]}).update s.heap.objs.size (Obj.mapSeq (λ_=>(#[]:Array Value)))).get? b=some o:=λb o e=>
  (QI _ _ (λz:s.heap.objs.size=b=>v6 (qV e) (by rw [z]; exact QQ _))).trans (qH _ e)
 refine zMD (items:=items) hh e1 (hit.at (kp I)) (let ⟨o,e,r⟩:=hl; ⟨o,kp l o e,r⟩) ne (XA lI) (XA ll) hz λh' acc' c' q1 q2 q3=>?_;exact ⟨rfl,q h' acc' c' q1 q2 λb o hb e=>q3 b o hb (λz=>v6 (qV e) (by rw [z]; exact QQ _)) (kp b o e)⟩
end
end HT
namespace L2
open PySem PySem.Spec PyProof.Rows
variable {a:Expr}
section
variable {X:Cx}
def zSO (ta:TA):TE:=λU H Q=>ta U H λvs H1=>∃l xs,vs=[.ref l]/\H1 l=some (.lst xs)/\∀p,H1 p=none->Q (.ref p) (zH H1 p (.lst xs.reverse))
theorem zFF:bootBuiltins "reversed"=some (.type "reversed"):=by decide +kernel
theorem zGu {ta:TA} {p pos p' pos':Pos} (pG:X.calm=true) (hg:Gl X "reversed") (hm:X.mg "reversed"=none) (hg':Gl X "list") (hm':X.mg "list"=none) (ha:PA X [a] ta) (hs:starEach [a] X.env=[(false,eval a X.env)]:=by rfl)
  (hs':starEach [.Call (.Name "reversed" p) [a] [] pos] X.env=[(false,eval (.Call (.Name "reversed" p) [a] [] pos) X.env)]:=by rfl):
  PE X (.Call (.Name "list" p') [.Call (.Name "reversed" p) [a] [] pos] [] pos') (zSO ta):=by
 intro pA s U H Q I h;refine Call_ (yZ I hg' hm' boot_list (QE ?_ hs' rfl));rw [hs'];show wpAny _ _ (spliced ((false,eval (.Call (.Name "reversed" p) [a] [] pos) X.env)::[])) _ _ s;refine xZ (Call_ (yZ I hg hm zFF (QE (zg (ha pos pA s U H _ I h) λus s1 ⟨vs,H1,I1,r1,q1⟩=>?_) hs rfl)));obtain ⟨l,xs,rfl,hl,q⟩:=q1;obtain ⟨u,rfl,ru⟩:=r1.one;cases ru;obtain ⟨z,pD,n,r,len,e⟩:=I1.lstM hl;have hL:s1.heap.IsList l pD.toArray:=⟨_,e,rfl,n,rfl⟩;refine call_reversed_list hL (xq ?_);have I2:zN X pA U H1 {s1 with heap:=s1.heap.push (revObj l ((pD.toArray.size:Int) - 1))}:=I1.kept λb o e=>qH _ e;have lt:l<s1.heap.objs.size:=qV e;have e1:(s1.heap.push (revObj l ((pD.toArray.size:Int) - 1))).get? s1.heap.objs.size=some (revObj l ((pD.toArray.size:Int) - 1)):=qW _ rfl;refine HT.zFH (items:=pD.toArray) (I1.ok.hd pG) ⟨_,e1,rfl,rfl⟩ ⟨_,qH _ e,rfl,n,rfl⟩ (qb lt) (by rw [qj,<-len]; exact z) λh' acc' c' q1 q2 q3=>?_;have kp:∀b o,s1.heap.get? b=some o->h'.get? b=some o:=λb o eb=>q3 b o (qb (qV eb)) (qH _ eb);have sz:(s1.heap.push (revObj l ((pD.toArray.size:Int) - 1))).objs.size=s1.heap.objs.size+1:=Qi ..;refine ⟨.ref _,_,I1.laid (t':=s1.toks) kp (show s1.heap.objs.size<=(s1.heap.push (revObj l ((pD.toArray.size:Int) - 1))).objs.size by rw [sz]; exact xM _) (show ZH X.prog X.w _ h' _ (.lst xs.reverse) from ⟨by rw [Qh]; exact z,acc'.toList,c',by rw [q1]; exact r.reverse,by simpa using q2⟩),rfl,q _ (I1.hok.fresh (by rw [sz]; exact xM _))⟩
end
end L2
namespace HT
open PySem PySem.W PyProof.Rows
variable {cmp:Nat->Nat->(Bool->Shared->Prop)->Shared->Prop} {key:Nat->Int} {s:Shared} {p:Array Nat}
section
variable {N:Nat}
variable (hN:0<N) (ask:∀i j C,i<N->j<N->i≠j->C (decide (key i<key j)) s->cmp i j C s) (inj:∀i j,i<N->j<N->key i=key j->i=j)
include hN ask inj
end
end HT
namespace HT
open PySem PySem.W PyProof.Rows PySem.SeqAt PySem.MeetsSeq PySem.MeetsSeq2 PySem.MeetsSeq3
variable {prog:Program} {w:World} {A:Around} {E:Value->Shared->Prop} {s:Shared}
end HT
namespace HT
open PySem PySem.W PyProof.Rows
end HT
namespace L2
open PySem PySem.Spec PyProof.Rows
variable {L:List Int} {K:W.Frag} {D a:Addr} {te:TE} {Q:Hp->Prop} {U:St} {H H' H1:Hp} {as:List Addr} {rs ts:List (List Int)} {A B:St->Hp->Prop} {X:Cx}
theorem zFW:∀{as:List Addr} {pD:List Value},za (as.map V.ref) pD->pD=as.map Value.ref
 | [],_, .nil=>rfl
 | a::r,_, .cons h t=>by
  cases h;rw [zFW t];rfl
theorem zJb (pG:X.calm=true):yh X (.builtin "any") (λvs H Q=>∃(p:Addr) (bs:List Bool),vs=[.ref p]/\zK X.K H p (bs.map V.bl)/\Q (.bl (bs.any id)) H):=by
 rintro pA s U H xs us Q I r ⟨p,bs,rfl,hq,q⟩;obtain ⟨u,rfl,ru⟩:=r.one;cases ru;obtain ⟨pD,rv,pl,hz⟩:=I.list hq;have pL:p<s.heap.objs.size:=by obtain ⟨o,e,_⟩:=pl.isList; exact qV e
 have hl:=rv.length;rw [qA] at hl;refine call_any_walk (Xw pl.isList ⟨s.heap.objs.size,_,_,pD.toArray.size,_,_,λi=>bs.getD i false,rfl,Walks.list (A:=X.A.in1) (I.ok.hd pG) s.heap.objs.size p (qb pL) pD.toArray,⟨⟨_,qW _ rfl,rfl,rfl⟩,pl.isList.at λo e=>qH _ e⟩,?_,λh' tk hk=>?_⟩)
 .intro i v s' Q' E' hP hQ
  have hv:pD[i]?=some v:=by simpa using hP
  have hi:i<bs.length:=by rw [hl]; exact (List.getElem?_eq_some_iff.mp hv).1
  obtain ⟨u,hu,ru⟩:=rv.get (i:=i) (x:=V.bl bs[i]) (by rw [qM,qB hi]; rfl);rw [hv] at hu;cases hu;have eb:v=Value.bool bs[i]:=ru;subst eb;refine QW ?_;have eg:bs.getD i false=bs[i]:=by simp [List.getD,hi]
  rw [<-eg]; exact hQ
 .have I1:zN X pA U H {s with heap:=h',toks:=tk}:=I.kept λb o e=>hk b o (by simp; exact qb (qV e)) (qH _ e)
  have e:(List.range pD.toArray.size).any (λi=>bs.getD i false)=bs.any id:=by
   have e1:pD.toArray.size=bs.length:=by simpa using hl.symm
   have e2:bs.any id=((List.range bs.length).map λi=>bs.getD i false).any id:=by rw [rgD]
   rw [e1,e2,vM];rfl
  rw [e];exact ⟨.bl _,H,I1,rfl,q⟩
theorem zAB {i:Nat} (h:i<L.length):(L.map V.int).getD i .non= .int (L.getD i 0)/\L.getD i 0∈L:=by
 rw [qC,qM,qC,qB h];exact ⟨rfl,qg h⟩
theorem yW {tc:TT} (c:Int->Bool) (v:Int->V) (hS:zK K H1 a (L.map V.int)) (hD:H1 D=none) (hn:L.length<=1000)
  (ht:∀x H',x∈L->zE H1 H'->JW tc (some (.int x)::U) H' (c x)) (he:∀x H',x∈L->c x=true->zE H1 H'->zBI te (some (.int x)::U) H' (v x))
  (hq:∀H',zE H1 H'->H' D=some (.lst ((L.filter c).map v))->Q H'):YM (Itl K a) (ZW 0) tc te D Q (none::U) (zH H1 D (.lst [])):=by
 have ml:(L.map V.int).length=L.length:=qA _;refine yt (xs:=L.map V.int) (λi=>c (L.getD i 0)) (λi=>v (L.getD i 0)) hS hD (by rw [ml]; exact hn) (λi H' hi g=>?_) (λi H' hi hc g=>?_) λH' g e=>hq H' g ?_
 .rw [ml] at hi
  rw [(zAB hi).1];exact ht _ H' (zAB hi).2 g
 .rw [ml] at hi
  rw [(zAB hi).1];exact he _ H' (zAB hi).2 hc g
 .rw [e,ml,<-Z5 c 0 L,qo]
  rfl
def ZB (H:Hp) (as:List Addr) (rs:List (List Int)):Prop:=Paired (λa r=>H a=some (.lst (r.map V.int))) as rs
theorem ZB.len (h:ZB H as rs):as.length=rs.length:=Paired.length h
theorem ZB.by (h:ZB H as rs) (g:∀a∈as,∀o,H a=some o->H' a=some o):ZB H' as rs:=by
 unfold ZB at h ⊢
 induction h with
 | nil=>exact .nil
 | cons e _ ih=>exact .cons (g _ qE _ e) (ih λa ha=>g a (qF _ ha))
theorem ZB.same (h:ZB H as rs) (g:zE H H'):ZB H' as rs:=h.by λa _ o e=>g a o e
theorem ZB.get (h:ZB H as rs):∀{i:Nat},i<as.length->H (as.getD i 0)=some (.lst ((rs.getD i []).map V.int))/\as.getD i 0∈as/\rs.getD i []∈rs:=by
 unfold ZB at h
 induction h with
 | nil=>intro i hi; exact v6 hi (Qn _)
 | cons e _ ih=>
  intro i hi;cases i with
  | zero=>exact ⟨e,qE,qE⟩
  | succ i=>
   obtain ⟨a,b,c⟩:=ih (Nat.lt_of_succ_lt_succ hi);exact ⟨a,qF _ b,qF _ c⟩
theorem ZB.snoc {r:List Int} (h:ZB H as rs) (e:H a=some (.lst (r.map V.int))):ZB H (as++[a]) (rs++[r]):=Paired.snoc h e
theorem ZB.mem (h:ZB H as rs) (ha:a∈as):∃r∈rs,H a=some (.lst (r.map V.int)):=by
 unfold ZB at h
 induction h with
 | nil=>cases ha
 | cons e _ ih=>
  rcases List.mem_cons.mp ha with z | z
  .rw [z]; exact ⟨_,qE,e⟩
  .obtain ⟨r,hr,er⟩:=ih z
   exact ⟨r,qF _ hr,er⟩
theorem zLW {p q:Addr} {bs:List Addr} (h1:H p=some (.lst (as.map V.ref))) (h2:H q=some (.lst (bs.map V.ref))) (r1:ZB H as rs) (r2:ZB H bs ts):Y7 K H (.ref p) (.ref q) (rs==ts):=by
 have l1:=r1.len;have l2:=r2.len;by_cases hl:rs.length=ts.length
 .have k:=Y7.lst (K:=K) (e:=λj=>rs[j]?==ts[j]?) (zK.of h1) (zK.of h2) (by rw [qA,qA]; lia) λj x y hx hy=>by
   have hj:j<as.length:=by have:=(List.getElem?_eq_some_iff.mp hx).1; rwa [qA] at this
   have hj':j<bs.length:=by lia
   rw [qM,qB hj] at hx;rw [qM,qB hj'] at hy;cases hx;cases hy;obtain ⟨e1,_,_⟩:=r1.get hj;obtain ⟨e2,_,_⟩:=r2.get hj';have ga:as.getD j 0=as[j]:=by rw [qC,qB hj]; rfl
   have gb:bs.getD j 0=bs[j]:=by rw [qC,qB hj']; rfl
   have gr:rs.getD j []=rs[j]'(by lia):=by rw [qC,qB (by lia)]; rfl
   have gt:ts.getD j []=ts[j]'(by lia):=by rw [qC,qB (by lia)]; rfl
   rw [ga,gr] at e1;rw [gb,gt] at e2;rw [qB (by lia),qB (by lia)];show Ym K H 4 (.ref as[j]) (.ref bs[j]) (rs[j]==ts[j]);by_cases z:as[j]=bs[j]
   .rw [z] at e1 ⊢
    have e3:rs[j]=ts[j]:=by rw [<-jJ e1,jJ e2]
    rw [e3,QN];exact .same _
   .exact zCq z (zK.of e1) (zK.of e2)
  rw [qA,l1,J5 hl] at k;exact k
 .have e:(rs==ts)=false:=beq_eq_false_iff_ne.mpr λz=>hl (by rw [z])
  rw [e];exact .lstN (zK.of h1) (zK.of h2) (by rw [qA,qA]; lia)
theorem zMl {x:V} (h:A (U.set 0 (some x)) H):ZW 0 x U H λU2 H2=>zDK U2 H2 λb H3=>if b=true then A U2 H3 else B U2 H3:=by
 show (if true=true then A (U.set 0 (some x)) H else B (U.set 0 (some x)) H);rw [qO rfl];exact h
theorem zJw (F:List Int->List Int) (hS:zK K H1 a (as.map V.ref)) (hR:ZB H1 as rs) (hD:H1 D=none) (hn:as.length<=1000)
  (he:∀(b:Addr) (r:List Int) (H':Hp) (P:VK),r∈rs->H' b=some (.lst (r.map V.int))->zE H1 H'->(∀(o:Addr) (H2:Hp),zE H' H2->H' o=none->H2 o=some (.lst ((F r).map V.int))->P (.ref o) H2)->te (some (.ref b)::U) H' P)
  (hq:∀(us:List Addr) (H':Hp),zE H1 H'->(∀u∈us,H1 u=none)->us.Nodup->D∉us->H' D=some (.lst (us.map V.ref))->ZB H' us (rs.map F)->Q H'):YM (Itl K a) (ZW 0) zDK te D Q (none::U) (zH H1 D (.lst [])):=by
 have al:=hR.len;refine Zy (n:=as.length) (λi U' H'=>∃(x:Option V) (us:List Addr),U'=x::U/\zE H1 H'/\(∀u∈us,H1 u=none)/\us.Nodup/\D∉us/\H' D=some (.lst (us.map V.ref))/\ZB H' us ((rs.take i).map F))
  ⟨none,[],rfl,zE.new hD _,nofun,qr,nofun,zC, .nil⟩ ?_ ?_
 .rintro i U' H' hi ⟨x,us,rfl,g,fre,nd,du,hl,rows⟩
  have ex:(as.map V.ref)[i]?=some (.ref (as.getD i 0)):=by rw [qM,qC,qB hi]; rfl
  refine ⟨⟨_,_,g.seq hS,ex⟩,λy H7 hy=>?_⟩;obtain ⟨rfl,hy⟩:=hy;have ey:=hy _ (g.seq hS);rw [ex] at ey;cases ey;refine zMl ?_;obtain ⟨er,_,mr⟩:=hR.get hi;refine he _ _ _ _ mr (g _ _ er) g λo H2 g2 no eo=>?_;have oD:o≠D:=Ne.symm (zF hl no);have oH:H1 o=none:=by
   cases e:H1 o with
   | none=>rfl
   | some u=>rw [g _ _ e] at no; cases no
  have ul:us.length=i:=by
   have:=rows.len;rw [qA,QC] at this;lia
  have hi':i<rs.length:=by lia
  have tk:(rs.take (i+1)).map F=(rs.take i).map F++[F (rs.getD i [])]:=by
   rw [List.take_succ,qB hi',qN,qC,qB hi'];rfl
  refine ⟨_,g2 _ _ hl,zEj (by rw [qA]; lia),some (.ref (as.getD i 0)),us++[o],rfl,λc o' hc=>?_,λu hu=>?_,?_,λz=>?_,by rw [zC,qN]; rfl,?_⟩
  .rw [zI (λe=>by rw [e,hD] at hc; cases hc)]
   exact g2 _ _ (g _ _ hc)
  .rcases List.mem_append.mp hu with z | z
   .exact fre u z
   .rw [List.mem_singleton.mp z]; exact oH
  .refine List.nodup_append.mpr ⟨nd,List.nodup_cons.mpr ⟨nofun,qr⟩,λc hc d hd z=>?_⟩
   rw [List.mem_singleton.mp hd] at z;obtain ⟨r',_,e⟩:=rows.mem hc;rw [z,no] at e;cases e
  .rcases List.mem_append.mp z with z | z
   .exact du z
   .exact oD (List.mem_singleton.mp z).symm
  .rw [tk]
   refine ZB.snoc ((rows.same g2).by λc hc o' h=>?_) (by rw [zI oD]; exact eo);have ne:c≠D:=λz=>du (by rw [<-z]; exact hc);rw [zI ne];exact h
 .rintro U' H' ⟨x,us,rfl,g,fre,nd,du,hl,rows⟩
  rw [al,xF] at rows;exact ⟨⟨_,g.seq hS,by rw [qA]; exact qG _⟩,hq us H' g fre nd du hl rows⟩
theorem ZB.append {bs:List Addr} (h:ZB H as rs) (g:ZB H bs ts):ZB H (as++bs) (rs++ts):=by
 unfold ZB at*
 induction h with
 | nil=>exact g
 | cons e _ ih=>exact .cons e ih
end L2
namespace HT
open PySem PyProof.Rows
variable {Q:Option Value->Shared->Prop} {prog:Program} {w:World} {A:Around} {E:Value->Shared->Prop} {s:Shared} {es:Array DictEntry}
section
variable {it d:Addr} {o:Obj} {i ep:Nat}
theorem zOa {Q:Value->Shared->Prop} (nd:(d==sysModules)=false) (od:s.heap.get? d=some o) (ex:o.ExactDict) (dat:o.data= .dict es ep)
  (q:Q (.ref s.heap.objs.size) {s with heap:=s.heap.push {cls:= .type "dict_keyiterator",data:= .fields #[.ref d, .int 0 0, .int es.size 0, .int ep 0]}}):wpAny (model prog w) A (pyIter (.ref d)) Q E s:=by
 have ty:s.TypeIs (.ref d) "dict":=⟨o,od,ex.1⟩;refine wpAny_pyIter_slot ty PySem.F.slot_dict_iter (Qs PySem.F.slot_dict_iter ty PySem.F.entry_dict_iter ?_ (PySem.F.args_dict_iter_1 _));unfold Builtin.«dict.__iter__» Builtin.Dict.dictSlotNone;refine qD (qD (wpAny_notOrdered_dict ty ?_));refine qI (show wpAny _ _ (Builtin.Dict.showsAll d >>=_) _ _ s from ?_);unfold Builtin.Dict.showsAll;rw [qP (by rw [nd]; decide)];refine qD (qI (qD (vk od dat (qD (wpAny_dictEpoch od dat (qD (Qd (qI ⟨_,rfl,"dict_keyiterator",_,⟨_,qW _ rfl,rfl⟩,PySem.F.slot_dict_keyiterator_next.lookup,?_⟩))))))));simpa [rawInt] using q
theorem zOs (hit:s.heap.IsKeyIter it d i es.size ep) (od:s.heap.get? d=some o) (dat:o.data= .dict es ep) (lt:i<es.size)
  (q:∀h',h'.IsKeyIter it d (i+1) es.size ep->Heap.SameBut it s.heap h'->Q (some es[i].key) {s with heap:=h'}):wpAny (model prog w) A (pyNext (.ref it)) Q E s:=by
 obtain ⟨oi,q1,q2,q3⟩:=id hit;have ti:=hit.typeIs;unfold pyNext;refine qD (Xa (Q3 (name:=Str.ofString "__next__") ti Q5 (Qs Q5 ti Xq ?_ (Xk _))));refine qD (qI (qD (qD ?_)))
 first | refine qD (xV ti (qI (qD (xY q1 q3 ?_)))) | refine qD (XF ti (qI (qD (xY q1 q3 ?_))))
 have ow:Builtin.Dict_items.ownsTuple "dict_keyiterator"=false:=by decide
 simp only [ow,Xj,X5];show wpAny _ _ (if (Value.ref d==Value.none)=true then _ else _) _ _ _;rw [qP (show ¬((Value.ref d==Value.none)=true) by exact qR)];refine qD (qI (qD (vk od dat ?_)));rw [qP (by simp)];refine qD (qI (qD (wpAny_dictEpoch od dat ?_)));rw [qP (by simp)];refine qI ?_;simp only [show ¬((i:Int)<0) by lia,X5,qy,qx lt];refine qD ?_
 first | refine qD (xV ti (qI (qD (vF ti ?_)))) | refine qD (XF ti (qI (qD (vF ti ?_))))
 show wpAny _ _ (setField (.ref it) 1 (rawInt ((i:Int)+1)) >>=_) _ _ _;refine qD (wpAny_setField q1 q3 (by simp) ?_);have h2:(s.heap.update it (Obj.mapFields (·.setIfInBounds 1 (rawInt ((i:Int)+1))))).IsKeyIter it d (i+1) es.size ep:=
  ⟨_,Qk _ q1 (Obj.isFreed_of_fields (Obj.data_mapFields q3 _)),(Obj.cls_mapFields ..).trans q2,by rw [Obj.data_mapFields q3]; simp [rawInt]⟩
 refine qD (Qt (qD (vF (s:={s with heap:=s.heap.update it (Obj.mapFields (·.setIfInBounds 1 (rawInt ((i:Int)+1))))}) h2.typeIs ?_)));refine show wpAny _ _ (pure es[i].key) _ _ _ from ?_;exact qI (qI ⟨_,rfl,qI (q _ h2 (Xb ..))⟩)
theorem zPs (hh:A.handled=none) (hit:s.heap.IsKeyIter it d i es.size ep) (od:s.heap.get? d=some o) (dat:o.data= .dict es ep) (ge:es.size<=i)
  (q:∀h',Heap.ExtBut it s.heap h'->Q none {s with heap:=h'}):wpAny (model prog w) A (pyNext (.ref it)) Q E s:=by
 obtain ⟨oi,q1,q2,q3⟩:=id hit;have ti:=hit.typeIs;unfold pyNext;refine qD (Xa (Q3 (name:=Str.ofString "__next__") ti Q5 (Qs Q5 ti Xq ?_ (Xk _))));refine qD (qI (qD (qD ?_)))
 first | refine qD (xV ti (qI (qD (xY q1 q3 ?_)))) | refine qD (XF ti (qI (qD (xY q1 q3 ?_))))
 have ow:Builtin.Dict_items.ownsTuple "dict_keyiterator"=false:=by decide
 simp only [ow,Xj,X5];show wpAny _ _ (if (Value.ref d==Value.none)=true then _ else _) _ _ _;rw [qP (show ¬((Value.ref d==Value.none)=true) by exact qR)];refine qD (qI (qD (vk od dat ?_)));rw [qP (by simp)];refine qD (qI (qD (wpAny_dictEpoch od dat ?_)));rw [qP (by simp)];refine qI ?_;simp only [show ¬((i:Int)<0) by lia,X5,qy,Array.getElem?_eq_none ge];refine qD ?_
 first | refine qD (xV ti (qI ?_)) | refine qD (XF ti (qI ?_))
 refine show wpAny _ _ (setField (.ref it) 0 .none >>=_) _ _ s from ?_;refine qD (wpAny_setField q1 q3 (by simp) (show wpAny _ _ (newExc (.type "StopIteration") [] >>=_) _ _ _ from qD ?_));simp only [newExc,newTuple];refine qD (Qd (qD (m:=firstArgMember _ _) (wpAny_of_eq (a:=Value.none) (by first | rfl | (simp only [firstArgMember]; rfl)) (Qd ?_ (by size_fits)))) (by size_fits));simp only [raiseNew];refine qD (wpAny_handled ?_);rw [show A.in1.handled=none by exact hh];refine id (qD (qI (wpAny_throw ?_)));exact qD (XY (T:="StopIteration") (b:=true) ⟨_,qW _ rfl,rfl⟩ isSubtype_stop (qI (q _ (((Xb ..).extBut.push _).push _))))
end
end HT
namespace L2
open PySem PySem.Spec PyProof.Rows
variable {pos:Pos} {a b e tg:Expr} {P:Program} {w:World} {K:W.Frag} {o:Obj} {pB:List (List zZ×V)} {es0:Array DictEntry} {rest:List Expr} {tb:TS} {st:List Stmt} {d:Addr} {g:TG} {D:zAV} {U:St} {H:Hp} {c j:Int} {X:Cx}
def zSN:V->List V->Hp->VK->Prop:=λx vs H Q=>∃l xs y,x= .ref l/\vs=[]/\H l=some (.lst (xs++[y]))/\Q y (zH H l (.lst xs))
theorem zEb:MtM X "list.pop" zSN:=by
 intro pA s U H x vs v us Q I rx rv h;obtain ⟨l,xs,y,rfl,rfl,hH,q⟩:=h;cases rx;have hus:=rv.zero;subst hus;obtain ⟨z,pD,n,r,hl,e⟩:=I.lstM hH;have pF:pD.length=xs.length+1:=by rw [<-hl,qJ]; rfl
 obtain ⟨u,hu,ru⟩:=r.get (i:=xs.length) (x:=y) (by rw [q8 (qG _),vO]; rfl);refine call_meets XU ⟨_,e,rfl⟩ PySem.F.entry_list_pop (PySem.F.args_list_pop_1 _)
  (MeetsSeq.list_pop_last l pD.toArray n u (by rw [qj,pF,<-Qc]; exact hu) (by rw [qj]; lia)) ⟨e,?_⟩
 refine ⟨y,_,I.lset (its':=pD.eraseIdx xs.length) hH e ?_ ?_ ?_,ru,q⟩
 .show pD.toArray.eraseIdxIfInBounds (pD.toArray.size - 1)=(pD.eraseIdx xs.length).toArray
  rw [List.eraseIdxIfInBounds_toArray,qj,pF];rfl
 .have:=r.eraseIdx xs.length
  rw [List.eraseIdx_append_of_length_le (qG _),vO] at this;simpa using this
 .rw [qJ] at z
  have:xs.length+1<=sizeLine:=z;lia
def zPr (tk tv:TE):TE:=λU H Q=>∀p,H p=none->tk U (zH H p (.dT [])) λy H1=>tv U H1 λx H2=>H2 p=some (.dT [])/\∃b ks,y= .ref b/\H2 b=some (.tup (ks.map kV))/\Q (.ref p) (zH H2 p (.dT [(ks,x)]))
theorem zLr {k v:Expr} {tk tv:TE} (hu:X.A.units+1<cLine) (hk:PE X k tk) (hv:PE X v tv):PE X (.Dict [some k] [v] pos) (zPr tk tv):=by
 intro pA s U H Q I q;have hn:=I.hok.fresh (qG s.heap.objs.size);have I1:=I.laid (a:=s.heap.objs.size) (o:= .dT []) (h':=s.heap.push {cls:= .type "dict",data:= .dict #[]}) (t':=s.toks) (λ_ _ q=>qH _ q) (qG _) (zGZ s.heap I.big);rw [arm_eval_Dict,zip_pairTrees [some k] [v] X.env pos rfl rfl,dictDisplay_pairs (pairTrees [some k] [v] X.env pos) (λz=>nomatch z) (by show 1<17; decide)];refine qD (wpAny_standAt (qD ?_));unfold subDict;refine qD (wpAny_alloc (qD (Qt ?_)));rw [qO (show (pairTrees [some k] [v] X.env pos).length<=15 by show 1<=15; decide)];refine qD (pairTrees_cons_walk (zg (hk pA _ U _ _ I1 (q _ hn)) λkv s1 ⟨y,H1,I2,ry,q1⟩=>zg (hv pA s1 U H1 _ I2 q1) λvv s2 ⟨x,H2,I3,rx,e,b,ks,ey,eb,q2⟩=>pairTrees_nil_walk (Qt ?_)));subst ey;cases (show kv=Value.ref b from ry);obtain ⟨z,hd,xs,rel,dd⟩:=zNn I3.hok e;have hz:xs.length<=sizeLine:=by rw [<-Paired.length rel]; exact z
 rw [List.forIn_cons];have hroom:(tupleKind (Zu X.prog X.w)).room X.A:=Qq (xM _) hu;refine qD (qD ?_);refine show wpAny _ _ (dictSet _ (Value.ref b) vv >>=λ_=>pure (ForInStep.yield PUnit.unit)) _ _ _ from qD (wpAny_dictSet_heap (hsz:=hz) hroom (zBk I3.hok eb) dd λh' dd' hs=>qI ?_);show wpAny _ _ (forIn ([]:List (Value×Value)) _ _) _ _ _;rw [List.forIn_nil];refine qI (qI (qI (qI ⟨.ref s.heap.objs.size,_,?_,rfl,q2⟩)));obtain ⟨o,es,ep,hq,h2,h3,h4,_,h5⟩:=dd';refine zEa I3 (by rw [e]; exact True.intro) hs ⟨o,hq⟩ ⟨by show 1<=sizeLine; decide,hd,_,(rel.put ks eb rx).keeps λc ys ec=>?_,o,es,ep,hq,h2,h3,h4,h5⟩;rw [zI (zw ec e (λz=>nomatch z))];exact ec
def zPi (t:TE):TE:=λU H Q=>∃d pB,H d=some (.dT pB)/\∀o,t U (zH H d (.frz o (.dT pB))) λv H'=>H' d=some (.frz o (.dT pB))/\Q v (zH H' d (.dT pB))
theorem zGL {t:TE} (he:PE X e t):PE X e (zPi t):=by
 intro pA s U H Q I ⟨d,pB,h,q⟩;have nf:∀o' u,X.H₀ d≠some (.frz o' u):=λo' u q=>by
  have:=I.base.frzs d o' u q;rw [h] at this; cases this
 obtain ⟨z,y,xs,r,o,es,ep,eo,c⟩:=(show ZH X.prog X.w H s.heap d (.dT pB) from I.hok d _ h);have I1:zN X pA U (zH H d (.frz o (.dT pB))) s:=I.ghost (d:=d) ⟨_,h,(λ_ z=>nomatch z),(λ_ z=>nomatch z),(λ_ z=>nomatch z)⟩ (λb hb=>zI hb) (λo' u q=>v6 q (nf o' u)) ⟨_,zC,(λ_ z=>nomatch z),eo,z,y,xs,Paired.mapP r λp q z=>⟨z.1,by rw [zI (zw z.2.1 h (λz=>nomatch z))]; exact z.2.1,z.2.2⟩,o,es,ep,eo,c⟩;refine zg (he pA s U _ _ I1 (q o)) λv s1 ⟨x,H1,I2,rv,eH,q1⟩=>?_;obtain ⟨eo',z,y,xs,r,o2,es,ep,e2,c⟩:=(show ZH X.prog X.w H1 s1.heap d (.frz o (.dT pB)) from I2.hok d _ eH);exact ⟨x,_,I2.ghost (d:=d) (H':=zH H1 d (.dT pB)) ⟨_,eH,(λ_ z=>nomatch z),(λ_ z=>nomatch z),(λ_ z=>nomatch z)⟩ (λb hb=>zI hb) (λo' u q=>v6 q (nf o' u)) ⟨_,zC,(λ_ z=>nomatch z),z,y,xs,Paired.mapP r λp q z=>⟨z.1,by rw [zI (zw z.2.1 eH (λz=>nomatch z))]; exact z.2.1,z.2.2⟩,o2,es,ep,e2,c⟩,rv,q1⟩
def zPG (d:Addr) (o:Obj) (pB:List (List zZ×V)):It:=
 ⟨λi H=>H d=some (.frz o (.dT pB))/\i<pB.length,λi H x H'=>H'=H/\∃k b,(pB.map (·.1))[i]?=some k/\x= .ref b/\H b=some (.tup (k.map kV)),λi H=>H d=some (.frz o (.dT pB))/\pB.length<=i⟩
theorem zKQ {H:Hp} {f:List zZ×V->List zZ×Addr×Value->Prop}:∀{pB:List (List zZ×V)} {xs:List (List zZ×Addr×Value)} {i:Nat},Paired f pB xs->i<pB.length->∃p q,pB[i]?=some p/\xs[i]?=some q/\f p q
 | _,_,_, .nil,h=>v6 h (Qn _)
 | p::_,q::_,0, .cons r _,_=>⟨p,q,rfl,rfl,r⟩
 | _::_,_::_,i+1, .cons _ t,h=>by
  obtain ⟨p,q,h1,h2,h3⟩:=zKQ (H:=H) (i:=i) t (by simpa using h);exact ⟨p,q,by simpa using h1,by simpa using h2,h3⟩
theorem zIY (d it:Addr) {ep:Nat} (hd:o.data= .dict es0 ep) (hz:es0.size=pB.length):zAn P w K tg (zPG d o pB) [it] it (λi h=>h.IsKeyIter it d i pB.length ep) where
 mem:=by simp
 obj:=λi h st b hb=>by
  have e:b=it:=by simpa using hb
  subst e;obtain ⟨o,e,c,d⟩:=st;exact ⟨o,e,λv z=>by rw [d] at z; cases z⟩
 keep:=λi h h' st k=>by
  obtain ⟨o,e,r⟩:=st;exact ⟨o,k it (by simp) o e,r⟩
 item:=by
  intro X hP hw hK hc i pA s U H E I hf st hg;subst hP hw hK;obtain ⟨hq,hx⟩:=hg;obtain ⟨eo,z,y,xs,r,o2,es,ep2,e2,c1,c2,c3,c4⟩:=(show ZH X.prog X.w H s.heap d (.frz o (.dT pB)) from I.hok d _ hq);rw [eo] at e2;cases e2;rw [hd] at c2;cases c2;obtain ⟨p,q,hp1,hq1,r1,r2,r3⟩:=zKQ (H:=H) r hx;have lt:i<es0.size:=by rw [hz]; exact hx
  have ek:es0[i].key= .ref q.2.1:=by
   have h1:es0.toList[i]?=some es0[i]:=by rw [Qc]; exact qx lt
   rw [c3,qM,hq1] at h1;have:=Option.some.inj h1;rw [<-this];rfl
  obtain ⟨f0,f1,f2,f3,f4,f5⟩:=hf it (by simp);rw [<-hz] at st;refine HT.zOs st eo hd lt λh' st' sb=>?_;rw [ek];have I1:zN X pA U H {s with heap:=h'}:=I.turned (t':=s.toks) (λb o hb e=>(sb.2 b hb).trans e) f0 f1 f3 f4 f5;obtain ⟨ob,e,c,dd⟩:=id st';rw [hz] at st';exact ⟨_,rfl,zDI (s:={s with heap:=h'}) e c dd (by decide) ⟨.ref q.2.1,H,I1,rfl,⟨rfl,p.1,q.2.1,by rw [qM,hp1]; rfl,rfl,r2⟩,st',λb hb=>(hf b hb).1⟩⟩
 done:=by
  intro X hP hw hK hc i pA s U H E I hf st hg;subst hP hw hK;obtain ⟨hq,hx⟩:=hg;obtain ⟨eo,z,y,xs,r,o2,es,ep2,e2,c1,c2,c3,c4⟩:=(show ZH X.prog X.w H s.heap d (.frz o (.dT pB)) from I.hok d _ hq);obtain ⟨f0,f1,f2,f3,f4,f5⟩:=hf it (by simp);rw [<-hz] at st;exact HT.zPs (I.ok.hd hc) st eo hd (by rw [hz]; exact hx) λh' eb=>⟨rfl,I.turned (t':=s.toks) (λb o hb e=>eb b o hb e) f0 f1 f3 f4 f5⟩
 self:=λ_ _ _ _ _ st h=>by
  obtain ⟨o,e,c,dd⟩:=id st;exact wpAny_pyIter_keyiter st h
def zQP (tl:TE):TI:=λU H R=>tl U H λx H1=>∃d o pB,x= .ref d/\H1 d=some (.frz o (.dT pB))/\R (zPG d o pB) H1
theorem zGd {l:Expr} {tl:TE} (hl:PE X l tl):PI X tg l (zQP tl):=by
 intro pA s U H R I h;refine zg (hl pA s U H _ I h) λv s1 ⟨x,H1,I1,r1,q1⟩=>?_;obtain ⟨d,o,pB,e,hq,q⟩:=q1;subst e;cases r1;obtain ⟨eo,z,y,xs,r,o2,es,ep,e2,c1,c2,c3,c4⟩:=(show ZH X.prog X.w H1 s1.heap d (.frz o (.dT pB)) from I1.hok d _ hq);rw [eo] at e2;cases e2;have hz:es.size=pB.length:=by rw [<-qc,c3,qA,Paired.length r]
 refine HT.zOa y eo c1 c2 ?_;refine ⟨s1.heap.objs.size,[s1.heap.objs.size],_,_,H1,rfl,I1.kept (t':=s1.toks) λb o e=>qH _ e,zIY d _ c2 hz,⟨_,qW _ rfl,rfl,by rw [hz]; rfl⟩,λb hb=>?_,q⟩;have e:b=s1.heap.objs.size:=by simpa using hb
 subst e;exact I1.fpOk (qG _) (I1.hok.fresh (qG _))
theorem zQN {ta tb:TE} (ha:PE X a ta) (hb:PE X (.BoolOp .Or (b::rest) pos) tb):PE X (.BoolOp .Or (a::b::rest) pos) (λU H Q=>ta U H λx H'=>∃k,zLk X.K x H' k/\if k=true then Q x H' else tb U H' Q):=by
 intro pA s U H Q I h;refine BoolOp_or (zg (ha pA s U H _ I h) λv s1 ⟨x,H1,I1,r1,k,t1,q1⟩=>?_);refine zg (zJu pA s1 U H1 x v (λc H'=>if c=true then Q x H' else tb U H' Q) I1 r1 ⟨k,t1,q1⟩) λc s2 ⟨H2,I2,q2⟩=>?_;cases c with
 | true=>exact ⟨x,H2,I2,r1,q2⟩
 | false=>exact hb pA s2 U H2 Q I2 q2
def zQH (t:TS):TS:=λD U H=>∃d pB,H d=some (.dK pB)/\∀o,t {nx:=λU' H'=>H' d=some (.frz o (.dK pB))/\D.nx U' (zH H' d (.dK pB)),rt:=λv H'=>H' d=some (.frz o (.dK pB))/\D.rt v (zH H' d (.dK pB)),bk:=λU' H'=>H' d=some (.frz o (.dK pB))/\D.bk U' (zH H' d (.dK pB)),ct:=λU' H'=>H' d=some (.frz o (.dK pB))/\D.ct U' (zH H' d (.dK pB))} U (zH H d (.frz o (.dK pB)))
theorem JK.hold {t:TS} (h:JK X st t):JK X st (zQH t):=by
 intro pA s U H D I ⟨d,pB,hd,q⟩;obtain ⟨o,eo,I1⟩:=I.hold hd;have nf:∀o' u,X.H₀ d≠some (.frz o' u):=λo' u q=>by
  have:=I.base.frzs d o' u q;rw [hd] at this; cases this
 have back:∀{U1:St} {H1:Hp} {s1:Shared},zN X pA U1 H1 s1->H1 d=some (.frz o (.dK pB))->zN X pA U1 (zH H1 d (.dK pB)) s1:=λ{U1 H1 s1} I2 eH=>by
  have ok:ZH X.prog X.w H1 s1.heap d (.frz o (.dK pB)):=I2.hok d _ eH;obtain ⟨eo',z,y,vs,rr,ob,es,ep,e,c⟩:=ok;exact I2.ghost (d:=d) (H':=zH H1 d (.dK pB)) ⟨_,eH,(λ_ z=>nomatch z),(λ_ z=>nomatch z),(λ_ z=>nomatch z)⟩ (λb hb=>zI hb) (λo' u q=>v6 q (nf o' u)) ⟨_,zC,(λ_ z=>nomatch z),z,y,vs,rr,ob,es,ep,e,c⟩
 refine zg (h pA s U _ _ I1 (q o)) λfl s1 hq=>?_;cases fl with
 | next=>obtain ⟨U1,H1,I2,eH,q1⟩:=hq; exact ⟨U1,_,back I2 eH,q1⟩
 | brk=>obtain ⟨U1,H1,I2,eH,q1⟩:=hq; exact ⟨U1,_,back I2 eH,q1⟩
 | cont=>obtain ⟨U1,H1,I2,eH,q1⟩:=hq; exact ⟨U1,_,back I2 eH,q1⟩
 | ret u=>obtain ⟨v,U1,H1,I2,r,eH,q1⟩:=hq; exact ⟨v,U1,_,back I2 eH,r,q1⟩
theorem zMK {pB:List (zZ×V)} (Pv:Nat->St->Hp->Prop) (h0:Pv 0 U H) (hl:∀i U H,i<=pB.length->Pv i U H->H d=some (.frz o (.dK pB)))
  (hs:∀i k U H,(pB.map (·.1))[i]?=some k->Pv i U H->g (kV k) U H λU2 H2=>tb {D with nx:=Pv (i+1),ct:=Pv (i+1),bk:=D.nx} U2 H2) (hd:∀U H,Pv pB.length U H->D.nx U H):
  ∃Z:Nat->Nat->St->Hp->Prop,(∃m,Z 0 m U H)/\∀i m U H,Z i m U H->
   ((Itd d o pB).stop i H/\D.nx U H)\/((Itd d o pB).go i H/\∃N:St->Hp->Prop,(∀U' H',N U' H'->∃m',m'<m/\Z (i+1) m' U' H')/\∀x H',(Itd d o pB).yld i H x H'->g x U H' λU2 H2=>tb {D with nx:=N,ct:=N,bk:=D.nx} U2 H2):=by
 refine ⟨λi m U H=>m=pB.length - i/\i<=pB.length/\Pv i U H,⟨pB.length,by simp,QF _,h0⟩,?_⟩;rintro i m U H ⟨rfl,hi,p⟩;have q:=hl i U H hi p;by_cases pL:i<pB.length
 .refine .inr ⟨⟨q,pL⟩,Pv (i+1),λU' H' p'=>⟨pB.length - (i+1),by lia,rfl,pL,p'⟩,λx H' y=>?_⟩
  obtain ⟨e,k,hk,rfl⟩:=y;subst e;exact hs i k U _ hk p
 .have e:i=pB.length:=by lia
  subst e;exact .inl ⟨⟨q,qG _⟩,hd U H p⟩
def zGT (c:Int) (n:Nat):It:=⟨λi _=>i<n,λi H x H'=>H'=H/\x= .int ((i:Nat)*c),λi _=>n<=i⟩
def zAU (j c:Int):Nat:=(if 0<j then (j - 1) / c+1 else 0).toNat
theorem zKr (it:Addr) (c:Int) (n:Nat):zAn P w K tg (zGT c n) [it] it (λi h=>IsRangeIter h it (0+(i:Nat)*c) ((n:Int) - (i:Nat)) c) where
 mem:=by simp
 obj:=λi h st b hb=>by
  have e:b=it:=by simpa using hb
  subst e;exact ⟨_,st,λv z=>by
   have z':Data.fields _=Data.cell v:=z;cases z'⟩
 keep:=λi h h' st k=>k it (by simp) _ st
 item:=by
  intro X hP hw hK hc i pA s U H E I hf st hg;subst hP hw hK;obtain ⟨f0,f1,f2,f3,f4,f5⟩:=hf it (by simp);have Z:=Walks.range (prog:=X.prog) (w:=X.w) (I.ok.hd hc) it 0 c n;refine Z.item i s _ _ hg st λv h' tk hv st' kk=>?_;obtain ⟨t,rfl⟩:=hv;have I1:zN X pA U H {s with heap:=h',toks:=tk}:=I.turned (λb o hb e=>kk b o (by simpa using hb) e) f0 f1 f3 f4 f5;refine ⟨_,rfl,zDI (s:={s with heap:=h',toks:=tk}) (n:="range_iterator") st' rfl rfl (by decide) ⟨.int ((i:Nat)*c),H,I1,⟨t,?_⟩,⟨rfl,rfl⟩,st',λb hb=>(hf b hb).1⟩⟩;rw [xP]
 done:=by
  intro X hP hw hK hc i pA s U H E I hf st hg;subst hP hw hK;obtain ⟨f0,f1,f2,f3,f4,f5⟩:=hf it (by simp);exact wpAny_pyNext_range_end (I.ok.hd hc) st (by have:n<=i:=hg; lia) λh' eb=>⟨rfl,I.turned (t':=s.toks) (λb o hb e=>eb b o hb e) f0 f1 f3 f4 f5⟩
 self:=λ_ _ _ _ _ st h=>wpAny_pyIter_rangeiter st h
theorem zKt (hj:0<=j) (hc:0<c):Builtin.Range.rangeSize 0 j c=((zAU j c:Nat):Int):=by
 unfold Builtin.Range.rangeSize zAU;rw [qO (show c > 0 from hc),Int.sub_zero];split
 .have:=vP (a:=j - 1) (b:=c) (by lia) (by lia)
  lia
 .rfl
theorem zHJ (hj:0<=j) (hc:0<c) {i:Nat} (h:i<zAU j c):0<=(i:Int)*c/\(i:Int)*c<j:=by
 have h0:0<=(i:Int)*c:=Int.mul_nonneg (by lia) (by lia);refine ⟨h0,?_⟩;unfold zAU at h;by_cases z:0<j
 .rw [qO z] at h
  have h1:(i:Int)<=(j - 1) / c:=by lia
  have h2:=(Int.le_ediv_iff_mul_le hc).mp h1;lia
 .rw [qP z] at h
  exact v6 h (by simp)
theorem zIA (hj:0<=j) (hj':j<2^60) (hc:0<c) (hc':c<2^60):Builtin.Range.small 0 j c=true:=by
 have h1:(j - 1) / c<=j - 1\/j=0:=by
  by_cases z:j=0
  .exact .inr z
  .exact .inl (vp _ (by lia))
 have h2:0<=j->0<j->0<=(j - 1) / c:=λ_ z=>vP (by lia) (by lia);have h3:0<j->(j - 1) / c*c<=j - 1:=λz=>Int.ediv_mul_le _ (by lia);unfold Builtin.Range.small;unfold Builtin.Range.rangeSize;simp only [Builtin.Range.rangeFitsLong,QV,Bool.or_eq_true,X0,Xo,show c > 0 from hc,vz,Int.sub_zero];split <;> lia
def zSR (ta:TA):TI:=λU H R=>ta U H λvs H1=>∃j c:Int,vs=[.int 0, .int j, .int c]/\(0<=j/\j<2^60/\0<c/\c<2^29)/\R (zGT c (zAU j c)) H1
theorem zFD {c:Expr} {ta:TA} {p:Pos} (hg:Gl X "range") (hm:X.mg "range"=none) (ha:PA X [a,b,c] ta) (hs:starEach [a,b,c] X.env=[(false,eval a X.env),(false,eval b X.env),(false,eval c X.env)]:=by rfl) (hs2:starEach [b,c] X.env=[(false,eval b X.env),(false,eval c X.env)]:=by rfl):
  PI X tg (.Call (.Name "range" p) [a,b,c] [] pos) (zSR ta):=by
 intro pA s U H R I h;refine Call_ (yZ I hg hm boot_range (QE (zg (ha pos pA s U H _ I h) λus s1 ⟨vs,H1,I1,r1,q1⟩=>?_) (by rw [hs,hs2]) (by rw [hs2]; rfl)));obtain ⟨j,c',e,⟨q1,q2,q3,q4⟩,q⟩:=q1;subst e;cases r1 with
 | cons r rr=>
  cases rr with
  | cons r' rr=>
   cases rr with
   | cons r'' rr=>
    cases rr;obtain ⟨t,rfl⟩:=r;obtain ⟨t',rfl⟩:=r';obtain ⟨t'',rfl⟩:=r'';refine call_range_3 (by lia) ?_ (Or.inl (PyProof.noPylong_small (by lia)));refine wpAny_pyIter_range (IsRange.new ..) (zIA q1 q2 q3 (by lia)) ?_;have I2:zN X pA U H1 {s1 with heap:=s1.heap.push {cls:= .type "range",data:= .fields #[.int 0 t, .int j t', .int c' t'']},toks:=s1.toks}:=I1.kept λb o e=>qH _ e;refine ⟨(s1.heap.push {cls:= .type "range",data:= .fields #[.int 0 t, .int j t', .int c' t'']}).objs.size,[(s1.heap.push {cls:= .type "range",data:= .fields #[.int 0 t, .int j t', .int c' t'']}).objs.size],_,_,H1,rfl,
     I2.kept (t':=s1.toks) λb o e=>qH _ e,zKr _ c' (zAU j c'),?_,λb hb=>?_,q⟩
    .have e1:0+((0:Nat):Int)*c'=0:=by simp
     have e2:((zAU j c':Nat):Int) - ((0:Nat):Int)=Builtin.Range.rangeSize 0 j c':=by
      rw [zKt q1 q3];simp
     show IsRangeIter _ _ (0+((0:Nat):Int)*c') (((zAU j c':Nat):Int) - ((0:Nat):Int)) c';rw [e1,e2];exact qW _ rfl
    .have e:b=(s1.heap.push {cls:= .type "range",data:= .fields #[.int 0 t, .int j t', .int c' t'']}).objs.size:=by simpa using hb
     subst e;exact I2.fpOk (qG _) (I2.hok.fresh (qG _))
theorem zFt {n:Nat} (Pv:Nat->St->Hp->Prop) (h0:Pv 0 U H)
  (hs:∀i U H,i<n->Pv i U H->g (.int ((i:Nat)*c)) U H λU2 H2=>tb {D with nx:=Pv (i+1),ct:=Pv (i+1),bk:=D.nx} U2 H2) (hd:∀U H,Pv n U H->D.nx U H):
  ∃Z:Nat->Nat->St->Hp->Prop,(∃m,Z 0 m U H)/\∀i m U H,Z i m U H->
   ((zGT c n).stop i H/\D.nx U H)\/((zGT c n).go i H/\∃N:St->Hp->Prop,(∀U' H',N U' H'->∃m',m'<m/\Z (i+1) m' U' H')/\∀x H',(zGT c n).yld i H x H'->g x U H' λU2 H2=>tb {D with nx:=N,ct:=N,bk:=D.nx} U2 H2):=by
 refine ⟨λi m U H=>m=n - i/\i<=n/\Pv i U H,⟨n,by simp,QF _,h0⟩,?_⟩;rintro i m U H ⟨rfl,hi',p⟩;by_cases pL:i<n
 .refine .inr ⟨pL,Pv (i+1),λU' H' p'=>⟨n - (i+1),by lia,rfl,pL,p'⟩,λx H' y=>?_⟩
  obtain ⟨rfl,rfl⟩:=y;exact hs i U _ pL p
 .have e:i=n:=by lia
  subst e;exact .inl ⟨qG _,hd U H p⟩
def zSg:R2:=λx y H Q=>∃(a p:Addr) (r:List Int) (as:List Addr),x= .ref a/\y= .ref p/\H a=some (.lst (r.map V.int))/\H p=some (.lst (as.map V.ref))/\(∀b∈as,∃rb:List Int,H b=some (.lst (rb.map V.int)))/\Q (.bl (as.any λb=>zAt H b==r)) H
theorem zKC (hu:X.A.units+64<cLine):Z1 X (compareOp .In) zSg:=by
 rintro pA s U H x y v u Q I rx ry ⟨a,p,r,as,rfl,rfl,ha,hp,hb,q⟩;cases rx;cases ry;obtain ⟨pD,rv,pl,hz⟩:=I.list (zK.of hp);have ei:=zFW rv;subst ei
 let e:Value->Bool:=λv=>match v with
  | .ref b=>zAt H b==r
  | _=>false
 refine SeqAt.in_listAt e pl.isList (λw hw=>?_) ⟨.bl _,H,I,rfl,?_⟩
 .have hw':w∈as.map Value.ref:=by simpa using hw
  obtain ⟨b,hbm,rfl⟩:=List.mem_map.mp hw';obtain ⟨rb,eb⟩:=hb b hbm;show SeqAt.EqAt X.A.in1 s (.ref b) (.ref a) (zAt H b==r);rw [jJ eb];by_cases z:b=a
  .subst z
   have e2:rb=r:=by
    rw [<-jJ eb,jJ ha]
   rw [e2,QN];exact SeqAt.EqAt.same _
  .exact Ym.at I (n:=1) (zCq z (zK.of eb) (zK.of ha)) (by show X.A.units+1+1<cLine; lia) rfl rfl
 .have e3:(as.map Value.ref).toArray.any e=as.any λb=>zAt H b==r:=by
   rw [List.any_toArray,vM];rfl
  rw [e3];exact q
end L2
namespace N55
open PySem PySem.Spec PyProof.Rows L2
variable {es:List Expr} {C C0 a ad al b cp dx f fr g1 g2 g3 g4 g5 g6 pa q sd wa:Addr} {add ald cpd fd frd pH pI pJ gd4 gd5 gd6:FuncData} {loose ps:List Str} {sp:Sp} {L M cs hs ns s ss ws xs ys zs:List Int} {osc sc:Scope} {pA:List (Addr×Obj)} {fp gs qs rs:List Addr} {s3:Shared} {tb:TE} {P:Program} {w:Nat->Nat} {K:W.Frag} {mg:Str->Option Value} {base h:Heap} {e i j left m n pE:Nat} {H H':Hp} {x y z:Int} {U:L2.St} {A B:L2.St->Hp->Prop} {near:Nat->List Nat} {pB:List (List zZ×V)} {rv v:V} {c:Nat->Bool} {ks o:List Nat} {F R Z os os':List (List Int)} {u:HO} {D:zAV} {S:Int->Prop} {ring:Bool} {Q:VK} {E:XK} {d:DefRec} {us:List Value} {mc mc1 oc:Value} {t10 t3:Tok} {XP:(Str->Option Value)->Heap->Prop} {YP:World->Heap->Prop} {st:Stmt} {osl:Array (Option Value)}
theorem zm {N P:List Str} {sc:Scope} (a:sc.kind= .function:=by rfl) (b:sc.isCoroutine=false:=by rfl) (c:sc.isGenerator=false:=by rfl) (d:N.Nodup:=by decide +kernel) (e:N.take P.length=P:=by rfl) (f:∀x∈P,sc.names.lookup x=some .local\/sc.names.lookup x=some .cell:=by decide +kernel) (g:∀y∈sc.names,y.2≠ .free:=by decide +kernel):jv N P sc:=⟨a,b,c,d,e,f,g⟩
abbrev Kee (K:W.Frag) (f:Addr):Prop:=W.keepIn K (.ref f)=true
theorem yU:2<=sizeLine:=by decide
set_option maxHeartbeats 0
structure Gd (P:Program) (w:World) (K:W.Frag) (mg:Str->Option Value) (base:Heap) (n:Nat) (g:Addr) (gd:FuncData) (ps:List Str) (sp:Sp) (x:Str):Prop where
 f:FnOk P w K mg base zU n g gd ps sp
 b:zX K gd ps []
 k:Kee K g
 m:mg x=some (.ref g)
section
variable {X:Cx} {x:Str} {pos pos' p:Pos} {N P:List Str} {e:Expr} {te:TE}
theorem zL {t:TA} {k:Nat} (G:Gd X.prog X.w X.K X.mg X.base k f fd ps sp x) (hr:yD k X.A) (ha:PA X (e::es) t) (hg:Gl X x:=by rfl) (hd:(x==("__debug__":Str))=false:=by decide) (he:starEach (e::es) X.env=(false,eval e X.env)::starEach es X.env:=by rfl) (hp:(backTo pos (starEach es X.env)).any (·.1)=false:=by rfl):
  PE X (.Call (.Name x p) (e::es) [] pos) (zJR sp [] E0 t):=zHl G.f hr hg G.m G.k G.b .nil ze ha hd he hp
theorem zt (i:Nat) (hN:X.N.Nodup) (he:PE X e te) (hi:X.N[i]?=some x:=by rfl) (hx:Loc X.env.scope x:=by first | exact .inl rfl | exact .inr rfl) (hs:swapsWith e (some (.Name x pos')) pos.line X.env=pure false:=by rfl) (hf:X.fn x=true\/X.env.scope.names.lookup x=some .local:=by first | exact .inl rfl | exact .inr rfl | assumption):
  PS X (.Assign [.Name x pos'] e pos) (zIo te (ZW i)):=zJd hN hi hx he hs hf
theorem Yk (i:Nat) (hN:X.N.Nodup) (hi:X.N[i]?=some x:=by rfl) (hx:Loc X.env.scope x:=by first | exact .inl rfl | exact .inr rfl) (hf:X.fn x=true\/X.env.scope.names.lookup x=some .local:=by first | exact .inl rfl | exact .inr rfl | assumption):PG X (.Name x pos) (ZW i):=jw hN hi hx hf
theorem bk {xs:List Str} (_:jv N P osc) (h:zIu osc N xs sc=true:=by decide +kernel) (hs:X.env.scope=osc:=by rfl) (hN:X.N=N:=by rfl):Zt X xs sc:=zKA osc N hs hN h
theorem yI {Y:Cx} {xs:List Str} {H3:Hp} (_:jv N P osc) (h:(zAQ xs N).Nodup:=by decide +kernel) (hN:Y.N=N:=by rfl) (hi:(ja Y pA xs sc C fp s3 H3).N[0]?=some x:=by rfl) (hx:Loc (ja Y pA xs sc C fp s3 H3).env.scope x:=by exact .inl rfl) (hf:(ja Y pA xs sc C fp s3 H3).fn x=true\/(ja Y pA xs sc C fp s3 H3).env.scope.names.lookup x=some .local:=by first | exact .inl rfl | exact .inr rfl | assumption):PG (ja Y pA xs sc C fp s3 H3) (.Name x pos) (ZW 0):=jw (show (zAQ xs Y.N).Nodup from hN▸h) hi hx hf
theorem zz {a b:Expr} {ta:TE} {r:R2} (hr:IxR X r) (ha:PE X a ta) (hb:PE X b tb) (hs:zHE b:=by intro _ _; rfl):PE X (.Subscript a b pos) (tOp r ta tb):=YR hr ha hb hs
theorem _root_.L2.FnOk.mo {P:Program} {w:World} {CX:CXT} (h:FnOk P w K mg base CX i f fd ps sp) (hj:i<=j:=by decide):FnOk P w K mg base CX j f fd ps sp:=h.mono hj
end
abbrev FS (k:Nat) (N:List Str) (s:Stmt):Prop:=jv N (N.take k) (Za s)
abbrev Fu (K:W.Frag) (x:Str) (s:Stmt) (f:Addr) (fd:FuncData):Prop:=Zv K x x s f fd
variable {w:World}
def top (i:Nat):Stmt:=PySem.Challenge.pw_nearsums_k55_whole_all_orders_tried.main.body.getD i (.Pass ⟨0,0,0,0⟩)
structure Bt (mg:Str->Option Value):Prop where
 len:mg "len"=none
 max:mg "max"=none
 min:mg "min"=none
 range:mg "range"=none
 list:mg "list"=none
 int:mg "int"=none
theorem small (h:n<=1000):n<=sizeLine:=qf (Zb h)
structure Bt2 (mg:Str->Option Value):Prop extends Bt mg where
 all:mg "all"=none
 isinstance:mg "isinstance"=none
 bool:mg "bool"=none
 str:mg "str"=none
 tuple:mg "tuple"=none
 sorted:mg "sorted"=none
theorem zR {p:Addr} (g:zE H H') (h:H' p=none):H p=none:=by
 cases e:H p with
 | none=>rfl
 | some o=>rw [g _ _ e] at h; cases h
abbrev zFe:Stmt:=top 12
inductive Yw (vs:List V) (H:Hp) (Q:VK) (E:XK):Prop
 | mk (i:Int):vs=[.int i]->Q (.bl true) H->Yw vs H Q E
theorem zOw:FS 1 ["thing"] zFe:=zm
theorem zMn (F:Fu K "is_whole" zFe f fd) (B:Bt2 mg):FnOk P w K mg base zU 1 f fd ["thing"] Yw:=by
 refine F.ok zOw ?_ ?_
 .rintro _ _ _ _ ⟨a,rfl,_⟩
  rfl
 rintro _ A _ s H _ Q E hr ⟨i,rfl,q⟩;refine ⟨_,(zG (zM (YL (zP (Ju "int") rfl B.isinstance Xd (zA (pv 0) (zA (zAb (v:= .ty "int") rfl B.int xj rfl) zB))) (yf (zQq (zP (Ju "bool") rfl B.isinstance Xd (zA (pv 0) (zA (zAb (v:= .ty "bool") rfl B.bool PyProof.Rows.boot_bool rfl) zB)))))))),?_⟩;refine ⟨_,rfl,_,_,_,rfl, .int i,rfl,_,rfl,zr (λc=>?_) (λc=>v6 rfl c)⟩;exact ⟨_,rfl,_,_,false,rfl, .int i,rfl,_,rfl,q⟩
structure zAP (xs:List Int):Prop where
 up:xs.Pairwise (·<·)
 bd:∀x∈xs,0<=x
structure zf (ns ss:List Int):Prop where
 n:zAP ns
 s:zAP ss
 n1:1<=ns.length
 n2:ns.length<=10
 s2:ss.length<=10
theorem JF {x:V} (h:A (U.set 0 (some x)) H):ZW 0 x U H λU2 H2=>zDK U2 H2 λb H3=>if b=true then A U2 H3 else B U2 H3:=by
 have z:(if true=true then A (U.set 0 (some x)) H else B (U.set 0 (some x)) H):=Yu h;exact z
theorem zAY (h:xs.Pairwise (·<=·)) (n:xs.Nodup):xs.Pairwise (·<·):=by
 induction xs with
 | nil=>exact .nil
 | cons x r ih=>
  rw [Xl] at h ⊢;rw [List.nodup_cons] at n;refine ⟨λy hy=>?_,ih h.2 n.2⟩;have h1:=h.1 y hy;have h2:x≠y:=λe=>n.1 (e▸hy);lia
structure Bt3 (mg:Str->Option Value):Prop extends Bt2 mg where
 enumerate:mg "enumerate"=none
abbrev zIS:Stmt:=top 14
abbrev zMV:Stmt:=top 15
abbrev zMW:Stmt:=top 16
abbrev zLx:Stmt:=top 18
structure zi (H:Hp) (t a b:Addr) (ns ss:List Int):Prop where
 t:H t=some (.tup [.ref a, .ref b])
 a:H a=some (.lst (ns.map V.int))
 b:H b=some (.lst (ss.map V.int))
 ok:zf ns ss
theorem zi.same {t:Addr} (h:zi H t a b ns ss) (g:zE H H'):zi H' t a b ns ss:=⟨g _ _ h.t,g _ _ h.a,g _ _ h.b,h.ok⟩
def zY (ss:List Int) (x y:Int):Bool:=decide (x≠y)&&ss.contains (x+y)
inductive zDS (vs:List V) (H:Hp) (Q:VK) (E:XK):Prop
 | mk (a:Addr) (xs:List Int) (few:Int):vs=[.ref a, .int few]->H a=some (.lst (xs.map V.int))->zAP xs->few<=(xs.length:Int)->xs.length<=10->Q (.bl true) H->zDS vs H Q E
inductive zIv (vs:List V) (H:Hp) (Q:VK) (E:XK):Prop
 | mk (t a b:Addr) (ns ss:List Int):vs=[.ref t]->zi H t a b ns ss->Q (.bl true) H->zIv vs H Q E
inductive yw (vs:List V) (H:Hp) (Q:VK) (E:XK):Prop
 | mk (t a b:Addr) (ns ss:List Int):vs=[.ref t]->zi H t a b ns ss->Q .non H->yw vs H Q E
inductive zBE (vs:List V) (H:Hp) (Q:VK) (E:XK):Prop
 | mk (t a b:Addr) (ns ss:List Int) (x y:Int):vs=[.ref t, .int x, .int y]->zi H t a b ns ss->Q (.bl (zY ss x y)) H->zBE vs H Q E
section
variable {wh ri ip cn:Addr} {whd rid ipd cnd:FuncData}
theorem zDQ:FS 2 ["thing","fewest","below","number"] zIS:=zm
theorem zOg (F:Fu K "is_rising_list" zIS f fd) (B:Bt2 mg) (m10:mg "MOST"=some (.int 10 t10))
  (GW:Gd P w K mg base 1 wh whd ["thing"] Yw "is_whole"):FnOk P w K mg base zU 2 f fd ["thing","fewest"] zDS:=by
 refine F.ok zDQ ?_ ?_
 .rintro _ _ _ _ ⟨a,xs,few,rfl,_⟩
  rfl
 rintro _ A _ s H _ Q E hr ⟨a,xs,few,rfl,ha,rise,l1,l2,q⟩;refine ⟨_,(zD (zd (PW.pt (yi (Zi (ZN (zP (Ju "list") rfl B.isinstance Xd (zA (pv 0) (zA (zAb (v:= .ty "list") rfl B.list qq rfl) zB))))) (yA (Zi (zFj zDt zDt (pv 1) (zP zQ rfl B.len qU (zA (pv 0) zB)) (jR (v:= .int 10) rfl m10 ⟨_,rfl⟩)))))) (zG (zM ZU)) zW) (zD (zt 2 zDQ.nd (Y9 Yc zJ)) (zD (Zq qi rfl (zj (pv 0)) (Yk 3 zDQ.nd) (zD (zd (PW.pt (yi (Zi (ZN (zL GW hr (zA (pv 3) zB)))) (yA (zT zDt (pv 3) (pv 2) (zV _))))) (zG (zM ZU)) zW) (zG (zt 2 zDQ.nd (pv 3))))) (zG (zM ZU))))),?_⟩;have hml:(xs.map V.int).length=xs.length:=qA _;refine ⟨_,rfl,_,_,true,rfl, .lst ha,rfl,_,rfl,ZG ?_⟩;refine ⟨_,rfl,_,rfl,a,_,rfl, .inl (zK.of ha),_,_,rfl,rfl,_,rfl,zr (λ_=>?_) (λc=>v6 (qK (by rw [hml]; exact l1)) c)⟩;refine ⟨_,_,rfl,rfl,_,rfl,zr (λc=>?_) (λ_=>?_)⟩
 .have e:decide ((((xs.map V.int).length:Nat):Int)<=10)=true:=qK (by rw [hml]; lia)
  have c':(!decide ((((xs.map V.int).length:Nat):Int)<=10))=true:=c;rw [e] at c';cases c'
 refine ⟨_,rfl,_,rfl,a,rfl,⟨_,zK.of ha⟩,?_⟩;refine yz (xs:=xs.map V.int) (λi U H'=>∃(bl:Int) (y:Option V),U=[some (.ref a),some (.int few),some (.int bl),y]/\H'=H/\∀z∈xs.drop i,bl<z)
  ⟨-1,none,rfl,rfl,λz hz=>by have:=rise.bd z (List.mem_of_mem_drop hz); lia⟩ (λi U H' _ ⟨_,_,_,e,_⟩=>by rw [e]; exact zK.of ha) ?_ ?_
 .rintro i x U H' hx ⟨bl,y,rfl,rfl,hb⟩
  rw [qM] at hx;cases ex:xs[i]? with
  | none=>rw [ex] at hx; cases hx
  | some v=>
   rw [ex] at hx;cases hx;have hi:i<xs.length:=(List.getElem?_eq_some_iff.mp ex).1;have ev:xs[i]=v:=(List.getElem?_eq_some_iff.mp ex).2;have hd:xs.drop i=v::xs.drop (i+1):=by rw [xK hi,ev]
   have hbv:bl<v:=hb v (by rw [hd]; exact qE);refine ⟨_,rfl,v,rfl,_,rfl,ZG ?_⟩;refine ⟨_,rfl,_,rfl,_,_,rfl,rfl,_,rfl,zr (λc=>?_) (λ_=>?_)⟩
   .have c':v<=bl:=qZ c
    lia
   .refine ⟨_,rfl,v,_,rfl,rfl,λz hz=>?_⟩
    have up:=rise.up;rw [<-XV i xs,vQ,hd,Xl] at up;exact up.2.1.1 z hz
 .rintro U H' ⟨bl,y,rfl,rfl,hb⟩
  exact q
theorem zSC:FS 1 ["thing"] zMV:=zm
theorem zQl (F:Fu K "is_plan" zMV f fd) (B:Bt2 mg) (GI:Gd P w K mg base 2 ri rid ["thing","fewest"] zDS "is_rising_list"):FnOk P w K mg base zU 3 f fd ["thing"] zIv:=by
 refine F.ok zSC ?_ ?_
 .rintro _ _ _ _ ⟨t,a,b,ns,ss,rfl,_⟩
  rfl
 rintro _ A _ s H _ Q E hr ⟨t,a,b,ns,ss,rfl,pl,q⟩;refine ⟨_,(zD (zd (PW.pt (yi (Zi (ZN (zP (Ju "tuple") rfl B.isinstance Xd (zA (pv 0) (zA (zAb (v:= .ty "tuple") rfl B.tuple Q4 rfl) zB))))) (yA (zT Yl (zP zQ rfl B.len qU (zA (pv 0) zB)) zJ (zV _))))) (zG (zM ZU)) zW) (zG (zM (YL (zL GI hr (zA (zz zh (pv 0) zJ) (zA zJ zB))) (yf (zL GI hr (zA (zz zh (pv 0) zJ) (zA zJ zB)))))))),?_⟩;refine ⟨_,rfl,_,_,true,rfl, .tup pl.t,rfl,_,rfl,ZG ?_⟩;refine ⟨_,rfl,t,_,rfl, .inr (ZD.of pl.t),rfl,_,rfl,ZG ?_⟩;refine ⟨_,rfl,t,_,0,_,rfl,rfl,ZD.of pl.t,rfl,a,ns,1,rfl,pl.a,pl.ok.n,by have:=pl.ok.n1; lia,pl.ok.n2,_,rfl,Yu ?_⟩;exact ⟨_,rfl,t,_,1,_,rfl,rfl,ZD.of pl.t,rfl,b,ss,0,rfl,pl.b,pl.ok.s,by lia,pl.ok.s2,q⟩
theorem zRz:FS 1 ["plan"] zMW:=zm
theorem zQD (F:Fu K "check_plan" zMW f fd) (GP:Gd P w K mg base 3 ip ipd ["thing"] zIv "is_plan"):FnOk P w K mg base zU 4 f fd ["plan"] yw:=by
 refine F.ok zRz ?_ ?_
 .rintro _ _ _ _ ⟨t,a,b,ns,ss,rfl,_⟩
  rfl
 rintro _ A _ s H _ Q E hr ⟨t,a,b,ns,ss,rfl,pl,q⟩;refine ⟨_,(zG (zd (Zi (ZN (zL GP hr (zA (pv 0) zB)))) (zG yS) zW)),?_⟩;exact ⟨_,rfl,t,a,b,ns,ss,rfl,pl,_,rfl,ZG q⟩
theorem zRW:FS 3 ["plan","one","other"] zLx:=zm
theorem zQj (F:Fu K "add_up" zLx f fd):FnOk P w K mg base zU 1 f fd ["plan","one","other"] zBE:=by
 refine F.ok zRW ?_ ?_
 .rintro _ _ _ _ ⟨t,a,b,ns,ss,x,y,rfl,_⟩
  rfl
 rintro _ A _ s H _ Q E hr ⟨t,a,b,ns,ss,x,y,rfl,pl,q⟩;refine ⟨_,(zG (zM (YL (ZT Yl (pv 1) (pv 2) (zV _)) (yf (ZT (Y3 K) (zS ZA (pv 1) (pv 2)) (zz zh (pv 0) zJ) rfl))))),?_⟩;have e1:(!decide (V.int x=V.int y))=decide (x≠y):=by
  rw [<-decide_not];exact decide_eq_decide.mpr (not_congr ⟨λh=>V.int.inj h,λh=>by rw [h]⟩)
 unfold zY at q;refine ⟨_,rfl,_,rfl,rfl,_,rfl,?_⟩;rw [e1];refine zr (λc=>?_) (λc=>?_)
 .rw [c,QJ] at q
  exact ⟨_,rfl,_,rfl,_,_,rfl,rfl,_,rfl,t,_,1,_,rfl,rfl,ZD.of pl.t,rfl,b,x+y,ss,rfl,rfl,zK.of pl.b,q⟩
 .rw [Bool.eq_false_iff.mpr c,xG] at q
  exact q
end
def ZV (m:Nat):Nat:=((List.range 10).filter λk=>m.testBit k).length
theorem ZQ:∀m<1024,∀k<10,m.testBit k=true->ZV (m - 2^k)+1=ZV m/\m - 2^k<m/\(m - 2^k).testBit k=false:=by decide +kernel
theorem yC:∀m<1024,ZV m=0->m=0:=by decide +kernel
theorem yr:∀m<1024,ZV m<=10:=by decide +kernel
theorem zGF {k:Nat} (h:m<2^n) (hb:m.testBit k=true):k<n:=by
 rcases xN k n with z | z
 .exact z
 .rw [XS (qd h (QX (by decide) z))] at hb
  cases hb
theorem yM {k:Nat} (h:k<n):(2^n - 1).testBit k=true:=by rw [ve]; exact qK h
theorem zKz:∀n<11,ZV (2^n - 1)=n:=by decide +kernel
theorem Y5:∀n<11,2^n<=1024:=by decide +kernel
theorem zMc:∀m<1024,∀k<10,((m&&& 2^k) !=0)=m.testBit k:=by decide +kernel
section
variable (near:Nat->List Nat) (ends:Nat->Bool)
def zLe:Nat->Nat->Nat->Bool
 | 0,_,e=>ends e
 | m+1,left,e=>(near e).any λk=>left.testBit k&&zLe m (left - 2^k) k
def yj (left e:Nat):Bool:=zLe near ends (ZV left) left e
def fst (left e:Nat):Option Nat:=(near e).find? λk=>left.testBit k&&yj near ends (left - 2^k) k
def zAl:Nat->Nat->Nat->List Nat
 | 0,_,_=>[]
 | m+1,left,e=>match fst near ends left e with
  | none=>[]
  | some k=>k::zAl m (left - 2^k) k
def jx (left e:Nat):List Nat:=zAl near ends (ZV left) left e
structure zu (n:Nat):Prop where
 n10:n<=10
 lt:∀e≤n,∀k∈near e,k<n
 up:∀e≤n,(near e).Pairwise (·<·)
variable {near ends}
theorem zFl:yj near ends 0 e=ends e:=rfl
theorem zIa {l:List Nat} {p q:Nat->Bool} (h:∀k∈l,p k=q k):l.any p=l.any q:=by
 induction l with
 | nil=>rfl
 | cons a r ih=>rw [xk,xk,h a qE,ih λk hk=>h k (qF _ hk)]
theorem zMp (N:zu near n) (hl:left<1024) (h0:left≠0) (he:e<=n):yj near ends left e=(near e).any λk=>left.testBit k&&yj near ends (left - 2^k) k:=by
 unfold yj;cases hc:ZV left with
 | zero=>exact v6 (yC left hl hc) h0
 | succ m=>
  show ((near e).any λk=>left.testBit k&&zLe near ends m (left - 2^k) k)=_;refine zIa λk hk=>?_;cases hb:left.testBit k with
  | false=>rfl
  | true=>
   have hk10:k<10:=qd (N.lt e he k hk) N.n10;have:=(ZQ left hl k hk10 hb).1;have em:ZV (left - 2^k)=m:=by lia
   rw [em]
theorem zCg {k:Nat} (N:zu near n) (he:e<=n) (h:fst near ends left e=some k):k<n/\left.testBit k=true/\yj near ends (left - 2^k) k=true:=by
 have h1:=vR h;have h2:=Qv h;rw [QV] at h1;exact ⟨N.lt e he k h2,h1.1,h1.2⟩
theorem zCO (N:zu near n) (hl:left<1024) (h0:left≠0) (he:e<=n):yj near ends left e=(fst near ends left e).isSome:=by
 rw [zMp N hl h0 he];unfold fst;rw [qu,List.find?_isSome,X7]
theorem zEw:jx near ends 0 e=[]:=rfl
theorem zEg {k:Nat} (N:zu near n) (hl:left<1024) (he:e<=n) (h:fst near ends left e=some k):jx near ends left e=k::jx near ends (left - 2^k) k:=by
 obtain ⟨hk,hb,hc⟩:=zCg N he h;have h1:=(ZQ left hl k (qd hk N.n10) hb).1;unfold jx;rw [<-h1];show (match fst near ends left e with | none=>[] | some j=>j::zAl near ends (ZV (left - 2^k)) (left - 2^j) j)=_;rw [h]
theorem zHU {n:Nat} (N:zu near n):∀(m left e:Nat),e<=n->∀k∈zAl near ends m left e,k<n
 | 0,_,_,_,k,h=>nomatch h
 | m+1,left,e,he,k,h=>by
  have h':k∈(match fst near ends left e with | none=>[] | some k=>k::zAl near ends m (left - 2^k) k):=h;cases hf:fst near ends left e with
  | none=>rw [hf] at h'; exact nomatch h'
  | some j=>
   rw [hf] at h';have hj:=(zCg N he hf).1;rcases List.mem_cons.mp h' with z | z
   .rw [z]; exact hj
   .exact zHU N m _ j (qf hj) k z
theorem zCf:∀(m left e:Nat),(zAl near ends m left e).length<=m
 | 0,_,_=>qG _
 | m+1,left,e=>by
  show (match fst near ends left e with | none=>[] | some k=>k::zAl near ends m (left - 2^k) k).length<=m+1;cases fst near ends left e with
  | none=>exact QF _
  | some j=>exact Nat.succ_le_succ (zCf m _ j)
end
theorem zAa:∀(N:Nat) (l:List Nat),l.Nodup->(∀x∈l,x<N)->l.length<=N
 | 0,l,_,h=>by
  cases l with
  | nil=>exact qG _
  | cons a r=>exact v6 (h a qE) (Qn _)
 | N+1,l,nd,h=>by
  by_cases hm:N∈l
  .have h1:=zAa N (l.erase N) (nd.erase N) λx hx=>by
    have hx':=(List.Nodup.mem_erase_iff nd).mp hx;have:=h x hx'.2;have hne:=hx'.1;lia
   rw [Qb hm] at h1;lia
  .have h1:=zAa N l nd λx hx=>by
    have:=h x hx;have hne:x≠N:=λe=>hm (e▸hx);lia
   lia
abbrev zIJ:Stmt:=top 21
abbrev zIf:Stmt:=top 22
abbrev zJU:Stmt:=ZL (top 23) 0
abbrev zBY:Stmt:=ZL (top 23) 1
def iv (l:List Nat):List Int:=l.map λk:Nat=>(k:Int)
theorem yV (l:List Nat):(iv l).length=l.length:=qA _
theorem Yg (l:List Nat):(iv l).map V.int=l.map λk:Nat=>V.int (k:Int):=qo
theorem zCR (l:List Nat) (e:Nat):(iv l).contains (e:Int)=l.contains e:=by
 rw [qu,qw,qw];unfold iv;rw [XE];constructor
 .rintro ⟨k,hk,h⟩
  have h':k=e:=by lia
  exact h'▸hk
 .exact λh=>⟨e,h,rfl⟩
def yu (ns ss:List Int) (x:Int):List Nat:=(List.range ns.length).filter λk=>zY ss x (ns.getD k 0)
def zO (ns ss:List Int) (fs:List Nat) (e:Nat):List Nat:=if e<ns.length then yu ns ss (ns.getD e 0) else fs
inductive zBa (vs:List V) (H:Hp) (Q:VK) (E:XK):Prop
 | mk (t a b:Addr) (ns ss:List Int) (x:Int):vs=[.ref t, .int x]->zi H t a b ns ss->(∀(l:Addr) (H':Hp),zE H H'->H l=none->H' l=some (.lst ((iv (yu ns ss x)).map V.int))->Q (.ref l) H')->zBa vs H Q E
inductive zBO (vs:List V) (H:Hp) (Q:VK) (E:XK):Prop
 | mk (t a b p:Addr) (ns ss:List Int) (ks:List Nat):vs=[.ref t, .ref p]->zi H t a b ns ss->H p=some (.lst ((iv ks).map V.int))->ks.length<=1000->(∀k∈ks,k<ns.length)->(∀(l:Addr) (H':Hp),zE H H'->H l=none->H' l=some (.lst ((ks.map λk=>ns.getD k 0).map V.int))->Q (.ref l) H')->zBO vs H Q E
def Y8 (H:Hp) (nr:Addr) (n:Nat) (near:Nat->List Nat):Prop:=∃rs:List Addr,rs.length=n+1/\H nr=some (.lst (rs.map V.ref))/\∀e≤n,∃r,rs[e]?=some r/\H r=some (.lst ((iv (near e)).map V.int))
structure SrT (K:W.Frag) (C:Addr):Prop where
 cl:Cls K C
 nA:ZM K C "ahead"
 nN:ZM K C "near"
 nW:ZM K C "whole"
def fs0 (n:Nat) (nr:Addr):List (Str×V):=[("ahead", .int n),("near", .ref nr),("whole", .int ((2^n - 1:Nat):Int))]
inductive zBf (C:Addr) (vs:List V) (H:Hp) (Q:VK) (E:XK):Prop
 | mk (s t a b fp dx:Addr) (ns ss:List Int) (fs:List Nat):vs=[.ref s, .ref t, .ref fp]->H s=some (.ins C dx [])->zi H t a b ns ss->H fp=some (.lst ((iv fs).map V.int))->(∀(nr:Addr) (H':Hp),Ex (·=s) H H'->H' s=some (.ins C dx (fs0 ns.length nr))->Y8 H' nr ns.length (zO ns ss fs)->Q .non H')->zBf C vs H Q E
inductive YI (C:Addr) (vs:List V) (H:Hp) (Q:VK) (E:XK):Prop
 | mk (s dx nr:Addr) (fs:List (Str×V)) (n:Nat) (near:Nat->List Nat) (left e:Nat):vs=[.ref s, .int left, .int e]->H s=some (.ins C dx fs)->fs.lookup ("near":Str)=some (.ref nr)->Y8 H nr n near->zu near n->e<=n->left<1024->(∀(l:Addr) (H':Hp),zE H H'->H l=none->H' l=some (.lst ((iv ((near e).filter λk=>left.testBit k)).map V.int))->Q (.ref l) H')->YI C vs H Q E
theorem Yz {fs:List Nat} (ok:zf ns ss) (h1:∀k∈fs,k<ns.length) (h2:fs.Pairwise (·<·)):zu (zO ns ss fs) ns.length where
 n10:=ok.n2
 lt:=λe _ k hk=>by
  unfold zO at hk;split at hk
  .exact List.mem_range.mp (List.mem_filter.mp hk).1
  .exact h1 k hk
 up:=λe _=>by
  unfold zO;split
  .exact vS _ QY
  .exact h2
theorem jy (N:zu near n) (he:e<=n):(near e).length<=n:=
 zAa n _ ((N.up e he).imp λh=>qb h) (N.lt e he)
theorem zRc (left k:Nat) (h:left<1024) (hk:k<10):(Builtin.bitAnd (left:Int) (1*2^((k:Int)).toNat) !=0)=left.testBit k:=by
 have e:(1*2^((k:Int)).toNat:Int)=((2^k:Nat):Int):=by rw [Int.one_mul,qy]; simp
 rw [e,<-zMc left h k hk];unfold Builtin.bitAnd;simp only [Int.natCast_nonneg,decide_true,qy];rw [qu];simp only [bne_iff_ne,ne_eq];exact not_congr (by lia)
theorem JD (left k:Nat) (h:2^k<=left):((left:Int) - 1*2^((k:Int)).toNat)=((left - 2^k:Nat):Int):=by
 have e:(1*2^((k:Int)).toNat:Int)=((2^k:Nat):Int):=by rw [Int.one_mul,qy]; simp
 rw [e]; lia
theorem Y6 {k:Nat} (h:left.testBit k=true):2^k<=left:=Nat.ge_two_pow_of_testBit h
theorem yb {l:List Nat} {k:Nat} (h:l[i]?=some k):((iv l).map V.int)[i]?=some (.int (k:Int)):=by rw [Yg,qM,h]; rfl
theorem zQn {l:List Nat} {x:V} (h:((iv l).map V.int)[i]?=some x):∃k,l[i]?=some k/\x= .int (k:Int):=by
 rw [Yg,qM] at h;cases e:l[i]? with
 | none=>rw [e] at h; cases h
 | some k=>rw [e] at h; exact ⟨k,rfl,(Option.some.inj h).symm⟩
theorem zOx (ns:List Int) (ks:List Nat):(((List.range ks.length).filter λ_=>true).map λi=>V.int (ns.getD (ks.getD i 0) 0))=(ks.map λk=>ns.getD k 0).map V.int:=by
 rw [zBQ,qo];have h:=Qe (List.map (V.int ∘ λk=>ns.getD k 0)) (rgD ks 0);rw [qo] at h;exact h
section
variable {nf:Addr} {nfd:FuncData}
theorem zFm:FS 2 ["plan","number"] zIJ:=zm
theorem zOi (F:Fu K "near_places" zIJ f fd) (B:Bt3 mg)
  (GA:Gd P w K mg base 1 ad add ["plan","one","other"] zBE "add_up"):FnOk P w K mg base zU 2 f fd ["plan","number"] zBa:=by
 refine F.ok zFm ?_ ?_
 .rintro _ _ _ _ ⟨t,a,b,ns,ss,x,rfl,_⟩
  rfl
 rintro _ A _ s H _ Q E hr ⟨t,a,b,ns,ss,x,rfl,pl,q⟩;refine ⟨_,(zG (zM (ZR ["place","other"] rfl (bk zFm) (zHm rfl B.enumerate (zA (zz zh (pv 0) zJ) zB)) (λpA C fp s3 H3=>⟨(zHk (n:=2) K rfl (Yq (yI zFm) (Yq (jw (i:=1) (show (zAQ ["place","other"] ["plan","number"]).Nodup by decide +kernel) rfl (Or.inl rfl)) zCE))),(Zg (ZN (zL GA hr (zA (pv 2) (zA (pv 3) (zA (pv 1) zB)))))),(pv 0)⟩)))),?_⟩;have n2:=pl.ok.n2;have hml:(ns.map V.int).length=ns.length:=qA _;refine ⟨_,rfl,t,_,0,_,rfl,rfl,ZD.of pl.t,rfl,a,_,rfl,pl.a,λD hD=>?_⟩;refine zJS (U:=[some (.ref t),some (.int x)]) (xs:=ns.map V.int) (λi=>zY ss x (ns.getD i 0)) (λi=> .int (i:Int)) pl.a hD (by lia) (λi H' hi g P hP=>?_) (λi H' hi _ g P hP=>?_) λH2 g2 e2=>?_
 .rw [yJ _ (by rw [hml] at hi; exact hi)]
  exact ⟨_,rfl,_,rfl,_,rfl,t,a,b,ns,ss,x,_,rfl,pl.same g,_,rfl,hP _ zE.rfl'⟩
 .exact ⟨_,rfl,hP _ zE.rfl'⟩
 .refine q D H2 g2 hD ?_
  rw [e2,hml,Yg];rfl
theorem zFh:FS 2 ["plan","places"] zIf:=zm
theorem zOy (F:Fu K "numbers_at" zIf f fd):FnOk P w K mg base zU 1 f fd ["plan","places"] zBO:=by
 refine F.ok zFh ?_ ?_
 .rintro _ _ _ _ ⟨t,a,b,p,ns,ss,ks,rfl,_⟩
  rfl
 rintro _ A _ s H _ Q E hr ⟨t,a,b,p,ns,ss,ks,rfl,pl,hp,h1000,pL,q⟩;refine ⟨_,(zG (zM (ZR ["place"] rfl (bk zFh) (zj (pv 1)) (λpA C fp s3 H3=>⟨(yI zFh),yN,(zz (jL K) (YR (j5 K) (pv 1) zJ (λ_ _=>rfl)) (pv 0))⟩)))),?_⟩;have hml:((iv ks).map V.int).length=ks.length:=by rw [qA,yV]
 refine ⟨_,rfl,p,rfl,⟨_,zK.of hp⟩,λD hD=>?_⟩;refine yt (U:=[some (.ref t),some (.ref p)]) (xs:=(iv ks).map V.int) (λ_=>true) (λi=> .int (ns.getD (ks.getD i 0) 0)) (zK.of hp) hD (by lia) (λi H' hi g P hP=>?_) (λi H' hi _ g P hP=>?_) λH2 g2 e2=>?_
 .exact hP _ zE.rfl'
 .have hi':i<ks.length:=by rw [hml] at hi; exact hi
  have ek:ks[i]?=some ks[i]:=qB hi';have e1:((iv ks).map V.int).getD i .non= .int ((ks[i]:Nat):Int):=by rw [qC,yb ek]; rfl
  have e2:ks.getD i 0=ks[i]:=by rw [qC,ek]; rfl
  have hk:ks[i]<ns.length:=pL _ (qg hi');rw [e1];rw [e2] at hP;refine ⟨_,rfl,t,_,0,_,rfl,rfl,ZD.of (pl.same g).t,rfl,_,rfl,a,_,_,_,rfl,rfl,zK.of (pl.same g).a,Zx ?_,hP _ zE.rfl'⟩;rw [qM,qB hk,qC,qB hk];rfl
 .refine q D H2 g2 hD ?_
  rw [e2,hml];exact Qe (λx=>some (HO.lst x)) (zOx ns ks)
theorem zGE:FS 3 ["self","plan","first_places"] zJU:=zm
theorem zEc (F:Zv K "__init__" "Steps.__init__" zJU f fd) (B:Bt3 mg) (T:SrT K C)
  (GN:Gd P w K mg base 2 nf nfd ["plan","number"] zBa "near_places"):FnOk P w K mg base zU 3 f fd ["self","plan","first_places"] (zBf C):=by
 refine F.ok zGE ?_ ?_
 .rintro _ _ _ _ ⟨s,t,a,b,fp,dx,ns,ss,fs,rfl,_⟩
  rfl
 rintro _ A _ s H _ Q E hr ⟨s,t,a,b,fp,dx,ns,ss,fs,rfl,hs,pl,hfp,q⟩;refine ⟨_,(zD (Ya (pv 0) (zP zQ rfl B.len qU (zA (zz zh (pv 1) zJ) zB)) rfl) (zD (Ya (pv 0) (zS Yt (ZR ["number"] rfl (bk zGE) (zj (zz zh (pv 1) zJ)) (λpA C fp s3 H3=>⟨(yI zGE),yN,(zL GN hr (zA (pv 2) (zA (pv 0) zB)))⟩)) (zv (zA (ZE ZP rfl B.list qq (zA (pv 2) zB)) zB))) rfl) (zG (Ya (pv 0) (zS yc (zS jc zJ (zk (pv 0) rfl)) zJ) rfl)))),?_⟩;have n2:=pl.ok.n2;have hml:(ns.map V.int).length=ns.length:=qA _;refine ⟨_,rfl,t,_,0,_,rfl,rfl,ZD.of pl.t,rfl,a,_,rfl, .inl (zK.of pl.a),_,rfl,s,C,dx,_,rfl,hs,T.cl,T.nA,(by show 0<1000; decide),?_⟩;rw [hml];have ts:t≠s:=zw pl.t hs (by intro z; cases z);have as:a≠s:=zw pl.a hs (by intro z; cases z);have bs:b≠s:=zw pl.b hs (by intro z; cases z);have fps:fp≠s:=zw hfp hs (by intro z; cases z);have pl1:zi (zH H s (.ins C dx (yl "ahead" (.int (ns.length:Int)) []))) t a b ns ss:=⟨by rw [zI ts]; exact pl.t,by rw [zI as]; exact pl.a,by rw [zI bs]; exact pl.b,pl.ok⟩;have fp1:(zH H s (.ins C dx (yl "ahead" (.int (ns.length:Int)) []))) fp=some (.lst ((iv fs).map V.int)):=by rw [zI fps]; exact hfp
 have s1:(zH H s (.ins C dx (yl "ahead" (.int (ns.length:Int)) []))) s=some (.ins C dx (yl "ahead" (.int (ns.length:Int)) [])):=zC;have ex1:Ex (·=s) H (zH H s (.ins C dx (yl "ahead" (.int (ns.length:Int)) []))):=Ex.put _ rfl;generalize zH H s (.ins C dx (yl "ahead" (.int (ns.length:Int)) []))=H1 at pl1 fp1 s1 ex1 ⊢;refine ⟨_,rfl,t,_,0,_,rfl,rfl,ZD.of pl1.t,rfl,a,rfl,⟨_,zK.of pl1.a⟩,λD hD=>?_⟩;refine Zy (n:=ns.length) (λi U' H'=>∃(x:Option V) (rs:List Addr),U'=[x,some (.ref s),some (.ref t),some (.ref fp)]/\zE H1 H'/\rs.length=i/\H' D=some (.lst (rs.map V.ref))/\
  ∀e<i,∃r,rs[e]?=some r/\r≠D/\H' r=some (.lst ((iv (yu ns ss (ns.getD e 0))).map V.int))) ⟨none,[],rfl,zE.new hD _,rfl,zC,λe he=>v6 he (Qn _)⟩ ?_ ?_
 .rintro i U' H' hi ⟨x,rs,rfl,g,hrs,hl,hr'⟩
  have ex:(ns.map V.int)[i]?=some (.int ns[i]):=by rw [qM,qB hi]; rfl
  refine ⟨⟨_,_,zK.of (g _ _ pl1.a),ex⟩,λy H2 hy=>?_⟩;obtain ⟨rfl,hy⟩:=hy;have ey:=hy _ (zK.of (g _ _ pl1.a));rw [ex] at ey;cases ey;refine JF ?_;refine ⟨_,rfl,_,rfl,t,a,b,ns,ss,ns[i],rfl,pl1.same g,λl H4 g4 hl4 e4=>?_⟩;have hlD:l≠D:=λz=>by rw [z,hl] at hl4; cases hl4
  refine ⟨_,g4 _ _ hl,Zb (by rw [qA]; lia),some (.int ns[i]),rs++[l],rfl,λb o hb=>?_,by rw [qJ,hrs]; rfl,?_,λe he=>?_⟩
  .have hne:b≠D:=λe=>by rw [e,hD] at hb; cases hb
   rw [zI hne];exact g4 _ _ (g _ _ hb)
  .rw [zC,qN]; rfl
  .rcases xN e i with z | z
   .obtain ⟨r,r1,r2,r3⟩:=hr' e z
    exact ⟨r,by rw [QM (by lia)]; exact r1,r2,by rw [zI r2]; exact g4 _ _ r3⟩
   .have ei:e=i:=by lia
    subst ei;refine ⟨l,by rw [q8 (by lia),hrs,vO]; rfl,hlD,?_⟩;rw [zI hlD,e4,qC,qB hi];rfl
 .rintro U' H' ⟨x,rs,rfl,g,hrs,hl,hr'⟩
  refine ⟨⟨_,zK.of (g _ _ pl1.a),by rw [hml]; exact qG _⟩,?_⟩;refine ⟨_,rfl,fp,_,rfl, .inl (zK.of (g _ _ fp1)),λlf hlf=>⟨by show 1<=sizeLine; decide,λl2 pK=>?_⟩⟩;have lfD:D≠lf:=zF hl hlf;have l2D:D≠l2:=zF (by rw [zI lfD]; exact hl) pK;have l2f:lf≠l2:=zF zC pK;refine ⟨D,l2,_,_,rfl,rfl,by rw [zI l2D,zI lfD]; exact hl,zC,by rw [qA,hrs]; exact qf (zEj (by show ns.length+1<=2000; lia)),λnr hnr=>?_⟩;have sH:zE H1 (zH (zH (zH H' lf (.lst ((iv fs).map V.int))) l2 (.lst [.ref lf])) nr (.lst (rs.map V.ref++[.ref lf]))):=λc o hc=>by
   have c1:=g _ _ hc;have c2:(zH H' lf (.lst ((iv fs).map V.int))) c=some o:=by rw [zI (zF c1 hlf)]; exact c1
   have c3:(zH (zH H' lf (.lst ((iv fs).map V.int))) l2 (.lst [.ref lf])) c=some o:=by rw [zI (zF c2 pK)]; exact c2
   rw [zI (zF c3 hnr)]; exact c3
  have nrF:lf≠nr:=zF (by rw [zI l2f]; exact zC) hnr;have NA:Y8 (zH (zH (zH H' lf (.lst ((iv fs).map V.int))) l2 (.lst [.ref lf])) nr (.lst (rs.map V.ref++[.ref lf]))) nr ns.length (zO ns ss fs):=by
   refine ⟨rs++[lf],by rw [qJ,hrs]; rfl,by rw [zC,qN]; rfl,λe he=>?_⟩;rcases xN e ns.length with z | z
   .obtain ⟨r,r1,r2,r3⟩:=hr' e z
    have c1:=zF r3 hlf;have r4:(zH H' lf (.lst ((iv fs).map V.int))) r=_:=(zI c1).trans r3;have c2:=zF r4 pK;have r5:(zH (zH H' lf (.lst ((iv fs).map V.int))) l2 (.lst [.ref lf])) r=_:=(zI c2).trans r4;refine ⟨r,by rw [QM (by lia)]; exact r1,?_⟩;rw [zI (zF r5 hnr),r5];unfold zO;rw [qO z]
   .have ei:e=ns.length:=by lia
    subst ei;refine ⟨lf,by rw [q8 (by lia),hrs,vO]; rfl,?_⟩;rw [zI nrF,zI l2f,zC];unfold zO;rw [qP (QQ _)]
  generalize (zH (zH (zH H' lf (.lst ((iv fs).map V.int))) l2 (.lst [.ref lf])) nr (.lst (rs.map V.ref++[.ref lf])))=H5 at sH NA ⊢;have s5:=sH _ _ s1;refine ⟨_,rfl,s,C,dx,_,rfl,s5,T.cl,T.nN,(by show 1<1000; decide),?_⟩;obtain ⟨rs5,q1,q2,q3⟩:=NA;have nrs:nr≠s:=zw q2 s5 (by intro z; cases z);have NA6:∀o,Y8 (zH H5 s o) nr ns.length (zO ns ss fs):=λo=>⟨rs5,q1,by rw [zI nrs]; exact q2,λe he=>by
   obtain ⟨r,r1,r2⟩:=q3 e he;exact ⟨r,r1,by rw [zI (zw r2 s5 (by intro z; cases z))]; exact r2⟩⟩
  refine ⟨_,rfl,s,C,dx,_,_,rfl,zC,T.cl,T.nA,rfl,_,_,rfl,rfl,⟨by lia,by lia,by decide⟩,_,_,rfl,rfl,_,rfl,s,C,dx,_,rfl,zC,T.cl,T.nW,(by show 2<1000; decide),?_⟩;have ew:(1*2^((ns.length:Int)).toNat - 1:Int)=((2^ns.length - 1:Nat):Int):=by
   rw [Int.one_mul,qy];have:=Nat.one_le_two_pow (n:=ns.length);rw [Int.natCast_sub this];simp
  refine q nr _ (λc o hc ho=>?_) ?_ (by rw [zOT]; exact NA6 _)
  .rw [zI hc,zI hc]
   exact sH _ _ (ex1 c o hc ho)
  .rw [zC]
   show some (HO.ins C dx [("ahead", .int ns.length),("near", .ref nr),("whole", .int (1*2^((ns.length:Int)).toNat - 1))])=_;rw [ew];rfl
theorem zER:FS 3 ["self","left","end"] zBY:=zm
theorem zCy (F:Zv K "steps" "Steps.steps" zBY f fd) (T:SrT K C):FnOk P w K mg base zU 1 f fd ["self","left","end"] (YI C):=by
 refine F.ok zER ?_ ?_
 .rintro _ _ _ _ ⟨s,dx,nr,fs,n,near,left,e,rfl,_⟩
  rfl
 rintro _ A _ s H _ Q E hr ⟨s,dx,nr,fs,n,near,left,e,rfl,hs,hn,NA,N,he,hl,q⟩;refine ⟨_,(zG (zM (ZR ["place"] rfl (bk zER) (zj (zz zx (zk (pv 0) rfl) (pv 2))) (λpA C fp s3 H3=>⟨(yI zER),(Zg (zDz (zS zPM (pv 2) (zS jc zJ (pv 0))))),(pv 0)⟩)))),?_⟩;obtain ⟨rs,q1,q2,q3⟩:=NA;obtain ⟨r,r1,r2⟩:=q3 e he;have n10:=N.n10;have pF:=jy N he;have hml:((iv (near e)).map V.int).length=(near e).length:=by rw [qA,yV]
 refine ⟨_,rfl,s,C,dx,fs,_,rfl,hs,T.cl,T.nN,hn,_,rfl,nr,_,_,_,rfl,rfl,zK.of q2,Zx (by rw [qM,r1]; rfl),r,rfl,⟨_,zK.of r2⟩,λD hD=>?_⟩;refine yt (U:=[some (.ref s),some (.int left),some (.int e)]) (xs:=(iv (near e)).map V.int) (λi=>left.testBit ((near e).getD i 0)) (λi=> .int (((near e).getD i 0:Nat):Int)) (zK.of r2) hD (by lia) (λi H' hi g P hP=>?_) (λi H' hi _ g P hP=>?_) λH2 g2 e2=>?_
 .have hi':i<(near e).length:=by rw [hml] at hi; exact hi
  have ek:(near e)[i]?=some (near e)[i]:=qB hi';have e1:((iv (near e)).map V.int).getD i .non= .int (((near e)[i]:Nat):Int):=by rw [qC,yb ek]; rfl
  have e2:(near e).getD i 0=(near e)[i]:=by rw [qC,ek]; rfl
  have hk:=N.lt e he _ (qg hi');rw [e1];refine ⟨_,rfl,_,rfl,_,_,rfl,rfl,⟨by lia,by lia,by decide⟩,_,_,rfl,rfl,_,rfl,?_⟩;rw [zRc left _ hl (by lia),<-e2];exact hP _ zE.rfl'
 .have hi':i<(near e).length:=by rw [hml] at hi; exact hi
  have ek:(near e)[i]?=some (near e)[i]:=qB hi';have e1:((iv (near e)).map V.int).getD i .non= .int (((near e).getD i 0:Nat):Int):=by rw [qC,yb ek,qC,ek]; rfl
  rw [e1];exact ⟨_,rfl,hP _ zE.rfl'⟩
 .refine q D H2 g2 hD ?_
  rw [e2,hml,Yg,<-Z5 (λv=>left.testBit v) 0 (near e),qo];rfl
end
structure jP (mg:Str->Option Value):Prop extends Bt3 mg where
 zip:mg "zip"=none
 sum:mg "sum"=none
abbrev zLY:Stmt:=ZL (top 30) 0
abbrev zHw:Stmt:=ZL (top 30) 1
abbrev zIQ:Stmt:=ZL (top 30) 2
abbrev zLq:Stmt:=ZL (top 30) 3
abbrev zHz:Stmt:=top 31
structure zCx (K:W.Frag) (C:Addr):Prop extends SrT K C where
 nL:ZM K C "last_places"
 nO:ZM K C "onward"
def Jy:Option Nat->V
 | none=> .non
 | some k=> .int (k:Int)
def ky (l e:Nat):List zZ:=[Sum.inl (l:Int),Sum.inl (e:Int)]
theorem zDV {l l' e':Nat} (h:ky l e=ky l' e'):l=l'/\e=e':=by
 unfold ky at h;injection h with h1 h2
 injection h2 with h2 _
 have a:=Sum.inl.inj h1;have b:=Sum.inl.inj h2;lia
def zOA:List zZ->Nat
 | [Sum.inl a,Sum.inl b]=>a.toNat*11+b.toNat
 | _=>0
section
variable (n:Nat) (near:Nat->List Nat) (ends:Nat->Bool)
structure zAk (pB:List (List zZ×V)):Prop where
 nd:(pB.map (·.1)).Nodup
 ok:∀kv∈pB,∃l e,kv.1=ky l e/\l≠0/\l<2^n/\e<=n/\kv.2=Jy (fst near ends l e)
 cl:∀l e k,(ZJ pB (ky l e)).isSome=true->fst near ends l e=some k->l - 2^k≠0->(ZJ pB (ky (l - 2^k) k)).isSome=true
variable {n near ends}
theorem zMY:zAk n near ends []:=⟨qr,nofun,nofun⟩
theorem zET {k:List zZ} (h:ZJ pB k=some v):(k,v)∈pB:=by
 unfold ZJ at h;obtain ⟨p,hp,rfl⟩:=Option.map_eq_some_iff.mp h;have h1:p.1=k:=qZ (vR (p:=λkv:List zZ×V=>decide (kv.1=k)) hp);have h2:=Qv hp;rw [<-h1];exact h2
theorem zAk.val (M:zAk n near ends pB) {l:Nat} (h:ZJ pB (ky l e)=some v):v=Jy (fst near ends l e):=by
 obtain ⟨l',e',h1,_,_,_,h2⟩:=M.ok _ (zET h);obtain ⟨rfl,rfl⟩:=zDV h1;exact h2
theorem zCZ (nd:(pB.map (·.1)).Nodup) (ok:∀kv∈pB,∃l e:Nat,kv.1=ky l e/\l<2^n/\e<=n) (hn:n<=10):pB.length<sizeLine:=by
 have hp:2^n<=1024:=Y5 n (by lia);have hc:∀kv∈pB,zOA kv.1<11264:=λkv h=>by
  obtain ⟨l,e,h1,h3,h4⟩:=ok kv h;rw [h1];show ((l:Int)).toNat*11+((e:Int)).toNat<11264;lia
 have hnd:(pB.map λkv=>zOA kv.1).Nodup:=by
  have h:=nd;unfold List.Nodup at h ⊢;rw [List.pairwise_map] at h ⊢;refine h.imp_of_mem λ{x y} hx hy hne he=>hne ?_;obtain ⟨l,e,h1,_,h4⟩:=ok x hx;obtain ⟨l',e',h1',_,h4'⟩:=ok y hy;rw [h1,h1'] at he ⊢;have he':((l:Int)).toNat*11+((e:Int)).toNat=((l':Int)).toNat*11+((e':Int)).toNat:=he;have:l=l'/\e=e':=by lia
  rw [this.1,this.2]
 have h:=zAa 11264 _ hnd λx hx=>by
  obtain ⟨kv,h1,rfl⟩:=List.mem_map.mp hx;exact hc kv h1
 rw [qA] at h;rw [Ql];lia
theorem zAk.len (M:zAk n near ends pB) (hn:n<=10):pB.length<sizeLine:=by
 refine zCZ M.nd (λkv h=>?_) hn;obtain ⟨l,e,h1,_,h3,h4,_⟩:=M.ok kv h;exact ⟨l,e,h1,h3,h4⟩
theorem zAk.put (M:zAk n near ends pB) {l:Nat} (h0:l≠0) (hl:l<2^n) (he:e<=n) (hc:∀k,fst near ends l e=some k->l - 2^k≠0->(ZJ pB (ky (l - 2^k) k)).isSome=true):
  zAk n near ends (Zd pB (ky l e) (Jy (fst near ends l e))):=by
 have hcl:∀l1 e1 k,(ZJ (Zd pB (ky l e) (Jy (fst near ends l e))) (ky l1 e1)).isSome=true->fst near ends l1 e1=some k->l1 - 2^k≠0->(ZJ (Zd pB (ky l e) (Jy (fst near ends l e))) (ky (l1 - 2^k) k)).isSome=true:=by
  intro l1 e1 k h1 h2 h3;have hs:(ZJ pB (ky (l1 - 2^k) k)).isSome=true:=by
   rw [jC] at h1;by_cases z:ky l1 e1=ky l e
   .obtain ⟨rfl,rfl⟩:=zDV z
    exact hc k h2 h3
   .rw [qP z] at h1
    exact M.cl l1 e1 k h1 h2 h3
  rw [jC];split
  .rfl
  .exact hs
 refine ⟨?_,?_,hcl⟩
 .cases hv:ZJ pB (ky l e) with
  | none=>
   rw [J2 _ hv,qN];refine List.nodup_append.mpr ⟨M.nd,by simp,λa ha b hb hab=>?_⟩;have eb:b=ky l e:=by simpa using hb
   subst eb;subst hab;obtain ⟨kv,h1,h2⟩:=List.mem_map.mp ha;have h3:=yR (ky l e) pB;rw [hv] at h3;have h4:(pB.any λkv=>decide (kv.1=ky l e))=true:=List.any_eq_true.mpr ⟨kv,h1,qK h2⟩;rw [h4] at h3;cases h3
  | some v=>
   unfold Zd;rw [yR,hv];rw [qO (show (some v).isSome=true from rfl),qo];have:(pB.map ((λx:List zZ×V=>x.1) ∘ λkv=>if kv.1=ky l e then (kv.1,Jy (fst near ends l e)) else kv))=pB.map (·.1):=by
    refine QK λkv _=>?_;show (if kv.1=ky l e then (kv.1,Jy (fst near ends l e)) else kv).1=kv.1;split <;> rfl
   rw [this];exact M.nd
 .intro kv h
  unfold Zd at h;split at h
  .obtain ⟨kv',h1,h2⟩:=List.mem_map.mp h
   by_cases z:kv'.1=ky l e
   .rw [qO z] at h2
    rw [<-h2];exact ⟨l,e,z,h0,hl,he,rfl⟩
   .rw [qP z] at h2
    rw [<-h2];exact M.ok kv' h1
  .rcases List.mem_append.mp h with z | z
   .exact M.ok kv z
   .have z:kv=(ky l e,Jy (fst near ends l e)):=by simpa using z
    rw [z];exact ⟨l,e,rfl,h0,hl,he,rfl⟩
end
def jK (pB pC:List (List zZ×V)):Prop:=∀k,(ZJ pB k).isSome=true->(ZJ pC k).isSome=true
theorem jK.refl:jK pB pB:=λ_ h=>h
theorem jK.trans {a b c:List (List zZ×V)} (h:jK a b) (g:jK b c):jK a c:=λk z=>g k (h k z)
theorem jK.put {k:List zZ}:jK pB (Zd pB k v):=λj h=>by
 rw [jC];split
 .rfl
 .exact h
structure SP where
 n:Nat
 near:Nat->List Nat
 ends:Nat->Bool
 lasts:List Nat
 s:Addr
 dx:Addr
 nr:Addr
 lp:Addr
 ow:Addr
variable {p:SP}
def SP.fs (p:SP):List (Str×V):=[("ahead", .int p.n),("near", .ref p.nr),("whole", .int ((2^p.n - 1:Nat):Int)),("last_places", .ref p.lp),("onward", .ref p.ow)]
structure Jz (C:Addr) (p:SP) (H:Hp):Prop where
 at_:H p.s=some (.ins C p.dx p.fs)
 nr:Y8 H p.nr p.n p.near
 lp:H p.lp=some (.lst ((iv p.lasts).map V.int))
 ok:zu p.near p.n
 le:∀e<p.n,p.lasts.contains e=p.ends e
def zAL (p:SP) (H:Hp) (pB:List (List zZ×V)):Prop:=H p.ow=some (.dT pB)/\zAk p.n p.near p.ends pB
theorem Jz.ex (S:Jz C p H) (hk:H p.ow=some (.dT pB)) (g:Ex (·=p.ow) H H'):Jz C p H':=by
 have ne:∀{b o},H b=some o->(∀pB,o≠ .dT pB)->H' b=some o:=λ{b o} h d=>g b o (λz=>d pB (by rw [z,hk] at h; exact (Option.some.inj h).symm)) h;obtain ⟨rs,q1,q2,q3⟩:=S.nr;exact ⟨ne S.at_ (λ_ z=>by cases z),⟨rs,q1,ne q2 (λ_ z=>by cases z),λe he=>let ⟨r,a,b⟩:=q3 e he; ⟨r,a,ne b (λ_ z=>by cases z)⟩⟩,ne S.lp (λ_ z=>by cases z),S.ok,S.le⟩
theorem Jz.lt (S:Jz C p H) (h:left<2^p.n):left<1024:=qd h (Y5 _ (X1 S.ok.n10))
inductive zDP (C:Addr) (m:Nat) (vs:List V) (H:Hp) (Q:VK) (E:XK):Prop
 | mk (p:SP) (pB:List (List zZ×V)) (left e:Nat):vs=[.ref p.s, .int left, .int e]->Jz C p H->zAL p H pB->left<2^p.n->ZV left<=m->e<=p.n->(left=0->e<p.n)->(∀(H':Hp) (pC:List (List zZ×V)),Ex (·=p.ow) H H'->zAL p H' pC->jK pB pC->(left≠0->(ZJ pC (ky left e)).isSome=true)->Q (.bl (yj p.near p.ends left e)) H')->zDP C m vs H Q E
inductive zJT (C:Addr) (m:Nat) (vs:List V) (H:Hp) (Q:VK) (E:XK):Prop
 | mk (p:SP) (pB:List (List zZ×V)) (left e:Nat):vs=[.ref p.s, .int left, .int e]->Jz C p H->zAL p H pB->left<2^p.n->left≠0->ZV left<=m->e<=p.n->(∀(H':Hp) (pC:List (List zZ×V)),Ex (·=p.ow) H H'->zAL p H' pC->jK pB pC->(∀k,fst p.near p.ends left e=some k->left - 2^k≠0->(ZJ pC (ky (left - 2^k) k)).isSome=true)->Q (Jy (fst p.near p.ends left e)) H')->zJT C m vs H Q E
theorem zCt {p q:Nat->Bool}:∀l:List Nat,l.find? (λk=>p k&&q k)=(l.filter p).find? q
 | []=>rfl
 | a::r=>by
  have ih:=zCt (p:=p) (q:=q) r;cases hp:p a with
  | false=>rw [QD,qh,hp,xG,ih,qP qR]
  | true=>
   rw [QD,qh,hp,QJ,qO rfl,QD];cases q a with
   | false=>exact ih
   | true=>rfl
theorem zHf {q:Nat->Bool}:∀{l:List Nat} {i k:Nat},l[i]?=some k->q k=true->(∀j<i,∀x,l[j]?=some x->q x=false)->l.find? q=some k
 | [],_,_,h,_,_=>nomatch h
 | a::r,0,k,h,hq,_=>by
  have e:a=k:=Option.some.inj h;rw [QD,e,hq]
 | a::r,i+1,k,h,hq,hj=>by
  rw [QD,hj 0 (Nat.succ_pos _) a rfl];exact zHf (l:=r) (i:=i) h hq λj hj' x hx=>hj (j+1) (Nat.succ_lt_succ hj') x hx
theorem zNy:FS 3 ["self","left","end","key"] zHw:=zm
theorem zKe (F:Zv K "can_end" "Search.can_end" zHw f fd) (T:zCx K C) (mF:ZC K C "first_step" g1)
  (GF:FnOk P w K mg base zU j g1 pH ["self","left","end"] (zJT C m)) (bF:zX K pH ["self","left","end"] []):FnOk P w K mg base zU (j+1) f fd ["self","left","end"] (zDP C m):=by
 refine F.ok zNy ?_ ?_
 .rintro _ _ _ _ ⟨p,pB,left,e,rfl,_⟩
  rfl
 rintro _ A _ s H _ Q E hr ⟨p,pB,left,e,rfl,S,hd,hl,hc,he,h0,q⟩;have hu:=zAD hr;refine ⟨_,(zD (zd (zT YQ (pv 1) zJ (zV _)) (zG (zM (ZT (Y3 K) (pv 2) (zk (pv 0) rfl) rfl))) zW) (zD (zt 3 zNy.nd (ya (zA (pv 1) (zA (pv 2) zB)))) (zD (zd (zBo (JG hu (pv 3) (zk (pv 0) rfl))) (zG (j8 hu (zk (pv 0) rfl) (pv 3) (zy (pv 0) T.cl mF GF hr bF .nil ze (zA (pv 1) (zA (pv 2) zB))) rfl)) zW) (zG (zM (ZT zOv (Jg hu (zk (pv 0) rfl) (pv 3) (λ_ _=>rfl)) Y4 (zV _))))))),?_⟩;refine ⟨_,rfl,rfl,_,rfl,zr (λc=>?_) (λc=>?_)⟩
 .have el:left=0:=by
   have z:=V.int.inj (qZ c);lia
  subst el;refine ⟨_,rfl,_,rfl,p.s,C,p.dx,p.fs,_,rfl,S.at_,T.cl,T.nL,rfl,p.lp,_,_,rfl,rfl,zK.of S.lp,?_⟩;have z:=q H pB Ex.refl hd jK.refl (λz=>v6 rfl z);rw [zFl,<-S.le e (h0 rfl),<-zCR] at z;exact z
 .have el:left≠0:=λz=>c (qK (by rw [z]; rfl))
  refine ⟨_,rfl,_,rfl,yU,λkt hkt=>?_⟩;have g1:zE H (zH H kt (.tup [.int (left:Int), .int (e:Int)])):=zE.new hkt _;have S1:Jz C p (zH H kt (.tup [.int (left:Int), .int (e:Int)])):=S.ex hd.1 (Ex.same g1);have hd1:zAL p (zH H kt (.tup [.int (left:Int), .int (e:Int)])) pB:=⟨g1 _ _ hd.1,hd.2⟩;have hk1:(zH H kt (.tup [.int (left:Int), .int (e:Int)])) kt=some (.tup ((ky left e).map kV)):=zC;have ex1:Ex (·=p.ow) H (zH H kt (.tup [.int (left:Int), .int (e:Int)])):=Ex.same g1;generalize zH H kt (.tup [.int (left:Int), .int (e:Int)])=H1 at S1 hd1 hk1 ex1 ⊢;refine ⟨_,rfl,_,rfl,p.s,C,p.dx,p.fs,_,rfl,S1.at_,T.cl,T.nO,rfl,p.ow,_,rfl,YX.t hd1.1 hk1,_,rfl,zr (λc2=>?_) (λc2=>?_)⟩
  .refine ⟨_,rfl,p.s,p.dx,p.fs,rfl,S1.at_,rfl,_,rfl,_,rfl,p,pB,left,e,rfl,S1,hd1,hl,el,hc,he,λH2 kvs2 ex2 pN gr2 cl2=>?_⟩
   have S2:=S1.ex hd1.1 ex2;have hk2:H2 kt=some (.tup ((ky left e).map kV)):=ex2 _ _ (zw hk1 hd1.1 (by intro z; cases z)) hk1;refine ⟨_,rfl,p.s,C,p.dx,p.fs,_,rfl,S2.at_,T.cl,T.nO,rfl,_,rfl,p.ow,_,rfl,jp.t pN.1 hk2 (pN.2.len S.ok.n10),?_⟩;have M3:=pN.2.put el hl he cl2;have ex3:Ex (·=p.ow) H2 (zH H2 p.ow (.dT (Zd kvs2 (ky left e) (Jy (fst p.near p.ends left e))))):=Ex.put _ rfl;have S3:=S2.ex pN.1 ex3;have hk3:=ex3 _ _ (zw hk2 pN.1 (by intro z; cases z)) hk2;refine ⟨_,rfl,p.s,C,p.dx,p.fs,_,rfl,S3.at_,T.cl,T.nO,rfl,_,rfl,p.ow,_,rfl,by have z:=YX.t (zC (H:=H2) (a:=p.ow) (o:= .dT (Zd kvs2 (ky left e) (Jy (fst p.near p.ends left e))))) hk3; rw [jC,qO rfl] at z; exact z,rfl,?_⟩;have z:=q _ _ ((ex1.trans ex2).trans ex3) ⟨zC,M3⟩ (gr2.trans jK.put) (λ_=>by rw [jC,qO rfl]; rfl);rw [zCO S.ok (S.lt hl) el he] at z;cases ef:fst p.near p.ends left e with
   | none=>rw [ef] at z; exact z
   | some k=>rw [ef] at z; exact z
  .cases ev:ZJ pB (ky left e) with
   | none=>rw [ev] at c2; exact v6 rfl c2
   | some v=>
    have hv:=hd.2.val ev;refine ⟨_,rfl,p.s,C,p.dx,p.fs,_,rfl,S1.at_,T.cl,T.nO,rfl,_,rfl,p.ow,_,rfl,by have z:=YX.t hd1.1 hk1; rw [ev] at z; exact z,rfl,?_⟩;have z:=q _ _ ex1 hd1 jK.refl (λ_=>by rw [ev]; rfl);rw [zCO S.ok (S.lt hl) el he] at z;rw [hv];cases ef:fst p.near p.ends left e with
    | none=>rw [ef] at z; exact z
    | some k=>rw [ef] at z; exact z
theorem zNx:FS 3 ["self","left","end","place"] zIQ:=zm
theorem zPg (F:Zv K "first_step" "Search.first_step" zIQ f fd) (T:zCx K C) (mS:ZC K C "steps" g1) (mC:ZC K C "can_end" g2)
  (GS:FnOk P w K mg base zU j g1 pH ["self","left","end"] (YI C)) (bS:zX K pH ["self","left","end"] [])
  (GC:FnOk P w K mg base zU j g2 pI ["self","left","end"] (zDP C m)) (bC:zX K pI ["self","left","end"] []):FnOk P w K mg base zU (j+1) f fd ["self","left","end"] (zJT C (m+1)):=by
 refine F.ok zNx ?_ ?_
 .rintro _ _ _ _ ⟨p,pB,left,e,rfl,_⟩
  rfl
 rintro _ A _ s H _ Q E hr ⟨p,pB,left,e,rfl,S,hd,hl,h0,hc,he,q⟩;refine ⟨_,(zD (Zq qi rfl (zj (zy (pv 0) T.cl mS GS hr bS .nil ze (zA (pv 1) (zA (pv 2) zB)))) (Yk 3 zNx.nd) (zG (zd (ZN (zy (pv 0) T.cl mC GC hr bC .nil ze (zA (zS yc (pv 1) (zS jc zJ (pv 3))) (zA (pv 3) zB)))) (zG (zM (pv 3))) zW))) (zG (zM Y4))),?_⟩;have hl':=S.lt hl;have n10:=S.ok.n10;refine ⟨_,rfl,p.s,p.dx,p.fs,rfl,S.at_,rfl,_,rfl,_,rfl,p.s,p.dx,p.nr,p.fs,p.n,p.near,left,e,rfl,S.at_,rfl,S.nr,S.ok,he,hl',λl H1 g1 hln e1=>⟨l,rfl,⟨_,zK.of e1⟩,?_⟩⟩;have hd1:zAL p H1 pB:=⟨g1 _ _ hd.1,hd.2⟩;have lo:l≠p.ow:=λz=>by rw [z,hd.1] at hln; cases hln
 have elen:((iv ((p.near e).filter λk=>left.testBit k)).map V.int).length=((p.near e).filter λk=>left.testBit k).length:=by rw [qA,yV]
 refine yz (xs:=(iv ((p.near e).filter λk=>left.testBit k)).map V.int) (λi U H'=>∃(y:Option V) (pC:List (List zZ×V)),U=[some (.ref p.s),some (.int left),some (.int e),y]/\Ex (·=p.ow) H H'/\H' l=some (.lst ((iv ((p.near e).filter λk=>left.testBit k)).map V.int))/\zAL p H' pC/\jK pB pC/\
  ∀i'<i,∀k,((p.near e).filter λk=>left.testBit k)[i']?=some k->yj p.near p.ends (left - 2^k) k=false)
  ⟨none,pB,rfl,Ex.same g1,e1,hd1,jK.refl,λi' hi'=>v6 hi' (Qn _)⟩ (λi U H' _ ⟨_,_,_,_,e2,_⟩=>zK.of e2) ?_ ?_
 .rintro i x U H' hx ⟨y,pC,rfl,ex,e2,pO,gr,hno⟩
  obtain ⟨k,hk,rfl⟩:=zQn hx;have hm:k∈(p.near e).filter λk=>left.testBit k:=qp hk;obtain ⟨hm1,hb⟩:=List.mem_filter.mp hm;have hkn:=S.ok.lt e he k hm1;have S':=S.ex hd.1 ex;have hdec:=ZQ left hl' k (by lia) hb;refine ⟨_,rfl,p.s,p.dx,p.fs,rfl,S'.at_,rfl,_,rfl,_,rfl,_,_,rfl,rfl,⟨by lia,by lia,by decide⟩,_,_,rfl,rfl,_,rfl,?_⟩;refine ⟨p,pC,left - 2^k,k,Qe (λx=>[V.ref p.s,V.int x,V.int (k:Int)]) (JD left k (Y6 hb)),S',pO,by lia,by lia,by lia,λ_=>hkn,λH2 kvs2 ex2 pN gr2 pr2=>⟨_,rfl,zr (λc=>?_) (λc=>?_)⟩⟩
  .refine ⟨_,rfl,?_⟩
   have ef:fst p.near p.ends left e=some k:=by
    unfold fst;rw [zCt];exact zHf hk c λi' hi' k' pO=>hno i' hi' k' pO
   have z:=q H2 kvs2 (ex.trans ex2) pN (gr.trans gr2) (λk' pO hne=>by rw [ef] at pO; cases pO; exact pr2 hne);rw [ef] at z;exact z
  .refine ⟨_,kvs2,rfl,ex.trans ex2,ex2 _ _ lo e2,pN,gr.trans gr2,λi' hi' k' pO=>?_⟩
   rcases xN i' i with z | z
   .exact hno i' z k' pO
   .have ei:i'=i:=by lia
    subst ei;rw [hk] at pO;cases pO;exact Bool.eq_false_iff.mpr c
 .rintro U H' ⟨y,pC,rfl,ex,e2,pO,gr,hno⟩
  have ef:fst p.near p.ends left e=none:=by
   unfold fst;rw [zCt];refine List.find?_eq_none.mpr λk hk hc'=>?_;obtain ⟨i',hi',e'⟩:=List.mem_iff_getElem.mp hk;have z:=hno i' (by rw [elen]; exact hi') k (by rw [qB hi',e']);rw [z] at hc';cases hc'
  have z:=q H' pC ex pO gr (λk' pO=>by rw [ef] at pO; cases pO);rw [ef] at z;exact z
theorem zHW {ca fs sf:Addr} {cd fsd sfd:FuncData} (FC:Zv K "can_end" "Search.can_end" zHw ca cd) (FF:Zv K "first_step" "Search.first_step" zIQ fs fsd) (T:zCx K C) (mC:ZC K C "can_end" ca) (mF:ZC K C "first_step" fs) (mS:ZC K C "steps" sf)
  (GS:FnOk P w K mg base zU 1 sf sfd ["self","left","end"] (YI C)) (bS:zX K sfd ["self","left","end"] []) (bC:zX K cd ["self","left","end"] []) (bF:zX K fsd ["self","left","end"] []):
  ∀m:Nat,FnOk P w K mg base zU (2*m+2) ca cd ["self","left","end"] (zDP C m)
 | 0=>zKe (j:=1) FC T mF ⟨λvs H Q E h=>by obtain ⟨p,pB,left,e,rfl,_⟩:=h; rfl,λA outer s H args us vs Q E _ _ _ _ h=>by
   obtain ⟨p,pB,left,e,_,S,_,hl,h0,hc,_⟩:=h;exact v6 (yC left (S.lt hl) (Nat.le_zero.mp hc)) h0⟩ bF
 | m+1=>by
  have GC:=zHW FC FF T mC mF mS GS bS bC bF m;have GF:=zPg (j:=2*m+2) FF T mS mC (GS.mono (by lia)) bS GC bC;exact zKe (j:=2*m+3) FC T mF GF bF
inductive zJL (C:Addr) (vs:List V) (H:Hp) (Q:VK) (E:XK):Prop
 | mk (p:SP) (pB:List (List zZ×V)):vs=[.ref p.s]->Jz C p H->zAL p H pB->1<=p.n->yj p.near p.ends (2^p.n - 1) p.n=true->(ZJ pB (ky (2^p.n - 1) p.n)).isSome=true->(∀(l:Addr) (H':Hp),zE H H'->H l=none->H' l=some (.lst ((iv (jx p.near p.ends (2^p.n - 1) p.n)).map V.int))->Q (.ref l) H')->zJL C vs H Q E
theorem zCN:FS 1 ["self","places","left","end"] zLq:=zm
theorem zPI (F:Zv K "found_places" "Search.found_places" zLq f fd) (T:zCx K C):FnOk P w K mg base zU 1 f fd ["self"] (zJL C):=by
 refine F.ok zCN ?_ ?_
 .rintro _ _ _ _ ⟨p,pB,rfl,_⟩
  rfl
 rintro _ A _ s H _ Q E hr ⟨p,pB,rfl,S,hd,n1,hcan,hkey,q⟩;have hu:=zAD hr;refine ⟨_,(zD (zt 1 zCN.nd (zv zB)) (zD (zt 2 zCN.nd (zk (pv 0) rfl)) (zD (zt 3 zCN.nd (zk (pv 0) rfl)) (zD (YV qi (zDz (pv 2)) (zD (zt 3 zCN.nd (Jg hu (zk (pv 0) rfl) (ya (zA (pv 2) (zA (pv 3) zB))) (λ_ _=>rfl))) (zD (zo (YF qk QT QU yY (pv 1) (zA (pv 3) zB))) (zG (zt 2 zCN.nd (zS yc (pv 2) (zS jc zJ (pv 3)))))))) (zG (zM (pv 1))))))),?_⟩;refine ⟨by decide,λl hln=>?_⟩;have g1:zE H (zH H l (.lst [])):=zE.new hln _;have lo:l≠p.ow:=λz=>by rw [z,hd.1] at hln; cases hln
 refine ⟨_,rfl,p.s,C,p.dx,p.fs,_,rfl,g1 _ _ S.at_,T.cl,T.nW,rfl,_,rfl,p.s,C,p.dx,p.fs,_,rfl,g1 _ _ S.at_,T.cl,T.nA,rfl,?_⟩;have hp2:2^p.n - 1<2^p.n:=vT (QO _) (by decide);dsimp only [ZW,JL];refine yy (λU H'=>∃(pre:List Nat) (left e:Nat),U=[some (.ref p.s),some (.ref l),some (.int left),some (.int e)]/\zE H H'/\H' l=some (.lst ((iv pre).map V.int))/\left<2^p.n/\e<=p.n/\pre.length+ZV left<=10/\
   (left≠0->yj p.near p.ends left e=true/\(ZJ pB (ky left e)).isSome=true)/\pre++jx p.near p.ends left e=jx p.near p.ends (2^p.n - 1) p.n)
  (λU _=>zCG 2 U) ⟨[],2^p.n - 1,p.n,rfl,g1,zC,hp2,qG _,by have:=yr _ (S.lt hp2); simpa using this,λ_=>⟨hcan,hkey⟩,rfl⟩ ?_
 rintro U H' ⟨pre,left,e,rfl,g,hl,pL,he,pF,hgo,hpath⟩;have hl':=S.lt pL;refine ⟨_,rfl,_,rfl,zr (λc=>?_) (λc=>?_)⟩
 .have h0:left≠0:=λz=>by subst z; exact v6 c (by decide)
  obtain ⟨hc,hk⟩:=hgo h0;have S':Jz C p H':=S.ex hd.1 (Ex.same g);cases ef:fst p.near p.ends left e with
  | none=>
   rw [zCO S.ok hl' h0 he,ef] at hc;cases hc
  | some k=>
   obtain ⟨hkn,hb,hc2⟩:=zCg S.ok he ef;have n10:=S.ok.n10;have hdec:=ZQ left hl' k (by lia) hb;obtain ⟨v,hv⟩:=Option.isSome_iff_exists.mp hk;have hv2:=hd.2.val hv;rw [ef] at hv2;subst hv2;refine jO (H:=H') (μ:=λU _=>zCG 2 U) ?_;refine ⟨_,rfl,p.s,C,p.dx,p.fs,_,rfl,S'.at_,T.cl,T.nO,rfl,_,rfl,_,rfl,yU,λkt hkt=>?_⟩;have g2:zE H' (zH H' kt (.tup [.int (left:Int), .int (e:Int)])):=zE.new hkt _;have hk1:(zH H' kt (.tup [.int (left:Int), .int (e:Int)])) kt=some (.tup ((ky left e).map kV)):=zC;generalize zH H' kt (.tup [.int (left:Int), .int (e:Int)])=H2 at g2 hk1 ⊢;have pK:=g2 _ _ hl;refine ⟨p.ow,_,rfl,by have z:=YX.t (g2 _ _ (g _ _ hd.1)) hk1; rw [hv] at z; exact z,?_⟩;refine ⟨_,rfl, .inl ⟨rfl,_,zK.of pK⟩,_,rfl,l,_,_,rfl,rfl,pK,Zb (by rw [qA,yV]; lia),?_⟩;refine ⟨_,rfl,_,rfl,_,_,rfl,rfl,⟨by show (0:Int)<=(k:Int); lia,by show (k:Int)<=1000000; lia,by decide⟩,_,_,rfl,rfl,?_⟩;refine ⟨⟨pre++[k],left - 2^k,k,?_,λb o hb'=>?_,?_,by lia,by lia,?_,λhne=>⟨hc2,hd.2.cl left e k hk ef hne⟩,?_⟩,?_⟩
   .rw [<-JD left k (Y6 hb)]
    rfl
   .rw [zI (zF hb' hln)]
    exact g2 _ _ (g _ _ hb')
   .rw [zC,Yg,Yg,qN]
    rfl
   .rw [qJ]
    show pre.length+1+ZV (left - 2^k)<=10;lia
   .rw [<-hpath,zEg S.ok hl' he ef,xS]
    rfl
   .show ((left:Int) - 1*2^((k:Int)).toNat).toNat<((left:Int)).toNat
    rw [JD left k (Y6 hb)];lia
 .have h0:left=0:=by
   rcases XM left with z | z
   .exact z
   .exact v6 (show (((left:Nat):Int) !=0)=true from bne_iff_ne.mpr (by lia)) c
  subst h0;rw [zEw,qv] at hpath;subst hpath;exact ⟨_,rfl,q l H' g hln hl⟩
inductive zIb (C:Addr) (vs:List V) (H:Hp) (Q:VK) (E:XK):Prop
 | mk (s t a b fp lp dx:Addr) (ns ss:List Int) (fs ls:List Nat):vs=[.ref s, .ref t, .ref fp, .ref lp]->H s=some (.ins C dx [])->zi H t a b ns ss->H fp=some (.lst ((iv fs).map V.int))->H lp=some (.lst ((iv ls).map V.int))->(∀(nr lq ow:Addr) (H':Hp),Ex (·=s) H H'->H ow=none->H' s=some (.ins C dx [("ahead", .int ns.length),("near", .ref nr),("whole", .int ((2^ns.length - 1:Nat):Int)),("last_places", .ref lq),("onward", .ref ow)])->Y8 H' nr ns.length (zO ns ss fs)->H' lq=some (.lst ((iv ls).map V.int))->H' ow=some (.dT [])->Q .non H')->zIb C vs H Q E
inductive zDH (vs:List V) (H:Hp) (Q:VK) (E:XK):Prop
 | mk (t a b fp lp:Addr) (ns ss:List Int) (fs ls:List Nat) (ends:Nat->Bool):vs=[.ref t, .ref fp, .ref lp]->zi H t a b ns ss->H fp=some (.lst ((iv fs).map V.int))->H lp=some (.lst ((iv ls).map V.int))->(∀k∈fs,k<ns.length)->fs.Pairwise (·<·)->(∀e<ns.length,ls.contains e=ends e)->(yj (zO ns ss fs) ends (2^ns.length - 1) ns.length=false->∀H',zE H H'->Q .non H')->((yj (zO ns ss fs) ends (2^ns.length - 1) ns.length=true->∀(l:Addr) (H':Hp),zE H H'->H l=none->H' l=some (.lst (((jx (zO ns ss fs) ends (2^ns.length - 1) ns.length).map λk=>ns.getD k 0).map V.int))->Q (.ref l) H'))->zDH vs H Q E
theorem zSE:FS 4 ["self","plan","first_places","last_places"] zLY:=zm
theorem zQp (F:Zv K "__init__" "Search.__init__" zLY f fd) (B:Bt3 mg) (T:zCx K C) (BI:zHt K C0 mc "__init__" g1) (mI:mg "Steps"=some (.ref C0))
  (GI:FnOk P w K mg base zU 3 g1 pH ["self","plan","first_places"] (zBf C)) (bI:zX K pH ["self","plan","first_places"] []):FnOk P w K mg base zU 4 f fd ["self","plan","first_places","last_places"] (zIb C):=by
 refine F.ok zSE ?_ ?_
 .rintro _ _ _ _ ⟨s,t,a,b,fp,lp,dx,ns,ss,fs,ls,rfl,_⟩
  rfl
 rintro _ A _ s H _ Q E hr ⟨s,t,a,b,fp,lp,dx,ns,ss,fs,ls,rfl,hs,pl,hfp,hlp,q⟩;refine ⟨_,(zD (zo (zEJ BI GI hr rfl mI bI .nil ze (zA (pv 0) (zA (pv 1) (zA (pv 2) zB))))) (zD (Ya (pv 0) (ZE ZP rfl B.list qq (zA (pv 3) zB)) rfl) (zG (Ya (pv 0) zAj rfl)))),?_⟩;refine ⟨_,rfl,_,rfl,_,rfl,s,t,a,b,fp,dx,ns,ss,fs,rfl,hs,pl,hfp,λnr H1 ex1 s1 na1=>?_⟩;have lps:lp≠s:=zw hlp hs (by intro z; cases z);have lp1:=ex1 _ _ lps hlp;refine ⟨_,rfl,lp,_,rfl, .inl (zK.of lp1),λlq hlq=>?_⟩;have g2:zE H1 (zH H1 lq (.lst ((iv ls).map V.int))):=zE.new hlq _;refine ⟨_,rfl,s,C,dx,_,rfl,g2 _ _ s1,T.cl,T.nL,(by show 3<1000; decide),?_⟩;refine λow how=>?_;have sq:s≠lq:=zF s1 hlq;have ow_s:ow≠s:=λz=>by rw [z,zC] at how; cases how
 have ow_q:ow≠lq:=λz=>by rw [z,zI sq.symm,zC] at how; cases how
 have how1:H1 ow=none:=by rwa [zI ow_s,zI ow_q] at how
 refine ⟨_,rfl,s,C,dx,_,rfl,by rw [zI (Ne.symm ow_s)]; exact zC,T.cl,T.nO,(by show 4<1000; decide),?_⟩;obtain ⟨rs,q1,q2,q3⟩:=na1;have st:∀{c:Addr} {o:HO},c≠s->H1 c=some o->∀{o1 o2},(zH (zH (zH (zH H1 lq (.lst ((iv ls).map V.int))) s o1) ow (.dT [])) s o2) c=some o:=λ{c o} hc h {o1 o2}=>by
  rw [zI hc,zI (zF h how1),zI hc,zI (zF h hlq)];exact h
 refine q nr lq ow _ (λc o hc ho=>st hc (ex1 c o hc ho)) ?_ ?_ ⟨rs,q1,st (zw q2 s1 (by intro z; cases z)) q2,λe he=>let ⟨r,r1,r2⟩:=q3 e he; ⟨r,r1,st (zw r2 s1 (by intro z; cases z)) r2⟩⟩ ?_ ?_
 .cases e:H ow with
  | none=>rfl
  | some o=>rw [ex1 _ _ ow_s e] at how1; cases how1
 .rw [zC]
  rfl
 .rw [zI (Ne.symm sq),zI (Ne.symm ow_q),zI (Ne.symm sq),zC]
 .rw [zI ow_s,zC]
theorem zKp:FS 3 ["plan","first_places","last_places","search"] zHz:=zm
theorem zOh (F:Fu K "first_from" zHz f fd) (T:zCx K C) (MS:Mk K C g1) (mS:mg "Search"=some (.ref C)) (mC:ZC K C "can_end" g2) (mF:ZC K C "found_places" g3)
  (GI:FnOk P w K mg base zU 21 g1 pH ["self","plan","first_places","last_places"] (zIb C)) (bI:zX K pH ["self","plan","first_places","last_places"] [])
  (GC:FnOk P w K mg base zU 22 g2 pI ["self","left","end"] (zDP C 10)) (bC:zX K pI ["self","left","end"] [])
  (GF:FnOk P w K mg base zU 22 g3 pJ ["self"] (zJL C)) (bF:zX K pJ ["self"] [])
  (GN:Gd P w K mg base 22 g4 gd4 ["plan","places"] zBO "numbers_at"):FnOk P w K mg base zU 23 f fd ["plan","first_places","last_places"] zDH:=by
 refine F.ok zKp ?_ ?_
 .rintro _ _ _ _ ⟨t,a,b,fp,lp,ns,ss,fs,ls,ends,rfl,_⟩
  rfl
 rintro _ A _ s H _ Q E hr ⟨t,a,b,fp,lp,ns,ss,fs,ls,ends,rfl,pl,hfp,hlp,h1,h2,h3,qn,qs⟩;refine ⟨_,(zD (zt 3 zKp.nd (j4 MS GI hr rfl mS bI .nil ze (zA (pv 0) (zA (pv 1) (zA (pv 2) zB))))) (zD (zd (Zi (ZN (zy (pv 3) T.cl mC GC hr bC .nil ze (zA (zk (pv 3) rfl) (zA (zk (pv 3) rfl) zB))))) (zG (zM Y4)) zW) (zG (zM (zL GN hr (zA (pv 0) (zA (Zs (pv 3) T.cl mF GF hr bF .nil ze) zB))))))),?_⟩;refine ⟨_,rfl,_,rfl,_,rfl,λx dx nx ndx nex=>?_⟩;have g2:zE H (zH (zH H dx (.own x)) x (.ins C dx [])):=λc o hc=>by
  rw [zI (zF hc nx),zI (zF hc ndx)]; exact hc
 refine ⟨x,t,a,b,fp,lp,dx,ns,ss,fs,ls,rfl,zC,pl.same g2,g2 _ _ hfp,g2 _ _ hlp,λnr lq ow H3 ex3 how s3 na3 lq3 ow3=>⟨rfl,?_⟩⟩;have how':H ow=none:=zR g2 how;have g3:zE H H3:=λc o hc=>ex3 c o (zF hc nx) (g2 _ _ hc);have n1:=pl.ok.n1;have n2:=pl.ok.n2;have p2:2<=2^ns.length:=QX (n:=2) (by decide) n1;have hw:2^ns.length - 1<2^ns.length:=by lia
 have S3:Jz C ⟨ns.length,zO ns ss fs,ends,ls,x,dx,nr,lq,ow⟩ H3:=⟨s3,na3,lq3,Yz pl.ok h1 h2,h3⟩;refine ⟨_,rfl,x,dx,_,rfl,s3,rfl,_,rfl,x,C,dx,_,_,rfl,s3,T.cl,T.nW,rfl,_,rfl,x,C,dx,_,_,rfl,s3,T.cl,T.nA,rfl,?_⟩;refine ⟨⟨ns.length,zO ns ss fs,ends,ls,x,dx,nr,lq,ow⟩,[],2^ns.length - 1,ns.length,rfl,S3,⟨ow3,zMY⟩,hw,yr _ (S3.lt hw),qG _,λz=>by lia,λH4 kvs4 ex4 hd4 gr4 pr4=>⟨_,rfl,zr (λc=>?_) (λc=>?_)⟩⟩
 .have g4:zE H H4:=λc o hc=>ex4 c o (zF hc how') (g3 _ _ hc)
  refine qn ?_ H4 g4;exact Xz _▸c
 .have g4:zE H H4:=λc o hc=>ex4 c o (zF hc how') (g3 _ _ hc)
  have hc:yj (zO ns ss fs) ends (2^ns.length - 1) ns.length=true:=by
   cases e:yj (zO ns ss fs) ends (2^ns.length - 1) ns.length with
   | true=>rfl
   | false=>exact v6 (show (!yj (zO ns ss fs) ends (2^ns.length - 1) ns.length)=true by rw [e]; rfl) c
  have S4:=S3.ex ow3 ex4;refine ⟨_,rfl,_,rfl,x,dx,_,rfl,S4.at_,rfl,⟨ns.length,zO ns ss fs,ends,ls,x,dx,nr,lq,ow⟩,kvs4,rfl,S4,hd4,n1,hc,pr4 (by lia),λl H5 g5 hl5 e5=>?_⟩;refine ⟨t,a,b,l,ns,ss,jx (zO ns ss fs) ends (2^ns.length - 1) ns.length,rfl,pl.same (g4.trans g5),e5,?_,?_,λl6 H6 g6 hl6 e6=>qs hc l6 H6 ((g4.trans g5).trans g6) (zR (g4.trans g5) hl6) e6⟩
  .have:=zCf (near:=zO ns ss fs) (ends:=ends) (ZV (2^ns.length - 1)) (2^ns.length - 1) ns.length
   have:=yr _ (S3.lt hw);exact qQ (zCf _ _ _) (by lia)
  .exact zHU S3.ok _ _ _ (qG _)
def J4 (n:Nat) (ring:Bool):List Nat:=if ring then [0] else List.range n
def Zo (ns ss:List Int) (ring:Bool) (e:Nat):Bool:= !ring||(yu ns ss (ns.getD e 0)).contains 0
def zDF (ns ss:List Int) (ring:Bool):Bool:=yj (zO ns ss (J4 ns.length ring)) (Zo ns ss ring) (2^ns.length - 1) ns.length
def zAA (ns ss:List Int) (ring:Bool):List Int:=(jx (zO ns ss (J4 ns.length ring)) (Zo ns ss ring) (2^ns.length - 1) ns.length).map λk=>ns.getD k 0
def yG (ns ss:List Int) (ring:Bool):Bool:=zDF ns ss ring&& !(ring&&decide (ns.length<3))
inductive Jw (ring:Bool) (vs:List V) (H:Hp) (Q:VK) (E:XK):Prop
 | mk (t a b:Addr) (ns ss:List Int):vs=[.ref t]->zi H t a b ns ss->(yG ns ss ring=false->∀H',zE H H'->Q .non H')->((yG ns ss ring=true->∀(l:Addr) (H':Hp),zE H H'->H l=none->H' l=some (.lst ((zAA ns ss ring).map V.int))->Q (.ref l) H'))->Jw ring vs H Q E
abbrev zIc:Stmt:=top 20
inductive zBR (vs:List V) (H:Hp) (Q:VK) (E:XK):Prop
 | mk (t a b:Addr) (ns ss:List Int):vs=[.ref t]->zi H t a b ns ss->(∀l:Addr,H l=none->Q (.ref l) (zH H l (.lst ((iv (List.range ns.length)).map V.int))))->zBR vs H Q E
abbrev zIM:Stmt:=top 32
theorem zQY:FS 1 ["plan"] zIc:=zm
theorem zOH (F:Fu K "all_places" zIc f fd) (B:Bt3 mg):FnOk P w K mg base zU 1 f fd ["plan"] zBR:=by
 refine F.ok zQY ?_ ?_
 .rintro _ _ _ _ ⟨t,a,b,ns,ss,rfl,_⟩
  rfl
 rintro _ A _ s H _ Q E hr ⟨t,a,b,ns,ss,rfl,pl,q⟩;refine ⟨_,(zG (zM (zEH rfl rfl B.range rfl B.list (zA (zP zQ rfl B.len qU (zA (zz zh (pv 0) zJ) zB)) zB)))),?_⟩;have n2:=pl.ok.n2;have hml:(ns.map V.int).length=ns.length:=qA _;refine ⟨_,rfl,t,_,0,_,rfl,rfl,ZD.of pl.t,rfl,a,_,rfl, .inl (zK.of pl.a),0,_,rfl,by rw [hml]; lia,λl hl=>?_⟩;have e:((List.range (((((ns.map V.int).length:Nat):Int)) - 0).toNat).map λk:Nat=>V.int (0+(k:Int)))=(iv (List.range ns.length)).map V.int:=by
  rw [Yg,hml,show (((ns.length:Nat):Int) - 0).toNat=ns.length by lia];refine QK λk _=>?_;rw [xP]
 rw [e];exact q l hl
theorem zPD:FS 1 ["plan"] zIM:=zm
theorem zOp (F:Fu K "first_row" zIM f fd)
  (GC:Gd P w K mg base 23 cp cpd ["plan"] yw "check_plan")
  (GF:Gd P w K mg base 23 fr frd ["plan","first_places","last_places"] zDH "first_from")
  (GA:Gd P w K mg base 23 al ald ["plan"] zBR "all_places"):FnOk P w K mg base zU 24 f fd ["plan"] (Jw false):=by
 refine F.ok zPD ?_ ?_
 .rintro _ _ _ _ ⟨t,a,b,ns,ss,rfl,_⟩
  rfl
 rintro _ A _ s H _ Q E hr ⟨t,a,b,ns,ss,rfl,pl,qn,qs⟩;refine ⟨_,(zD (zo (zL GC hr (zA (pv 0) zB))) (zG (zM (zL GF hr (zA (pv 0) (zA (zL GA hr (zA (pv 0) zB)) (zA (zL GA hr (zA (pv 0) zB)) zB))))))),?_⟩;refine ⟨_,rfl,t,a,b,ns,ss,rfl,pl,?_⟩;refine ⟨_,rfl,_,rfl,t,a,b,ns,ss,rfl,pl,λl1 hl1=>?_⟩;have g1:zE H (zH H l1 (.lst ((iv (List.range ns.length)).map V.int))):=zE.new hl1 _;refine ⟨_,rfl,t,a,b,ns,ss,rfl,pl.same g1,λl2 pK=>?_⟩;have g2:zE (zH H l1 (.lst ((iv (List.range ns.length)).map V.int))) (zH (zH H l1 (.lst ((iv (List.range ns.length)).map V.int))) l2 (.lst ((iv (List.range ns.length)).map V.int))):=zE.new pK _;have e:yG ns ss false=yj (zO ns ss (List.range ns.length)) (Zo ns ss false) (2^ns.length - 1) ns.length:=by
  unfold yG zDF J4;simp
 refine ⟨t,a,b,l1,l2,ns,ss,List.range ns.length,List.range ns.length,Zo ns ss false,rfl,(pl.same g1).same g2,g2 _ _ zC,zC,λk hk=>List.mem_range.mp hk,QY,λe he=>?_,λhc H' g=>?_,λhc l H' g hl e'=>?_⟩
 .have:(List.range ns.length).contains e=true:=List.contains_iff_mem.mpr (List.mem_range.mpr he)
  rw [this];rfl
 .exact qn (e.trans hc) H' ((g1.trans g2).trans g)
 .exact qs (e.trans hc) l H' ((g1.trans g2).trans g) (zR (g1.trans g2) hl) e'
abbrev zGN:Stmt:=top 33
theorem JR (ss:List Int) (x y:Int):zY ss x y=zY ss y x:=by
 unfold zY;rw [Int.add_comm,show decide (x≠y)=decide (y≠x) from decide_eq_decide.mpr ⟨λh z=>h z.symm,λh z=>h z.symm⟩]
theorem zOM:FS 1 ["plan"] zGN:=zm
theorem zMt (F:Fu K "first_ring" zGN f fd) (B:Bt3 mg) (m3:mg "FEWEST_IN_RING"=some (.int 3 t3))
  (GC:Gd P w K mg base 23 cp cpd ["plan"] yw "check_plan")
  (GF:Gd P w K mg base 23 fr frd ["plan","first_places","last_places"] zDH "first_from")
  (GN:Gd P w K mg base 23 al ald ["plan","number"] zBa "near_places"):FnOk P w K mg base zU 24 f fd ["plan"] (Jw true):=by
 refine F.ok zOM ?_ ?_
 .rintro _ _ _ _ ⟨t,a,b,ns,ss,rfl,_⟩
  rfl
 rintro _ A _ s H _ Q E hr ⟨t,a,b,ns,ss,rfl,pl,qn,qs⟩;refine ⟨_,(zD (zo (zL GC hr (zA (pv 0) zB))) (zD (zd (zT ji (zP zQ rfl B.len qU (zA (zz zh (pv 0) zJ) zB)) (jR (v:= .int 3) rfl m3 ⟨_,rfl⟩) (zV _)) (zG (zM Y4)) zW) (zG (zM (zL GF hr (zA (pv 0) (zA (zv (zA zJ zB)) (zA (zL GN hr (zA (pv 0) (zA (zz zx (YR zh (pv 0) zJ (λ_ _=>rfl)) zJ) zB))) zB)))))))),?_⟩;have hml:(ns.map V.int).length=ns.length:=qA _;have n1:=pl.ok.n1;refine ⟨_,rfl,t,a,b,ns,ss,rfl,pl,?_⟩;refine ⟨_,rfl,t,_,0,_,rfl,rfl,ZD.of pl.t,rfl,a,_,rfl, .inl (zK.of pl.a),_,_,rfl,rfl,_,rfl,zr (λc=>?_) (λc=>?_)⟩
 .have c':=qZ c
  rw [hml] at c';refine qn ?_ H zE.rfl';unfold yG;rw [qK (show ns.length<3 by lia)];cases zDF ns ss true <;> rfl
 have c3:¬ns.length<3:=λz=>c (qK (by rw [hml]; lia));have e:yG ns ss true=yj (zO ns ss [0]) (Zo ns ss true) (2^ns.length - 1) ns.length:=by
  unfold yG zDF J4;rw [qa c3];simp
 refine ⟨_,rfl,by decide,λl1 hl1=>?_⟩;have g1:zE H (zH H l1 (.lst [.int 0])):=zE.new hl1 _;have p1:=pl.same g1;have e0:ns[0]?=some ns[0]:=qB (by lia);have d0:ns.getD 0 0=ns[0]:=by rw [qC,e0]; rfl
 refine ⟨_,rfl,_,rfl,t,_,0,_,rfl,rfl,ZD.of p1.t,rfl,a,_,0,_,rfl,rfl,zK.of p1.a,Zx (j:=0) (by rw [qM,e0]; rfl),t,a,b,ns,ss,ns[0],rfl,p1,λl2 H2 g2 pK e2=>?_⟩;refine ⟨t,a,b,l1,l2,ns,ss,[0],yu ns ss ns[0],Zo ns ss true,rfl,p1.same g2,g2 _ _ zC,e2,λk hk=>?_,QP _ _,λj hj=>?_,λhc H' g=>?_,λhc l H' g hl e'=>?_⟩
 .rw [List.mem_singleton.mp hk]; lia
 .rw [qu]
  show (yu ns ss ns[0]).contains j=true↔(yu ns ss (ns.getD j 0)).contains 0=true;unfold yu;rw [qw,qw,QZ,QZ,xz,xz,d0,JR];exact ⟨λh=>⟨by lia,h.2⟩,λh=>⟨hj,h.2⟩⟩
 .exact qn (e.trans hc) H' ((g1.trans g2).trans g)
 .exact qs (e.trans hc) l H' ((g1.trans g2).trans g) (zR (g1.trans g2) hl) e'
theorem zDA (ns:List Int) (i:Nat):JO (ns.map V.int) (some ((i:Int)+1)) none=(ns.drop (i+1)).map V.int:=by
 unfold JO;have h1:HT.Yj (ns.map V.int).length 0 (some ((i:Int)+1))=min (i+1) ns.length:=by
  have h3:=HT.zHP (ns.map V.int).length 0 (i+1);rw [qA] at h3 ⊢;exact h3
 have h2:HT.Yj (ns.map V.int).length (ns.map V.int).length none=ns.length:=by
  show (ns.map V.int).length=_;rw [qA]
 rw [h1,h2,List.map_drop];rcases Nat.le_total (i+1) ns.length with z | z
 .rw [vU z,q9 (by rw [Qg,qA]; exact qG _)]
 .rw [Nat.min_eq_right z,List.drop_of_length_le (by rw [qA]; exact qG _),List.drop_of_length_le (by rw [qA]; exact z),List.take_nil]
abbrev zMT:Stmt:=ZL (top 35) 0
abbrev sWy:Stmt:=ZL (top 35) 1
abbrev sWb:Stmt:=ZL (top 35) 2
abbrev sAw:Stmt:=ZL (top 35) 3
structure J3 (K:W.Frag) (C:Addr):Prop extends SrT K C where
 nL:ZM K C "last_places"
 nK:ZM K C "known"
section
variable (near:Nat->List Nat) (ends:Nat->Bool)
def jZ:Nat->Nat->Nat->Nat
 | 0,_,e=>if ends e then 1 else 0
 | m+1,left,e=>(((near e).filter λk=>left.testBit k).map λk=>jZ m (left - 2^k) k).sum
def ZX (left e:Nat):Nat:=jZ near ends (ZV left) left e
variable {near ends}
theorem zAN (N:zu near n) (hl:left<1024) (h0:left≠0) (he:e<=n):ZX near ends left e=(((near e).filter λk=>left.testBit k).map λk=>ZX near ends (left - 2^k) k).sum:=by
 unfold ZX;cases hc:ZV left with
 | zero=>exact v6 (yC left hl hc) h0
 | succ m=>
  show (((near e).filter λk=>left.testBit k).map λk=>jZ near ends m (left - 2^k) k).sum=_;congr 1;refine QK λk hk=>?_;obtain ⟨hk1,hb⟩:=List.mem_filter.mp hk;have:=(ZQ left hl k (qd (N.lt e he k hk1) N.n10) hb).1;have em:ZV (left - 2^k)=m:=by lia
  rw [em]
end
section
variable (n:Nat) (near:Nat->List Nat) (ends:Nat->Bool)
structure JQ (pB:List (List zZ×V)):Prop where
 nd:(pB.map (·.1)).Nodup
 ok:∀kv∈pB,∃l e,kv.1=ky l e/\l≠0/\l<2^n/\e<=n/\kv.2= .int (ZX near ends l e:Nat)
variable {n near ends}
theorem zBh:JQ n near ends []:=⟨qr,nofun⟩
theorem JQ.val (M:JQ n near ends pB) {l:Nat} (h:ZJ pB (ky l e)=some v):v= .int (ZX near ends l e:Nat):=by
 obtain ⟨l',e',h1,_,_,_,h2⟩:=M.ok _ (zET h);obtain ⟨rfl,rfl⟩:=zDV h1;exact h2
theorem JQ.len (M:JQ n near ends pB) (hn:n<=10):pB.length<sizeLine:=by
 refine zCZ M.nd (λkv h=>?_) hn;obtain ⟨l,e,h1,_,h3,h4,_⟩:=M.ok kv h;exact ⟨l,e,h1,h3,h4⟩
theorem JQ.put (M:JQ n near ends pB) {l:Nat} (h0:l≠0) (hl:l<2^n) (he:e<=n):JQ n near ends (Zd pB (ky l e) (.int (ZX near ends l e:Nat))):=by
 refine ⟨?_,?_⟩
 .cases hv:ZJ pB (ky l e) with
  | none=>
   rw [J2 _ hv,qN];refine List.nodup_append.mpr ⟨M.nd,by simp,λa ha b hb hab=>?_⟩;have eb:b=ky l e:=by simpa using hb
   subst eb;subst hab;obtain ⟨kv,h1,h2⟩:=List.mem_map.mp ha;have h3:=yR (ky l e) pB;rw [hv] at h3;have h4:(pB.any λkv=>decide (kv.1=ky l e))=true:=List.any_eq_true.mpr ⟨kv,h1,qK h2⟩;rw [h4] at h3;cases h3
  | some v=>
   unfold Zd;rw [yR,hv];rw [qO (show (some v).isSome=true from rfl),qo];have:(pB.map ((λx:List zZ×V=>x.1) ∘ λkv=>if kv.1=ky l e then (kv.1,V.int (ZX near ends l e:Nat)) else kv))=pB.map (·.1):=by
    refine QK λkv _=>?_;show (if kv.1=ky l e then (kv.1,V.int (ZX near ends l e:Nat)) else kv).1=kv.1;split <;> rfl
   rw [this];exact M.nd
 .intro kv h
  unfold Zd at h;split at h
  .obtain ⟨kv',h1,h2⟩:=List.mem_map.mp h
   by_cases z:kv'.1=ky l e
   .rw [qO z] at h2
    rw [<-h2];exact ⟨l,e,z,h0,hl,he,rfl⟩
   .rw [qP z] at h2
    rw [<-h2];exact M.ok kv' h1
  .rcases List.mem_append.mp h with z | z
   .exact M.ok kv z
   .have z:kv=(ky l e,V.int (ZX near ends l e:Nat)):=by simpa using z
    rw [z];exact ⟨l,e,rfl,h0,hl,he,rfl⟩
end
def fsT (p:SP):List (Str×V):=[("ahead", .int p.n),("near", .ref p.nr),("whole", .int ((2^p.n - 1:Nat):Int)),("last_places", .ref p.lp),("known", .ref p.ow)]
structure Y0 (C:Addr) (p:SP) (H:Hp):Prop where
 at_:H p.s=some (.ins C p.dx (fsT p))
 nr:Y8 H p.nr p.n p.near
 lp:H p.lp=some (.lst ((iv p.lasts).map V.int))
 ok:zu p.near p.n
 le:∀e<p.n,p.lasts.contains e=p.ends e
def Zm (p:SP) (H:Hp) (pB:List (List zZ×V)):Prop:=H p.ow=some (.dT pB)/\JQ p.n p.near p.ends pB
theorem Y0.ex (S:Y0 C p H) (hk:H p.ow=some (.dT pB)) (g:Ex (·=p.ow) H H'):Y0 C p H':=by
 have ne:∀{b o},H b=some o->(∀pB,o≠ .dT pB)->H' b=some o:=λ{b o} h d=>g b o (λz=>d pB (by rw [z,hk] at h; exact (Option.some.inj h).symm)) h;obtain ⟨rs,q1,q2,q3⟩:=S.nr;exact ⟨ne S.at_ (λ_ z=>by cases z),⟨rs,q1,ne q2 (λ_ z=>by cases z),λe he=>let ⟨r,a,b⟩:=q3 e he; ⟨r,a,ne b (λ_ z=>by cases z)⟩⟩,ne S.lp (λ_ z=>by cases z),S.ok,S.le⟩
theorem Y0.lt (S:Y0 C p H) (h:left<2^p.n):left<1024:=qd h (Y5 _ (X1 S.ok.n10))
inductive zBm (C:Addr) (m:Nat) (vs:List V) (H:Hp) (Q:VK) (E:XK):Prop
 | mk (p:SP) (pB:List (List zZ×V)) (left e:Nat):vs=[.ref p.s, .int left, .int e]->Y0 C p H->Zm p H pB->left<2^p.n->ZV left<=m->e<=p.n->(left=0->e<p.n)->(∀(H':Hp) (pC:List (List zZ×V)),Ex (·=p.ow) H H'->Zm p H' pC->Q (.int (ZX p.near p.ends left e:Nat)) H')->zBm C m vs H Q E
inductive zIs (C:Addr) (m:Nat) (vs:List V) (H:Hp) (Q:VK) (E:XK):Prop
 | mk (p:SP) (pB:List (List zZ×V)) (left k:Nat):vs=[.ref p.s, .int left, .int k]->Y0 C p H->Zm p H pB->left<2^p.n->left.testBit k=true->k<p.n->ZV left<=m->(∀(H':Hp) (pC:List (List zZ×V)),Ex (·=p.ow) H H'->Zm p H' pC->Q (.int (ZX p.near p.ends (left - 2^k) k:Nat)) H')->zIs C m vs H Q E
inductive zDx (C:Addr) (vs:List V) (H:Hp) (Q:VK) (E:XK):Prop
 | mk (p:SP) (pB:List (List zZ×V)):vs=[.ref p.s]->Y0 C p H->Zm p H pB->1<=p.n->(∀(H':Hp) (pC:List (List zZ×V)),Ex (·=p.ow) H H'->Zm p H' pC->Q (.int (ZX p.near p.ends (2^p.n - 1) p.n:Nat)) H')->zDx C vs H Q E
inductive zDp (C:Addr) (vs:List V) (H:Hp) (Q:VK) (E:XK):Prop
 | mk (s t a b fp lp dx:Addr) (ns ss:List Int) (fs ls:List Nat):vs=[.ref s, .ref t, .ref fp, .ref lp]->H s=some (.ins C dx [])->zi H t a b ns ss->H fp=some (.lst ((iv fs).map V.int))->H lp=some (.lst ((iv ls).map V.int))->(∀(nr lq ow:Addr) (H':Hp),Ex (·=s) H H'->H ow=none->H' s=some (.ins C dx [("ahead", .int ns.length),("near", .ref nr),("whole", .int ((2^ns.length - 1:Nat):Int)),("last_places", .ref lq),("known", .ref ow)])->Y8 H' nr ns.length (zO ns ss fs)->H' lq=some (.lst ((iv ls).map V.int))->H' ow=some (.dT [])->Q .non H')->zDp C vs H Q E
theorem zFg (l:List Nat) (f:Nat->Nat):(l.map λk=>((f k:Nat):Int)).sum=(((l.map f).sum:Nat):Int):=by
 induction l with
 | nil=>rfl
 | cons a r ih=>rw [qe,qe,X4,X4,ih]; lia
theorem zSq:FS 3 ["self","left","place"] sWb:=zm
theorem zNr (F:Zv K "ways_by" "Tally.ways_by" sWb f fd) (T:J3 K C) (mW:ZC K C "ways" g1)
  (GW:FnOk P w K mg base zU j g1 pH ["self","left","end"] (zBm C m)) (bW:zX K pH ["self","left","end"] []):FnOk P w K mg base zU (j+1) f fd ["self","left","place"] (zIs C (m+1)):=by
 refine F.ok zSq ?_ ?_
 .rintro _ _ _ _ ⟨p,pB,left,k,rfl,_⟩
  rfl
 rintro _ A _ s H _ Q E hr ⟨p,pB,left,k,rfl,S,hd,hl,hb,hk,hc,q⟩;refine ⟨_,(zG (zM (zy (pv 0) T.cl mW GW hr bW .nil ze (zA (zS yc (pv 1) (zS jc zJ (pv 2))) (zA (pv 2) zB))))),?_⟩;have n10:=S.ok.n10;have hdec:=ZQ left (S.lt hl) k (by lia) hb;refine ⟨_,rfl,p.s,p.dx,_,rfl,S.at_,rfl,_,rfl,_,rfl,_,_,rfl,rfl,⟨by show (0:Int)<=(k:Int); lia,by show (k:Int)<=1000000; lia,by decide⟩,_,_,rfl,rfl,_,rfl,?_⟩;exact ⟨p,pB,left - 2^k,k,Qe (λx=>[V.ref p.s,V.int x,V.int (k:Int)]) (JD left k (Y6 hb)),S,hd,by lia,by lia,by lia,λ_=>hk,q⟩
theorem zJO:FS 3 ["self","left","end","key"] sWy:=zm
theorem zNq (F:Zv K "ways" "Tally.ways" sWy f fd) (B:jP mg) (T:J3 K C) (mB:ZC K C "ways_by" g1) (mS:ZC K C "steps" g2)
  (GB:FnOk P w K mg base zU j g1 pH ["self","left","place"] (zIs C m)) (bB:zX K pH ["self","left","place"] [])
  (GS:FnOk P w K mg base zU j g2 pI ["self","left","end"] (YI C)) (bS:zX K pI ["self","left","end"] []):FnOk P w K mg base zU (j+1) f fd ["self","left","end"] (zBm C m):=by
 refine F.ok zJO ?_ ?_
 .rintro _ _ _ _ ⟨p,pB,left,e,rfl,_⟩
  rfl
 rintro _ A _ s H _ Q E hr ⟨p,pB,left,e,rfl,S,hd,hl,hc,he,h0,q⟩;have hu:=zAD hr;refine ⟨_,(zD (zd (zT YQ (pv 1) zJ (zV _)) (zG (zM (zNR (zT (Y3 K) (pv 2) (zk (pv 0) rfl) rfl) zJ zJ))) zW) (zD (zt 3 zJO.nd (ya (zA (pv 1) (zA (pv 2) zB)))) (zD (zd (zBo (JG hu (pv 3) (zk (pv 0) rfl))) (zG (j8 hu (zk (pv 0) rfl) (pv 3) (zP (zEp rfl) rfl B.sum boot_sum (zA (ZR ["place"] rfl (bk zJO) (zj (zy (pv 0) T.cl mS GS hr bS .nil ze (zA (pv 1) (zA (pv 2) zB)))) (λpA C fp s3 H3=>⟨(yI zJO),yN,(zy (pv 1) T.cl mB GB hr bB .nil ze (zA (pv 2) (zA (pv 0) zB)))⟩)) zB)) rfl)) zW) (zG (zM (Jg hu (zk (pv 0) rfl) (pv 3) (λ_ _=>rfl))))))),?_⟩;refine ⟨_,rfl,rfl,_,rfl,zr (λc=>?_) (λc=>?_)⟩
 .have el:left=0:=by
   have z:=V.int.inj (qZ c);lia
  subst el;have z:=q H pB Ex.refl hd;have e0:ZX p.near p.ends 0 e=if p.ends e then 1 else 0:=rfl;rw [e0,<-S.le e (h0 rfl),<-zCR] at z;refine ⟨_,rfl,_,rfl,p.s,C,p.dx,_,_,rfl,S.at_,T.cl,T.nL,rfl,p.lp,_,_,rfl,rfl,zK.of S.lp,_,rfl,zr (λc=>?_) (λc=>?_)⟩
  .have c':(iv p.lasts).contains (e:Int)=true:=c
   rw [c'] at z;exact z
  .have c':(iv p.lasts).contains (e:Int)=false:=Bool.eq_false_iff.mpr c
   rw [c'] at z;exact z
 .have el:left≠0:=λz=>c (qK (by rw [z]; rfl))
  refine ⟨_,rfl,_,rfl,yU,λkt hkt=>?_⟩;have gk:zE H (zH H kt (.tup [.int (left:Int), .int (e:Int)])):=zE.new hkt _;have S1:Y0 C p (zH H kt (.tup [.int (left:Int), .int (e:Int)])):=S.ex hd.1 (Ex.same gk);have hd1:Zm p (zH H kt (.tup [.int (left:Int), .int (e:Int)])) pB:=⟨gk _ _ hd.1,hd.2⟩;have hk1:(zH H kt (.tup [.int (left:Int), .int (e:Int)])) kt=some (.tup ((ky left e).map kV)):=zC;have ex1:Ex (·=p.ow) H (zH H kt (.tup [.int (left:Int), .int (e:Int)])):=Ex.same gk;generalize zH H kt (.tup [.int (left:Int), .int (e:Int)])=H1 at S1 hd1 hk1 ex1 ⊢;refine ⟨_,rfl,_,rfl,p.s,C,p.dx,_,_,rfl,S1.at_,T.cl,T.nK,rfl,p.ow,_,rfl,YX.t hd1.1 hk1,_,rfl,zr (λc2=>?_) (λc2=>?_)⟩
  .have hl':=S.lt hl
   have n10:=S.ok.n10;refine ⟨_,rfl,p.s,p.dx,_,rfl,S1.at_,rfl,_,rfl,_,rfl,p.s,p.dx,p.nr,_,p.n,p.near,left,e,rfl,S1.at_,rfl,S1.nr,S1.ok,he,hl',λl H2 g2 hln e2=>⟨l,rfl,⟨_,zK.of e2⟩,λD hD=>?_⟩⟩;have pN:Zm p H2 pB:=⟨g2 _ _ hd1.1,hd1.2⟩;have lo:l≠p.ow:=zw e2 pN.1 (by intro z; cases z);have Do:p.ow≠D:=zF pN.1 hD;have lD:l≠D:=zF e2 hD;have klen:((p.near e).filter λk=>left.testBit k).length<=10:=qQ (qY _ _) (qQ (jy S.ok he) n10);obtain ⟨ks,eks⟩:∃ks,ks=(p.near e).filter λk=>left.testBit k:=⟨_,rfl⟩;have ew:=zAN (ends:=p.ends) S.ok hl' el he;have hmem:∀k∈ks,k<p.n/\left.testBit k=true:=λk hk=>by
    rw [eks] at hk;obtain ⟨h1,h2⟩:=List.mem_filter.mp hk;exact ⟨S.ok.lt e he k h1,h2⟩
   rw [<-eks] at e2 klen ew;have kml:((iv ks).map V.int).length=ks.length:=by rw [qA,yV]
   refine Zy (n:=ks.length) (λi U' H'=>∃(x:Option V) (pC:List (List zZ×V)),U'=[x,some (.ref p.s),some (.int left),some (.int e),some (.ref kt)]/\Ex (·=p.ow) H2 H'/\Zm p H' pC/\H' D=some (.lst (((ks.take i).map λk=>((ZX p.near p.ends (left - 2^k) k:Nat):Int)).map V.int)))
    ⟨none,pB,rfl,Ex.new _ hD,⟨by rw [zI Do]; exact pN.1,pN.2⟩,zC⟩ ?_ ?_
   .rintro i U' H' hi ⟨x,pC,rfl,ex,pO,hD'⟩
    have ek:ks[i]?=some ks[i]:=qB hi;obtain ⟨hkn,hb⟩:=hmem _ (qg hi);have el2:=ex _ _ lo e2;refine ⟨⟨_,_,zK.of el2,yb ek⟩,λy H3 hy=>?_⟩;obtain ⟨rfl,hy⟩:=hy;have ey:=hy _ (zK.of el2);rw [yb ek] at ey;cases ey;refine JF ?_;have S':Y0 C p H3:=(S1.ex hd1.1 (Ex.same g2)).ex pN.1 ex;refine ⟨_,rfl,p.s,p.dx,_,rfl,S'.at_,rfl,_,rfl,_,rfl,p,pC,left,ks[i],rfl,S',pO,hl,hb,hkn,hc,λH4 kvs4 ex4 hk4=>?_⟩;have hD4:=ex4 _ _ (Ne.symm Do) hD';refine ⟨_,hD4,Zb (by rw [qA,qA,QC]; lia),_,kvs4,rfl,λc o hc ho=>?_,⟨by rw [zI Do]; exact hk4.1,hk4.2⟩,?_⟩
    .rw [zI (zF ho hD)]
     exact ex4 _ _ hc (ex _ _ hc ho)
    .rw [zC,QR,ek,qN,qN]
     rfl
   .rintro U' H' ⟨x,pC,rfl,ex,pO,hD'⟩
    have el2:=ex _ _ lo e2;refine ⟨⟨_,zK.of el2,by rw [kml]; exact qG _⟩,?_⟩;rw [q9 (qG _)] at hD';refine ⟨D,_,rfl,hD',?_⟩;have S':Y0 C p H':=(S1.ex hd1.1 (Ex.same g2)).ex pN.1 ex;have hk2:H' kt=some (.tup ((ky left e).map kV)):=ex _ _ (zw (g2 _ _ hk1) pN.1 (by intro z; cases z)) (g2 _ _ hk1);have esum:(ks.map λk=>((ZX p.near p.ends (left - 2^k) k:Nat):Int)).sum=((ZX p.near p.ends left e:Nat):Int):=by rw [zFg,ew]
    refine ⟨_,rfl,p.s,C,p.dx,_,_,rfl,S'.at_,T.cl,T.nK,rfl,_,rfl,p.ow,_,rfl,jp.t pO.1 hk2 (pO.2.len S.ok.n10),?_⟩;rw [esum];have M3:=pO.2.put el hl he;have ex3:Ex (·=p.ow) H' (zH H' p.ow (.dT (Zd pC (ky left e) (.int (ZX p.near p.ends left e:Nat))))):=Ex.put _ rfl;have S3:=S'.ex pO.1 ex3;have hk3:=ex3 _ _ (zw hk2 pO.1 (by intro z; cases z)) hk2;refine ⟨_,rfl,p.s,C,p.dx,_,_,rfl,S3.at_,T.cl,T.nK,rfl,_,rfl,p.ow,_,rfl,by have z:=YX.t (zC (H:=H') (a:=p.ow) (o:= .dT (Zd pC (ky left e) (.int (ZX p.near p.ends left e:Nat))))) hk3; rw [jC,qO rfl] at z; exact z,?_⟩;exact q _ _ (((ex1.trans (Ex.same g2)).trans ex).trans ex3) ⟨zC,M3⟩
  .cases ev:ZJ pB (ky left e) with
   | none=>rw [ev] at c2; exact v6 rfl c2
   | some v=>
    have hv:=hd.2.val ev;refine ⟨_,rfl,p.s,C,p.dx,_,_,rfl,S1.at_,T.cl,T.nK,rfl,_,rfl,p.ow,_,rfl,by have z:=YX.t hd1.1 hk1; rw [ev] at z; exact z,?_⟩;rw [hv];exact q _ _ ex1 hd1
theorem zDu {wa wb sf:Addr} {wd wbd sfd:FuncData} (FW:Zv K "ways" "Tally.ways" sWy wa wd) (FB:Zv K "ways_by" "Tally.ways_by" sWb wb wbd) (B:jP mg) (T:J3 K C) (mW:ZC K C "ways" wa) (mB:ZC K C "ways_by" wb) (mS:ZC K C "steps" sf)
  (GS:FnOk P w K mg base zU 1 sf sfd ["self","left","end"] (YI C)) (bS:zX K sfd ["self","left","end"] []) (bW:zX K wd ["self","left","end"] []) (bB:zX K wbd ["self","left","place"] []):
  ∀m:Nat,FnOk P w K mg base zU (2*m+2) wa wd ["self","left","end"] (zBm C m)
 | 0=>zNq (j:=1) FW B T mB mS ⟨λvs H Q E h=>by obtain ⟨p,pB,left,k,rfl,_⟩:=h; rfl,λA outer s H args us vs Q E _ _ _ _ h=>by
   obtain ⟨p,pB,left,k,_,S,_,hl,hb,hk,hc,_⟩:=h;have n10:=S.ok.n10;have:=(ZQ left (S.lt hl) k (by lia) hb).1;lia⟩ bB GS bS
 | m+1=>by
  have GW:=zDu FW FB B T mW mB mS GS bS bW bB m;have GB:=zNr (j:=2*m+2) FB T mW GW bW;exact zNq (j:=2*m+3) FW B T mB mS GB bB (GS.mono (by lia)) bS
theorem zSv:FS 1 ["self"] sAw:=zm
theorem zRv (F:Zv K "all_ways" "Tally.all_ways" sAw f fd) (T:J3 K C) (mW:ZC K C "ways" g1) (GW:FnOk P w K mg base zU 22 g1 pH ["self","left","end"] (zBm C 10)) (bW:zX K pH ["self","left","end"] []):FnOk P w K mg base zU 23 f fd ["self"] (zDx C):=by
 refine F.ok zSv ?_ ?_
 .rintro _ _ _ _ ⟨p,pB,rfl,_⟩
  rfl
 rintro _ A _ s H _ Q E hr ⟨p,pB,rfl,S,hd,n1,q⟩;refine ⟨_,(zG (zM (zy (pv 0) T.cl mW GW hr bW .nil ze (zA (zk (pv 0) rfl) (zA (zk (pv 0) rfl) zB))))),?_⟩;have p2:2<=2^p.n:=QX (n:=2) (by decide) n1;have hw:2^p.n - 1<2^p.n:=by lia
 refine ⟨_,rfl,p.s,p.dx,_,rfl,S.at_,rfl,_,rfl,p.s,C,p.dx,_,_,rfl,S.at_,T.cl,T.nW,rfl,_,rfl,p.s,C,p.dx,_,_,rfl,S.at_,T.cl,T.nA,rfl,?_⟩;exact ⟨p,pB,2^p.n - 1,p.n,rfl,S,hd,hw,yr _ (S.lt hw),qG _,λz=>by lia,q⟩
theorem zRK:FS 4 ["self","plan","first_places","last_places"] zMT:=zm
theorem zQt (F:Zv K "__init__" "Tally.__init__" zMT f fd) (B:Bt3 mg) (T:J3 K C) (BI:zHt K C0 mc "__init__" g1) (mI:mg "Steps"=some (.ref C0))
  (GI:FnOk P w K mg base zU 3 g1 pH ["self","plan","first_places"] (zBf C)) (bI:zX K pH ["self","plan","first_places"] []):FnOk P w K mg base zU 4 f fd ["self","plan","first_places","last_places"] (zDp C):=by
 refine F.ok zRK ?_ ?_
 .rintro _ _ _ _ ⟨s,t,a,b,fp,lp,dx,ns,ss,fs,ls,rfl,_⟩
  rfl
 rintro _ A _ s H _ Q E hr ⟨s,t,a,b,fp,lp,dx,ns,ss,fs,ls,rfl,hs,pl,hfp,hlp,q⟩;refine ⟨_,(zD (zo (zEJ BI GI hr rfl mI bI .nil ze (zA (pv 0) (zA (pv 1) (zA (pv 2) zB))))) (zD (Ya (pv 0) (ZE ZP rfl B.list qq (zA (pv 3) zB)) rfl) (zG (Ya (pv 0) zAj rfl)))),?_⟩;refine ⟨_,rfl,_,rfl,_,rfl,s,t,a,b,fp,dx,ns,ss,fs,rfl,hs,pl,hfp,λnr H1 ex1 s1 na1=>?_⟩;have lps:lp≠s:=zw hlp hs (by intro z; cases z);have lp1:=ex1 _ _ lps hlp;refine ⟨_,rfl,lp,_,rfl, .inl (zK.of lp1),λlq hlq=>?_⟩;have g2:zE H1 (zH H1 lq (.lst ((iv ls).map V.int))):=zE.new hlq _;refine ⟨_,rfl,s,C,dx,_,rfl,g2 _ _ s1,T.cl,T.nL,(by show 3<1000; decide),?_⟩;refine λow how=>?_;have sq:s≠lq:=zF s1 hlq;have ow_s:ow≠s:=λz=>by rw [z,zC] at how; cases how
 have ow_q:ow≠lq:=λz=>by rw [z,zI sq.symm,zC] at how; cases how
 have how1:H1 ow=none:=by rwa [zI ow_s,zI ow_q] at how
 refine ⟨_,rfl,s,C,dx,_,rfl,by rw [zI (Ne.symm ow_s)]; exact zC,T.cl,T.nK,(by show 4<1000; decide),?_⟩;obtain ⟨rs,q1,q2,q3⟩:=na1;have st:∀{c:Addr} {o:HO},c≠s->H1 c=some o->∀{o1 o2},(zH (zH (zH (zH H1 lq (.lst ((iv ls).map V.int))) s o1) ow (.dT [])) s o2) c=some o:=λ{c o} hc h {o1 o2}=>by
  rw [zI hc,zI (zF h how1),zI hc,zI (zF h hlq)];exact h
 refine q nr lq ow _ (λc o hc ho=>st hc (ex1 c o hc ho)) ?_ ?_ ⟨rs,q1,st (zw q2 s1 (by intro z; cases z)) q2,λe he=>let ⟨r,r1,r2⟩:=q3 e he; ⟨r,r1,st (zw r2 s1 (by intro z; cases z)) r2⟩⟩ ?_ ?_
 .cases e:H ow with
  | none=>rfl
  | some o=>rw [ex1 _ _ ow_s e] at how1; cases how1
 .rw [zC]
  rfl
 .rw [zI (Ne.symm sq),zI (Ne.symm ow_q),zI (Ne.symm sq),zC]
 .rw [zI ow_s,zC]
abbrev sTr:Stmt:=top 36
abbrev sCr:Stmt:=top 37
abbrev sCg:Stmt:=top 38
def ZF (ns ss:List Int) (ring:Bool):Nat:=ZX (zO ns ss (J4 ns.length ring)) (Zo ns ss ring) (2^ns.length - 1) ns.length
def Ys (ns ss:List Int):Nat:=if ns.length<3 then 0 else ns.length*ZF ns ss true
inductive zFV (C:Addr) (vs:List V) (H:Hp) (Q:VK) (E:XK):Prop
 | mk (t a b:Addr) (ns ss:List Int):vs=[.ref t]->zi H t a b ns ss->(∀(p:SP) (H':Hp),p.n=ns.length->p.near=zO ns ss (List.range ns.length)->p.ends=Zo ns ss false->zE H H'->H p.ow=none->Y0 C p H'->Zm p H' []->Q (.ref p.s) H')->zFV C vs H Q E
inductive Jb (f:List Int->List Int->Nat) (vs:List V) (H:Hp) (Q:VK) (E:XK):Prop
 | mk (t a b:Addr) (ns ss:List Int):vs=[.ref t]->zi H t a b ns ss->(∀H',zE H H'->Q (.int (f ns ss:Nat)) H')->Jb f vs H Q E
theorem zSl:FS 1 ["plan"] sTr:=zm
theorem zRy (F:Fu K "tally_of_rows" sTr f fd) (MT:Mk K C g1) (mT:mg "Tally"=some (.ref C))
  (GI:FnOk P w K mg base zU 4 g1 pH ["self","plan","first_places","last_places"] (zDp C)) (bI:zX K pH ["self","plan","first_places","last_places"] [])
  (GA:Gd P w K mg base 5 g2 pI ["plan"] zBR "all_places"):FnOk P w K mg base zU 6 f fd ["plan"] (zFV C):=by
 refine F.ok zSl ?_ ?_
 .rintro _ _ _ _ ⟨t,a,b,ns,ss,rfl,_⟩
  rfl
 rintro _ A _ s H _ Q E hr ⟨t,a,b,ns,ss,rfl,pl,q⟩;refine ⟨_,(zG (zM (j4 MT GI hr rfl mT bI .nil ze (zA (pv 0) (zA (zL GA hr (zA (pv 0) zB)) (zA (zL GA hr (zA (pv 0) zB)) zB)))))),?_⟩;refine ⟨_,rfl,_,rfl,t,a,b,ns,ss,rfl,pl,λl1 hl1=>?_⟩;have g1:zE H (zH H l1 (.lst ((iv (List.range ns.length)).map V.int))):=zE.new hl1 _;refine ⟨_,rfl,t,a,b,ns,ss,rfl,pl.same g1,λl2 pK=>λx dx nx ndx nex=>?_⟩;have g2:zE (zH H l1 (.lst ((iv (List.range ns.length)).map V.int))) (zH (zH H l1 (.lst ((iv (List.range ns.length)).map V.int))) l2 (.lst ((iv (List.range ns.length)).map V.int))):=zE.new pK _;have e1:(zH (zH H l1 (.lst ((iv (List.range ns.length)).map V.int))) l2 (.lst ((iv (List.range ns.length)).map V.int))) l1=some (.lst ((iv (List.range ns.length)).map V.int)):=g2 _ _ zC;have e2:(zH (zH H l1 (.lst ((iv (List.range ns.length)).map V.int))) l2 (.lst ((iv (List.range ns.length)).map V.int))) l2=some (.lst ((iv (List.range ns.length)).map V.int)):=zC;have g12:=g1.trans g2;generalize zH (zH H l1 (.lst ((iv (List.range ns.length)).map V.int))) l2 (.lst ((iv (List.range ns.length)).map V.int))=H2 at g2 e1 e2 g12 nx ndx ⊢;have g3:zE H2 (zH (zH H2 dx (.own x)) x (.ins C dx [])):=λc o hc=>by
  rw [zI (zF hc nx),zI (zF hc ndx)]; exact hc
 refine ⟨x,t,a,b,l1,l2,dx,ns,ss,List.range ns.length,List.range ns.length,rfl,zC,(pl.same g12).same g3,g3 _ _ e1,g3 _ _ e2,λnr lq ow H3 ex3 how s3 na3 lq3 ow3=>⟨rfl,?_⟩⟩;have g4:zE H H3:=λc o hc=>ex3 c o (zF (g12 _ _ hc) nx) (g3 _ _ (g12 _ _ hc));refine q ⟨ns.length,zO ns ss (List.range ns.length),Zo ns ss false,List.range ns.length,x,dx,nr,lq,ow⟩ H3 rfl rfl rfl g4 (zR (g12.trans g3) how) ⟨s3,na3,lq3,Yz pl.ok (λk hk=>List.mem_range.mp hk) QY,λe he=>?_⟩ ⟨ow3,zBh⟩;have:(List.range ns.length).contains e=true:=List.contains_iff_mem.mpr (List.mem_range.mpr he);rw [this];rfl
theorem zSU:FS 1 ["plan"] sCr:=zm
theorem zRY (F:Fu K "count_rows" sCr f fd) (T:J3 K C) (mW:ZC K C "all_ways" g1)
  (GW:FnOk P w K mg base zU 23 g1 pH ["self"] (zDx C)) (bW:zX K pH ["self"] [])
  (GC:Gd P w K mg base 23 g2 pI ["plan"] yw "check_plan")
  (GT:Gd P w K mg base 23 g3 pJ ["plan"] (zFV C) "tally_of_rows"):FnOk P w K mg base zU 24 f fd ["plan"] (Jb λns ss=>ZF ns ss false):=by
 refine F.ok zSU ?_ ?_
 .rintro _ _ _ _ ⟨t,a,b,ns,ss,rfl,_⟩
  rfl
 rintro _ A _ s H _ Q E hr ⟨t,a,b,ns,ss,rfl,pl,q⟩;refine ⟨_,(zD (zo (zL GC hr (zA (pv 0) zB))) (zG (zM (Zs (zL GT hr (zA (pv 0) zB)) T.cl mW GW hr bW .nil ze)))),?_⟩;refine ⟨_,rfl,t,a,b,ns,ss,rfl,pl,?_⟩;refine ⟨_,rfl,t,a,b,ns,ss,rfl,pl,λp H1 e1 e2 e3 g1 how S hk=>?_⟩;refine ⟨p.s,p.dx,_,rfl,S.at_,rfl,p,[],rfl,S,hk,by rw [e1]; exact pl.ok.n1,λH2 kvs2 ex2 hk2=>?_⟩;have z:=q H2 (λc o hc=>ex2 c o (zF hc how) (g1 _ _ hc));rw [e1,e2,e3];exact z
theorem zTE:FS 1 ["plan"] sCg:=zm
theorem zRM (F:Fu K "count_rings" sCg f fd) (B:Bt3 mg) (T:J3 K C) (m3:mg "FEWEST_IN_RING"=some (.int 3 t3)) (mW:ZC K C "all_ways" g1) (MT:Mk K C g4) (mT:mg "Tally"=some (.ref C))
  (GI:FnOk P w K mg base zU 22 g4 gd4 ["self","plan","first_places","last_places"] (zDp C)) (bI:zX K gd4 ["self","plan","first_places","last_places"] [])
  (GW:FnOk P w K mg base zU 23 g1 pH ["self"] (zDx C)) (bW:zX K pH ["self"] [])
  (GC:Gd P w K mg base 23 g2 pI ["plan"] yw "check_plan")
  (GN:Gd P w K mg base 23 g3 pJ ["plan","number"] zBa "near_places"):FnOk P w K mg base zU 24 f fd ["plan"] (Jb Ys):=by
 refine F.ok zTE ?_ ?_
 .rintro _ _ _ _ ⟨t,a,b,ns,ss,rfl,_⟩
  rfl
 rintro _ A _ s H _ Q E hr ⟨t,a,b,ns,ss,rfl,pl,q⟩;refine ⟨_,(zD (zo (zL GC hr (zA (pv 0) zB))) (zD (zd (zT ji (zP zQ rfl B.len qU (zA (zz zh (pv 0) zJ) zB)) (jR (v:= .int 3) rfl m3 ⟨_,rfl⟩) (zV _)) (zG (zM zJ)) zW) (zG (zM (zS YZ (zP zQ rfl B.len qU (zA (zz zh (pv 0) zJ) zB)) (Zs (j4 MT GI hr rfl mT bI .nil ze (zA (pv 0) (zA (zv (zA zJ zB)) (zA (zL GN hr (zA (pv 0) (zA (zz zx (YR zh (pv 0) zJ (λ_ _=>rfl)) zJ) zB))) zB)))) T.cl mW GW hr bW .nil ze)))))),?_⟩;have hml:(ns.map V.int).length=ns.length:=qA _;have n1:=pl.ok.n1;have n2:=pl.ok.n2;refine ⟨_,rfl,t,a,b,ns,ss,rfl,pl,?_⟩;refine ⟨_,rfl,t,_,0,_,rfl,rfl,ZD.of pl.t,rfl,a,_,rfl, .inl (zK.of pl.a),_,_,rfl,rfl,_,rfl,zr (λc=>?_) (λc=>?_)⟩
 .have c':=qZ c
  rw [hml] at c';have e:Ys ns ss=0:=by unfold Ys; rw [qO (by lia)]
  rw [e] at q;exact q H zE.rfl'
 have c3:¬ns.length<3:=λz=>c (qK (by rw [hml]; lia));have e:Ys ns ss=ns.length*ZF ns ss true:=by unfold Ys; rw [qP c3]
 rw [e] at q;refine ⟨_,rfl,t,_,0,_,rfl,rfl,ZD.of pl.t,rfl,a,_,rfl, .inl (zK.of pl.a),?_⟩;rw [hml];refine ⟨_,rfl,(by show 1<=sizeLine; decide),λl1 hl1=>?_⟩;have g1:zE H (zH H l1 (.lst [.int 0])):=zE.new hl1 _;have p1:=pl.same g1;have e0:ns[0]?=some ns[0]:=qB (by lia);have d0:ns.getD 0 0=ns[0]:=by rw [qC,e0]; rfl
 have el1:(zH H l1 (.lst [.int 0])) l1=some (.lst ((iv [0]).map V.int)):=zC;generalize zH H l1 (.lst [.int 0])=H1 at g1 p1 el1 ⊢;refine ⟨_,rfl,_,rfl,t,_,0,_,rfl,rfl,ZD.of p1.t,rfl,a,_,0,_,rfl,rfl,zK.of p1.a,Zx (j:=0) (by rw [qM,e0]; rfl),t,a,b,ns,ss,ns[0],rfl,p1,λl2 H2 g2 pK e2=>λx dx nx ndx nex=>?_⟩;have g3:zE H2 (zH (zH H2 dx (.own x)) x (.ins C dx [])):=λc o hc=>by
  rw [zI (zF hc nx),zI (zF hc ndx)]; exact hc
 refine ⟨x,t,a,b,l1,l2,dx,ns,ss,[0],yu ns ss ns[0],rfl,zC,(p1.same g2).same g3,g3 _ _ (g2 _ _ el1),g3 _ _ e2,λnr lq ow H3 ex3 how s3 na3 lq3 ow3=>⟨rfl,?_⟩⟩;have g12:=g1.trans g2;have how':H ow=none:=zR (g12.trans g3) how;have g4:zE H H3:=λc o hc=>ex3 c o (zF (g12 _ _ hc) nx) (g3 _ _ (g12 _ _ hc));have S3:Y0 C ⟨ns.length,zO ns ss [0],Zo ns ss true,yu ns ss ns[0],x,dx,nr,lq,ow⟩ H3:=by
  refine ⟨s3,na3,lq3,Yz pl.ok (λk hk=>by rw [List.mem_singleton.mp hk]; lia) (QP _ _),λj hj=>?_⟩;rw [qu];show (yu ns ss ns[0]).contains j=true↔(yu ns ss (ns.getD j 0)).contains 0=true;unfold yu;have hj':j<ns.length:=hj;rw [qw,qw,QZ,QZ,xz,xz,d0,JR];exact ⟨λh=>⟨by lia,h.2⟩,λh=>⟨hj',h.2⟩⟩
 refine ⟨x,dx,_,rfl,S3.at_,rfl,⟨ns.length,zO ns ss [0],Zo ns ss true,yu ns ss ns[0],x,dx,nr,lq,ow⟩,[],rfl,S3,⟨ow3,zBh⟩,n1,λH4 kvs4 ex4 hk4=>?_⟩;refine ⟨_,_,rfl,rfl, .inl ⟨by lia,by lia⟩,?_⟩;have z:=q H4 (λc o hc=>ex4 c o (zF hc how') (g4 _ _ hc));rw [Int.natCast_mul] at z;exact z
abbrev zLv:Stmt:=ZL (top 35) 4
abbrev sSb:Stmt:=ZL (top 35) 5
abbrev sPb:Stmt:=ZL (top 35) 6
abbrev sRb:Stmt:=top 40
def Yh (w:Nat->Nat) (l:List Nat) (k:Nat):Nat:=((l.filter λj=>decide (j<k)).map w).sum
theorem zCm (w:Nat->Nat) (a:Nat) (r:List Nat) (k:Nat):Yh w (a::r) k=(if a<k then w a else 0)+Yh w r k:=by
 unfold Yh;rw [qh];by_cases h:a<k
 .rw [qO (qK h),qO h,qe,X4]
 .rw [qP (by rw [qa h]; exact qR),qP h,XD]
theorem zGI {w:Nat->Nat} {l:List Nat} {k:Nat} (h:∀j∈l,k<=j):Yh w l k=0:=by
 unfold Yh;rw [List.filter_eq_nil_iff.mpr λj hj=>by rw [Qr]; have:=h j hj; lia];rfl
theorem zHa {w:Nat->Nat} {l:List Nat} {k:Nat} (h:∀j∈l,j<k):Yh w l k=(l.map w).sum:=by
 unfold Yh;rw [List.filter_eq_self.mpr λj hj=>qK (h j hj)]
theorem zHZ (w:Nat->Nat) (p q:List Nat) (k:Nat):Yh w (p++q) k=Yh w p k+Yh w q k:=by
 unfold Yh;rw [qz,qN,List.sum_append]
theorem zKE {w:Nat->Nat} {p q:List Nat} {k:Nat} (h:(p++k::q).Pairwise (·<·)):Yh w (p++k::q) k=(p.map w).sum:=by
 obtain ⟨h1,h2,h3⟩:=List.pairwise_append.mp h;have z:Yh w (k::q) k=0:=zGI λj hj=>by
  rcases List.mem_cons.mp hj with y | y
  .lia
  .exact qf (xJ h2 y)
 rw [zHZ,z,zHa (w:=w) (l:=p) (k:=k) λj hj=>h3 j hj k qE];rfl
theorem zGY {w:Nat->Nat} {l:List Nat} {k k':Nat} (hp:l.Pairwise (·<·)) (hk:k∈l) (h:k<k'):Yh w l k+w k<=Yh w l k':=by
 obtain ⟨p,q,e⟩:=XN hk;subst e;rw [zKE hp];obtain ⟨_,_,h3⟩:=List.pairwise_append.mp hp;rw [zHZ,zHa λj hj=>Xh (h3 j hj k qE) h,zCm,qO h];lia
theorem zKw (w:Nat->Nat):∀{l:List Nat},l.Pairwise (·<·)->∀pE<(l.map w).sum,∃k∈l,Yh w l k<=pE/\pE<Yh w l k+w k
 | [],_,pE,h=>v6 h (Qn _)
 | a::r,hp,pE,h=>by
  have hr:∀j∈r,a<j:=λj hj=>xJ hp hj;by_cases ha:pE<w a
  .refine ⟨a,qE,?_⟩
   rw [zCm,qP (QQ _),zGI λj hj=>qf (hr j hj)];lia
  .rw [qe,X4] at h
   obtain ⟨k,hk,h1,h2⟩:=zKw w hp.of_cons (pE - w a) (by lia);refine ⟨k,qF _ hk,?_⟩;rw [zCm,qO (hr k hk)];lia
section
variable (near:Nat->List Nat) (ends:Nat->Bool)
def jo (left e:Nat):List Nat:=(near e).filter λk=>left.testBit k
def wBy (left k:Nat):Nat:=ZX near ends (left - 2^k) k
def Z4 (left e k:Nat):Nat:=Yh (wBy near ends left) (jo near left e) k
def JE (left e pE:Nat):Option Nat:=((jo near left e).filter λk=>decide (Z4 near ends left e k<=pE)).getLast?
def byF:Nat->Nat->Nat->Nat->List Nat
 | 0,_,_,_=>[]
 | m+1,left,e,pE=>match JE near ends left e pE with
  | none=>[]
  | some k=>k::byF m (left - 2^k) k (pE - Z4 near ends left e k)
def jV (left e pE:Nat):List Nat:=byF near ends (ZV left) left e pE
variable {near ends}
theorem zOd {k:Nat} (N:zu near n) (he:e<=n) (hk:k∈jo near left e) (h1:Z4 near ends left e k<=pE) (h2:pE<Z4 near ends left e k+wBy near ends left k):JE near ends left e pE=some k:=by
 have hp:(jo near left e).Pairwise (·<·):=(N.up e he).sublist Q9;obtain ⟨p,q,eq⟩:=XN hk;unfold JE;have hq:q.filter (λk=>decide (Z4 near ends left e k<=pE))=[]:=List.filter_eq_nil_iff.mpr λj hj=>by
  rw [Qr];have pL:k<j:=by
   rw [eq] at hp;exact xJ (List.pairwise_append.mp hp).2.1 hj
  have:=zGY (w:=wBy near ends left) hp hk pL;show ¬Yh (wBy near ends left) (jo near left e) j<=pE;have h2':pE<Yh (wBy near ends left) (jo near left e) k+wBy near ends left k:=h2;lia
 rw [eq,qz,qh,qO (qK h1),hq,xv];rfl
theorem Jh (N:zu near n) (hl:left<1024) (h0:left≠0) (he:e<=n) (h:pE<ZX near ends left e):
  ∃k,k∈jo near left e/\k<n/\left.testBit k=true/\JE near ends left e pE=some k/\Z4 near ends left e k<=pE/\pE - Z4 near ends left e k<ZX near ends (left - 2^k) k/\jV near ends left e pE=k::jV near ends (left - 2^k) k (pE - Z4 near ends left e k):=by
 have hp:(jo near left e).Pairwise (·<·):=(N.up e he).sublist Q9;rw [zAN N hl h0 he] at h;obtain ⟨k,hk,h1,h2⟩:=zKw (wBy near ends left) hp pE h;have pk:=zOd N he hk h1 h2;obtain ⟨k1,k2⟩:=List.mem_filter.mp hk;have hkn:=N.lt e he k k1;have n10:=N.n10;have cd:=(ZQ left hl k (by lia) k2).1;refine ⟨k,hk,hkn,k2,pk,h1,?_,?_⟩
 .have h2':pE<Z4 near ends left e k+ZX near ends (left - 2^k) k:=h2
  have h1':Z4 near ends left e k<=pE:=h1;lia
 .unfold jV
  rw [<-cd];have gen:∀m,byF near ends (m+1) left e pE=k::byF near ends m (left - 2^k) k (pE - Z4 near ends left e k):=λm=>by
   show (match JE near ends left e pE with | none=>[] | some k=>k::byF near ends m (left - 2^k) k (pE - Z4 near ends left e k))=_;rw [pk]
  exact gen _
theorem zKm {n:Nat} (N:zu near n):∀(m left e pE:Nat),e<=n->(∀k∈byF near ends m left e pE,k<n)/\(byF near ends m left e pE).length<=m
 | 0,_,_,_,_=>⟨nofun,qG _⟩
 | m+1,left,e,pE,he=>by
  show (∀k∈(match JE near ends left e pE with | none=>[] | some k=>k::byF near ends m (left - 2^k) k (pE - Z4 near ends left e k)),k<n)/\(match JE near ends left e pE with | none=>[] | some k=>k::byF near ends m (left - 2^k) k (pE - Z4 near ends left e k)).length<=m+1;cases h:JE near ends left e pE with
  | none=>exact ⟨nofun,QF _⟩
  | some k=>
   have hm:k∈jo near left e:=(List.mem_filter.mp (vV h)).1;have hk:=N.lt e he k (List.mem_filter.mp hm).1;obtain ⟨a,b⟩:=zKm N m (left - 2^k) k (pE - Z4 near ends left e k) (qf hk);refine ⟨λx hx=>?_,by show _+1<=_; lia⟩;rcases List.mem_cons.mp hx with z | z
   .rw [z]; exact hk
   .exact a x z
end
inductive zDb (C:Addr) (m:Nat) (vs:List V) (H:Hp) (Q:VK) (E:XK):Prop
 | mk (p:SP) (pB:List (List zZ×V)) (left e k:Nat):vs=[.ref p.s, .int left, .int e, .int k]->Y0 C p H->Zm p H pB->left<2^p.n->ZV left<=m->e<=p.n->(∀(H':Hp) (pC:List (List zZ×V)),Ex (·=p.ow) H H'->Zm p H' pC->Q (.int (Z4 p.near p.ends left e k:Nat)) H')->zDb C m vs H Q E
inductive zLI (C:Addr) (m:Nat) (vs:List V) (H:Hp) (Q:VK) (E:XK):Prop
 | mk (p:SP) (pB:List (List zZ×V)) (left e pE k:Nat):vs=[.ref p.s, .int left, .int e, .int pE]->Y0 C p H->Zm p H pB->left<2^p.n->ZV left<=m->e<=p.n->JE p.near p.ends left e pE=some k->(∀(H':Hp) (pC:List (List zZ×V)),Ex (·=p.ow) H H'->Zm p H' pC->Q (.int (k:Nat)) H')->zLI C m vs H Q E
inductive zAp (C:Addr) (vs:List V) (H:Hp) (Q:VK) (E:XK):Prop
 | mk (p:SP) (pB:List (List zZ×V)) (pE:Nat):vs=[.ref p.s, .int pE]->Y0 C p H->Zm p H pB->1<=p.n->pE<ZX p.near p.ends (2^p.n - 1) p.n->(∀(l:Addr) (H':Hp),Ex (·=p.ow) H H'->H l=none->H' l=some (.lst ((iv (jV p.near p.ends (2^p.n - 1) p.n pE)).map V.int))->Q (.ref l) H')->zAp C vs H Q E
def YY (ns ss:List Int) (pE:Nat):List Int:=(jV (zO ns ss (List.range ns.length)) (Zo ns ss false) (2^ns.length - 1) ns.length pE).map λk=>ns.getD k 0
inductive zLh (vs:List V) (H:Hp) (Q:VK) (E:XK):Prop
 | mk (t a b:Addr) (ns ss:List Int) (pE:Nat):vs=[.ref t, .int pE]->zi H t a b ns ss->pE<ZF ns ss false->(∀(l:Addr) (H':Hp),zE H H'->H l=none->H' l=some (.lst ((YY ns ss pE).map V.int))->Q (.ref l) H')->zLh vs H Q E
theorem zBA {q:Nat->Bool} (hi:i<ks.length):(ks.take (i+1)).filter q=(ks.take i).filter q++if q ks[i]=true then [ks[i]] else []:=by
 have tk:ks.take (i+1)=ks.take i++[ks[i]]:=by rw [QR,qB hi]; rfl
 rw [tk,qz,qh];rfl
theorem zIz:FS 4 ["self","left","end","place"] zLv:=zm
theorem zPZ (F:Zv K "ways_ahead" "Tally.ways_ahead" zLv f fd) (B:jP mg) (T:J3 K C) (mB:ZC K C "ways_by" g2) (mS:ZC K C "steps" g3)
  (GB:FnOk P w K mg base zU j g2 pI ["self","left","place"] (zIs C m)) (bB:zX K pI ["self","left","place"] [])
  (GS:FnOk P w K mg base zU j g3 pJ ["self","left","end"] (YI C)) (bS:zX K pJ ["self","left","end"] []):FnOk P w K mg base zU (j+1) f fd ["self","left","end","place"] (zDb C m):=by
 refine F.ok zIz ?_ ?_
 .rintro _ _ _ _ ⟨p,pB,left,e,k,rfl,_⟩
  rfl
 rintro _ A _ s H _ Q E hr ⟨p,pB,left,e,k0,rfl,S,hd,hl,hc,he,q⟩;have n10:=S.ok.n10;have hl':=S.lt hl;refine ⟨_,(zG (zM (zP (zEp rfl) rfl B.sum boot_sum (zA (ZR ["other"] rfl (bk zIz) (zj (zy (pv 0) T.cl mS GS hr bS .nil ze (zA (pv 1) (zA (pv 2) zB)))) (λpA C fp s3 H3=>⟨(yI zIz),(Zg (zT ji (pv 0) (pv 4) (zV _))),(zy (pv 1) T.cl mB GB hr bB .nil ze (zA (pv 2) (zA (pv 0) zB)))⟩)) zB)))),?_⟩;refine ⟨_,rfl,p.s,p.dx,_,rfl,S.at_,rfl,_,rfl,_,rfl,p.s,p.dx,p.nr,_,p.n,p.near,left,e,rfl,S.at_,rfl,S.nr,S.ok,he,hl',λl H2 g2 hln e2=>⟨l,rfl,⟨_,zK.of e2⟩,λD hD=>?_⟩⟩;have pN:Zm p H2 pB:=⟨g2 _ _ hd.1,hd.2⟩;have lo:l≠p.ow:=zw e2 pN.1 (by intro z; cases z);have Do:p.ow≠D:=zF pN.1 hD;have klen:((p.near e).filter λk=>left.testBit k).length<=10:=qQ (qY _ _) (qQ (jy S.ok he) n10);obtain ⟨ks,eks⟩:∃ks,ks=(p.near e).filter λk=>left.testBit k:=⟨_,rfl⟩;have hmem:∀k∈ks,k<p.n/\left.testBit k=true:=λk hk=>by
  rw [eks] at hk;obtain ⟨h1,h2⟩:=List.mem_filter.mp hk;exact ⟨S.ok.lt e he k h1,h2⟩
 rw [<-eks] at e2 klen;have kml:((iv ks).map V.int).length=ks.length:=by rw [qA,yV]
 refine Zy (n:=ks.length) (λi U' H'=>∃(x:Option V) (pC:List (List zZ×V)),U'=[x,some (.ref p.s),some (.int left),some (.int e),some (.int (k0:Nat))]/\Ex (·=p.ow) H2 H'/\Zm p H' pC/\H' D=some (.lst ((((ks.take i).filter λj=>decide (j<k0)).map λk=>((ZX p.near p.ends (left - 2^k) k:Nat):Int)).map V.int)))
  ⟨none,pB,rfl,Ex.new _ hD,⟨by rw [zI Do]; exact pN.1,pN.2⟩,zC⟩ ?_ ?_
 .rintro i U' H' hi ⟨x,pC,rfl,ex,pO,hD'⟩
  have ek:ks[i]?=some ks[i]:=qB hi;obtain ⟨hkn,hb⟩:=hmem _ (qg hi);have el2:=ex _ _ lo e2;refine ⟨⟨_,_,zK.of el2,yb ek⟩,λy H3 hy=>?_⟩;obtain ⟨rfl,hy⟩:=hy;have ey:=hy _ (zK.of el2);rw [yb ek] at ey;cases ey;have S':Y0 C p H3:=(S.ex hd.1 (Ex.same g2)).ex pN.1 ex;have ec:decide (((ks[i]:Nat):Int)<((k0:Nat):Int))=decide (ks[i]<k0):=decide_eq_decide.mpr (by lia);refine ⟨_,rfl,_,rfl,_,_,rfl,rfl,_,rfl,?_⟩;rw [ec];refine zr (λc=>?_) (λc=>?_)
  .refine ⟨_,rfl,p.s,p.dx,_,rfl,S'.at_,rfl,_,rfl,_,rfl,p,pC,left,ks[i],rfl,S',pO,hl,hb,hkn,hc,λH4 kvs4 ex4 hk4=>?_⟩
   have hD4:=ex4 _ _ (Ne.symm Do) hD';refine ⟨_,hD4,Zb (by rw [qA,qA]; have:=qY (λj=>decide (j<k0)) (ks.take i); rw [QC] at this; lia),_,kvs4,rfl,λc o hc ho=>?_,⟨by rw [zI Do]; exact hk4.1,hk4.2⟩,?_⟩
   .rw [zI (zF ho hD)]
    exact ex4 _ _ hc (ex _ _ hc ho)
   .rw [zC,zBA hi,qO c,qN,qN]
    rfl
  .refine ⟨_,pC,rfl,ex,pO,?_⟩
   rw [zBA hi,qP c,qv];exact hD'
 .rintro U' H' ⟨x,pC,rfl,ex,pO,hD'⟩
  have el2:=ex _ _ lo e2;refine ⟨⟨_,zK.of el2,by rw [kml]; exact qG _⟩,?_⟩;rw [q9 (qG _)] at hD';refine ⟨D,_,rfl,hD',?_⟩;rw [zFg];have z:=q H' pC ((Ex.same g2).trans ex) pO;unfold Z4 Yh jo at z;rw [<-eks] at z;exact z
theorem zLf:FS 4 ["self","left","end","number"] sSb:=zm
theorem zSH (F:Zv K "step_by" "Tally.step_by" sSb f fd) (T:J3 K C) (mA:ZC K C "ways_ahead" g2) (mS:ZC K C "steps" g3)
  (GA:FnOk P w K mg base zU j g2 pI ["self","left","end","place"] (zDb C m)) (bA:zX K pI ["self","left","end","place"] [])
  (GS:FnOk P w K mg base zU j g3 pJ ["self","left","end"] (YI C)) (bS:zX K pJ ["self","left","end"] []):FnOk P w K mg base zU (j+1) f fd ["self","left","end","number"] (zLI C m):=by
 refine F.ok zLf ?_ ?_
 .rintro _ _ _ _ ⟨p,pB,left,e,pE,k,rfl,_⟩
  rfl
 rintro _ A _ s H _ Q E hr ⟨p,pB,left,e,pE,k0,rfl,S,hd,hl,hc,he,hk0,q⟩;have n10:=S.ok.n10;have hl':=S.lt hl;refine ⟨_,(zG (zM (YR zx (ZR ["place"] rfl (bk zLf) (zj (zy (pv 0) T.cl mS GS hr bS .nil ze (zA (pv 1) (zA (pv 2) zB)))) (λpA C fp s3 H3=>⟨(yI zLf),(Zg (zT zDt (zy (pv 1) T.cl mA GA hr bA .nil ze (zA (pv 2) (zA (pv 3) (zA (pv 0) zB)))) (pv 4) (zV _))),(pv 0)⟩)) (Y9 Yc zJ) (λ_ _=>rfl)))),?_⟩;refine ⟨_,rfl,p.s,p.dx,_,rfl,S.at_,rfl,_,rfl,_,rfl,p.s,p.dx,p.nr,_,p.n,p.near,left,e,rfl,S.at_,rfl,S.nr,S.ok,he,hl',λl H2 g2 hln e2=>⟨l,rfl,⟨_,zK.of e2⟩,λD hD=>?_⟩⟩;have pN:Zm p H2 pB:=⟨g2 _ _ hd.1,hd.2⟩;have lo:l≠p.ow:=zw e2 pN.1 (by intro z; cases z);have Do:p.ow≠D:=zF pN.1 hD;have klen:((p.near e).filter λk=>left.testBit k).length<=10:=qQ (qY _ _) (qQ (jy S.ok he) n10);unfold JE jo at hk0;obtain ⟨ks,eks⟩:∃ks,ks=(p.near e).filter λk=>left.testBit k:=⟨_,rfl⟩;rw [<-eks] at e2 klen hk0;have kml:((iv ks).map V.int).length=ks.length:=by rw [qA,yV]
 refine Zy (n:=ks.length) (λi U' H'=>∃(x:Option V) (pC:List (List zZ×V)),U'=[x,some (.ref p.s),some (.int left),some (.int e),some (.int (pE:Nat))]/\Ex (·=p.ow) H2 H'/\Zm p H' pC/\H' D=some (.lst ((iv ((ks.take i).filter λk=>decide (Z4 p.near p.ends left e k<=pE))).map V.int)))
  ⟨none,pB,rfl,Ex.new _ hD,⟨by rw [zI Do]; exact pN.1,pN.2⟩,zC⟩ ?_ ?_
 .rintro i U' H' hi ⟨x,pC,rfl,ex,pO,hD'⟩
  have ek:ks[i]?=some ks[i]:=qB hi;have el2:=ex _ _ lo e2;refine ⟨⟨_,_,zK.of el2,yb ek⟩,λy H3 hy=>?_⟩;obtain ⟨rfl,hy⟩:=hy;have ey:=hy _ (zK.of el2);rw [yb ek] at ey;cases ey;have S':Y0 C p H3:=(S.ex hd.1 (Ex.same g2)).ex pN.1 ex;refine ⟨_,rfl,p.s,p.dx,_,rfl,S'.at_,rfl,_,rfl,_,rfl,_,rfl,p,pC,left,e,ks[i],rfl,S',pO,hl,hc,he,λH4 kvs4 ex4 hk4=>?_⟩;have hD4:=ex4 _ _ (Ne.symm Do) hD';have ec:decide (((Z4 p.near p.ends left e ks[i]:Nat):Int)<=((pE:Nat):Int))=decide (Z4 p.near p.ends left e ks[i]<=pE):=decide_eq_decide.mpr (by lia);refine ⟨_,rfl,_,_,rfl,rfl,_,rfl,?_⟩;rw [ec];refine zr (λc=>?_) (λc=>?_)
  .refine ⟨_,rfl,_,hD4,Zb (by rw [qA,yV]; have:=qY (λk=>decide (Z4 p.near p.ends left e k<=pE)) (ks.take i); rw [QC] at this; lia),_,kvs4,rfl,λc o hc ho=>?_,⟨by rw [zI Do]; exact hk4.1,hk4.2⟩,?_⟩
   .rw [zI (zF ho hD)]
    exact ex4 _ _ hc (ex _ _ hc ho)
   .rw [zC,zBA hi,qO c,Yg,Yg,qN]
    rfl
  .refine ⟨_,kvs4,rfl,ex.trans ex4,hk4,?_⟩
   rw [zBA hi,qP c,qv];exact hD4
 .rintro U' H' ⟨x,pC,rfl,ex,pO,hD'⟩
  have el2:=ex _ _ lo e2;refine ⟨⟨_,zK.of el2,by rw [kml]; exact qG _⟩,?_⟩;rw [q9 (qG _)] at hD';refine ⟨_,rfl,D,_,-1, .int (k0:Nat),rfl,rfl,zK.of hD',?_,q _ _ ((Ex.same g2).trans ex) pO⟩;obtain ⟨r',er'⟩:=List.getLast?_eq_some_iff.mp hk0;rw [er',Yg,qN];exact Jr _ _
theorem Yf:FS 2 ["self","number","places","left","end","place"] sPb:=zm
theorem zIR (F:Zv K "places_by" "Tally.places_by" sPb f fd) (T:J3 K C) (mA:ZC K C "ways_ahead" g1) (mB:ZC K C "step_by" g2)
  (GA:FnOk P w K mg base zU 24 g1 pH ["self","left","end","place"] (zDb C 10)) (bA:zX K pH ["self","left","end","place"] [])
  (GB:FnOk P w K mg base zU 24 g2 pI ["self","left","end","number"] (zLI C 10)) (bB:zX K pI ["self","left","end","number"] []):FnOk P w K mg base zU 25 f fd ["self","number"] (zAp C):=by
 refine F.ok Yf ?_ ?_
 .rintro _ _ _ _ ⟨p,pB,pE,rfl,_⟩
  rfl
 rintro _ A _ s H _ Q E hr ⟨p,pB,num0,rfl,S,hd,n1,hnum0,q⟩;refine ⟨_,(zD (zt 2 Yf.nd (zv zB)) (zD (zt 3 Yf.nd (zk (pv 0) rfl)) (zD (zt 4 Yf.nd (zk (pv 0) rfl)) (zD (YV qi (zDz (pv 3)) (zD (zt 5 Yf.nd (zy (pv 0) T.cl mB GB hr bB .nil ze (zA (pv 3) (zA (pv 4) (zA (pv 1) zB))))) (zD (zt 1 Yf.nd (zS yc (pv 1) (zy (pv 0) T.cl mA GA hr bA .nil ze (zA (pv 3) (zA (pv 4) (zA (pv 5) zB)))))) (zD (zo (YF qk QT QU yY (pv 2) (zA (pv 5) zB))) (zD (zt 3 Yf.nd (zS yc (pv 3) (zS jc zJ (pv 5)))) (zG (zt 4 Yf.nd (pv 5)))))))) (zG (zM (pv 2))))))),?_⟩;refine ⟨by decide,λl hln=>?_⟩;have g1:zE H (zH H l (.lst [])):=zE.new hln _;have lo:l≠p.ow:=λz=>by rw [z,hd.1] at hln; cases hln
 refine ⟨_,rfl,p.s,C,p.dx,fsT p,_,rfl,g1 _ _ S.at_,T.cl,T.nW,rfl,_,rfl,p.s,C,p.dx,fsT p,_,rfl,g1 _ _ S.at_,T.cl,T.nA,rfl,?_⟩;have hp2:2^p.n - 1<2^p.n:=vT (QO _) (by decide);have S1:=S.ex hd.1 (Ex.same g1);have hd1:Zm p (zH H l (.lst [])) pB:=⟨g1 _ _ hd.1,hd.2⟩;dsimp only [ZW,JL];refine yy (λU H'=>∃(x5:Option V) (pre:List Nat) (left e pE:Nat) (pC:List (List zZ×V)),U=[some (.ref p.s),some (.int (pE:Nat)),some (.ref l),some (.int left),some (.int e),x5]/\Ex (λb=>b=p.ow\/b=l) (zH H l (.lst [])) H'/\H' l=some (.lst ((iv pre).map V.int))/\Y0 C p H'/\Zm p H' pC/\left<2^p.n/\e<=p.n/\pre.length+ZV left<=10/\
   pE<ZX p.near p.ends left e/\pre++jV p.near p.ends left e pE=jV p.near p.ends (2^p.n - 1) p.n num0)
  (λU _=>zCG 3 U) ⟨none,[],2^p.n - 1,p.n,num0,pB,rfl,Ex.refl,zC,S1,hd1,hp2,qG _,by have:=yr _ (S.lt hp2); simpa using this,hnum0,rfl⟩ ?_
 rintro U H' ⟨x5,pre,left,e,pE,pC,rfl,ex,hl,S',pO,pL,he,pF,hnum,hpath⟩;have hl':=S.lt pL;refine ⟨_,rfl,_,rfl,zr (λc=>?_) (λc=>?_)⟩
 .have h0:left≠0:=λz=>by subst z; exact v6 c (by decide)
  obtain ⟨k,hkm,hkn,hb,ek,hw1,hw2,hcons⟩:=Jh S.ok hl' h0 he hnum;have n10:=S.ok.n10;have hdec:=ZQ left hl' k (by lia) hb;refine jO (H:=H') (μ:=λU _=>zCG 3 U) ?_;refine ⟨_,rfl,p.s,p.dx,_,rfl,S'.at_,rfl,_,rfl,_,rfl,_,rfl,p,pC,left,e,pE,k,rfl,S',pO,pL,yr _ hl',he,ek,λH2 kvs2 ex2 hk2=>?_⟩;have S2:=S'.ex pO.1 ex2;refine ⟨_,rfl,_,rfl,p.s,p.dx,_,rfl,S2.at_,rfl,_,rfl,_,rfl,_,rfl,p,kvs2,left,e,k,rfl,S2,hk2,pL,yr _ hl',he,λH3 kvs3 ex3 hk3=>⟨_,_,rfl,rfl,?_⟩⟩;have hl3:=ex3 _ _ lo (ex2 _ _ lo hl);have exa:Ex (λb=>b=p.ow\/b=l) (zH H l (.lst [])) H3:=ex.trans ((ex2.trans ex3).wide λb z=> .inl z);refine ⟨_,rfl, .inl ⟨rfl,_,zK.of hl3⟩,_,rfl,l,_,_,rfl,rfl,hl3,Zb (by rw [qA,yV]; lia),?_⟩;refine ⟨_,rfl,_,rfl,_,_,rfl,rfl,⟨by show (0:Int)<=(k:Int); lia,by show (k:Int)<=1000000; lia,by decide⟩,_,_,rfl,rfl,?_⟩;refine ⟨_,rfl,?_⟩;have st:∀{b:Addr} {o u:HO},H3 b=some o->(∀xs,o≠ .lst xs)->zH H3 l u b=some o:=λ{b o u} h nl=>by
   rw [zI (zw h hl3 (nl _))]; exact h
  refine ⟨⟨some (.int (k:Nat)),pre++[k],left - 2^k,k,pE - Z4 p.near p.ends left e k,kvs3,?_,exa.trans (Ex.put _ (.inr rfl)),?_,?_,⟨st hk3.1 (λ_ z=>by cases z),hk3.2⟩,by lia,by lia,?_,hw2,?_⟩,?_⟩
  .rw [<-JD left k (Y6 hb),show ((pE - Z4 p.near p.ends left e k:Nat):Int)=((pE:Nat):Int) - ((Z4 p.near p.ends left e k:Nat):Int) by lia]
   rfl
  .rw [zC,Yg,Yg,qN]
   rfl
  .obtain ⟨rs,q1,q2,q3⟩:=S.nr
   have keep:∀{b:Addr} {o:HO},H b=some o->b≠p.ow->∀{u},zH H3 l u b=some o:=λ{b o} h nb {u}=>by
    have nbl:b≠l:=zF h hln;rw [zI nbl];exact exa _ _ (λz=>z.elim nb nbl) (g1 _ _ h)
   have now:∀{b:Addr} {o:HO},H b=some o->(∀pB,o≠ .dT pB)->b≠p.ow:=λ{b o} h nd z=>nd pB (by rw [z,hd.1] at h; exact (Option.some.inj h).symm);exact ⟨keep S.at_ (now S.at_ (λ_ z=>by cases z)),⟨rs,q1,keep q2 (now q2 (λ_ z=>by cases z)),λe he=>let ⟨r,r1,r2⟩:=q3 e he; ⟨r,r1,keep r2 (now r2 (λ_ z=>by cases z))⟩⟩,keep S.lp (now S.lp (λ_ z=>by cases z)),S.ok,S.le⟩
  .rw [qJ]
   show pre.length+1+ZV (left - 2^k)<=10;lia
  .rw [<-hpath,hcons,xS]
   rfl
  .show ((left:Int) - 1*2^((k:Int)).toNat).toNat<((left:Int)).toNat
   rw [JD left k (Y6 hb)];lia
 .have h0:left=0:=by
   rcases XM left with z | z
   .exact z
   .exact v6 (by simp; lia) c
  subst h0;have bz:jV p.near p.ends 0 e pE=[]:=rfl;rw [bz,qv] at hpath;rw [hpath] at hl;refine ⟨_,rfl,q l H' (λb o hb' ho=>?_) hln hl⟩;have nbl:b≠l:=zF ho hln;exact ex _ _ (λz=>z.elim hb' nbl) (g1 _ _ ho)
theorem zPT:FS 2 ["plan","number","tally"] sRb:=zm
theorem zRX (F:Fu K "row_by" sRb f fd) (T:J3 K C) (mW:ZC K C "all_ways" g1) (mP:ZC K C "places_by" g5)
  (GW:FnOk P w K mg base zU 25 g1 pH ["self"] (zDx C)) (bW:zX K pH ["self"] [])
  (GP:FnOk P w K mg base zU 25 g5 gd5 ["self","number"] (zAp C)) (bP:zX K gd5 ["self","number"] [])
  (GC:Gd P w K mg base 25 g2 pI ["plan"] yw "check_plan")
  (GT:Gd P w K mg base 25 g3 pJ ["plan"] (zFV C) "tally_of_rows")
  {g7:Addr} {gd7:FuncData}
  (GI:Gd P w K mg base 25 g6 gd6 ["thing"] Yw "is_whole")
  (GN:Gd P w K mg base 25 g7 gd7 ["plan","places"] zBO "numbers_at"):FnOk P w K mg base zU 26 f fd ["plan","number"] zLh:=by
 refine F.ok zPT ?_ ?_
 .rintro _ _ _ _ ⟨t,a,b,ns,ss,pE,rfl,_⟩
  rfl
 rintro _ A _ s H _ Q E hr ⟨t,a,b,ns,ss,pE,rfl,pl,hnum,q⟩;refine ⟨_,(zD (zo (zL GC hr (zA (pv 0) zB))) (zD (zt 2 zPT.nd (zL GT hr (zA (pv 0) zB))) (zD (zd (PW.pt (yi (Zi (ZN (zL GI hr (zA (pv 1) zB)))) (yA (Zi (zFj zDt ji zJ (pv 1) (Zs (pv 2) T.cl mW GW hr bW .nil ze)))))) (zG yS) zW) (zG (zM (zL GN hr (zA (pv 0) (zA (zy (pv 2) T.cl mP GP hr bP .nil ze (zA (pv 1) zB)) zB)))))))),?_⟩;refine ⟨_,rfl,t,a,b,ns,ss,rfl,pl,?_⟩;refine ⟨_,rfl,t,a,b,ns,ss,rfl,pl,λp H1 e1 e2 e3 g1 how S hk=>?_⟩;have n1:1<=p.n:=by rw [e1]; exact pl.ok.n1
 have ew:ZX p.near p.ends (2^p.n - 1) p.n=ZF ns ss false:=by rw [e1,e2,e3]; rfl
 refine ⟨_,rfl,_,rfl,_,rfl,ZG ?_⟩;refine ⟨_,rfl,_,_,rfl,rfl,_,rfl,zr (λ_=>?_) (λc=>v6 (qK (by lia)) c)⟩;refine ⟨_,rfl,p.s,p.dx,_,rfl,S.at_,rfl,p,[],rfl,S,hk,n1,λH2 kvs2 ex2 hk2=>⟨_,_,rfl,rfl,_,rfl,?_⟩⟩;rw [ew,qK (show ((pE:Nat):Int)<((ZF ns ss false:Nat):Int) by lia)];refine ZG ?_;have S2:=S.ex hk.1 ex2;refine ⟨_,rfl,_,rfl,p.s,p.dx,_,rfl,S2.at_,rfl,_,rfl,p,kvs2,pE,rfl,S2,hk2,n1,by rw [ew]; exact hnum,λl H3 ex3 hl3 el3=>?_⟩;have g2:zE H H2:=λc o hc=>ex2 c o (zF hc how) (g1 _ _ hc);have g3:zE H H3:=λc o hc=>ex3 c o (zF hc how) (g2 _ _ hc);rw [e1,e2,e3] at el3;have N:zu (zO ns ss (List.range ns.length)) ns.length:=Yz pl.ok (λk hk=>List.mem_range.mp hk) QY;obtain ⟨lt,len⟩:=zKm (ends:=Zo ns ss false) N (ZV (2^ns.length - 1)) (2^ns.length - 1) ns.length pE (qG _);have wl:2^ns.length - 1<1024:=by have:=Y5 ns.length (by have:=pl.ok.n2; lia); have:=QO ns.length; lia
 have c10:=yr _ wl;refine ⟨t,a,b,l,ns,ss,jV (zO ns ss (List.range ns.length)) (Zo ns ss false) (2^ns.length - 1) ns.length pE,rfl,pl.same g3,el3,qQ len (qQ c10 (by decide)),lt,?_⟩;intro l2 H6 g6 hl6 e6;exact q l2 H6 (g3.trans g6) (zR g3 hl6) e6
abbrev sNa:Stmt:=ZL (top 35) 7
section
variable (near:Nat->List Nat) (ends:Nat->Bool)
def zBX:Nat->Nat->List Nat->Nat
 | _,_,[]=>0
 | left,e,k::r=>Z4 near ends left e k+zBX (left - 2^k) k r
end
def InL:Nat->List Nat->Prop
 | _,[]=>True
 | left,k::r=>left.testBit k=true/\InL (left - 2^k) r
theorem zHQ:∀m<1024,∀k<10,m.testBit k=true->∀j<10,(m - 2^k).testBit j=(m.testBit j&&decide (j≠k)):=by decide +kernel
theorem zKd:∀{ks:List Nat} {left:Nat},left<1024->ks.Nodup->(∀k∈ks,k<10/\left.testBit k=true)->InL left ks
 | [],_,_,_,_=>trivial
 | k::r,left,hl,nd,h=>by
  obtain ⟨k10,hb⟩:=h k qE;obtain ⟨nk,nd'⟩:=List.nodup_cons.mp nd;refine ⟨hb,zKd (Qq (vn _ _) hl) nd' λj hj=>?_⟩;obtain ⟨j10,jb⟩:=h j (qF _ hj);refine ⟨j10,?_⟩;rw [zHQ left hl k k10 hb j j10,jb,qK (p:=j≠k) λz:j=k=>nk (z▸hj)];rfl
theorem zKk {near:Nat->List Nat} {ends:Nat->Bool} {n:Nat} (N:zu near n):∀(m left e pE:Nat),ZV left=m->left<1024->e<=n->pE<ZX near ends left e->zBX near ends left e (jV near ends left e pE)=pE
 | 0,left,e,pE,hc,hl,he,h=>by
  have z:=yC left hl hc;subst z;have h1:ZX near ends 0 e<=1:=by
   show (if ends e then 1 else 0)<=1;split <;> decide
  show 0=pE;lia
 | m+1,left,e,pE,hc,hl,he,h=>by
  have h0:left≠0:=λz=>by
   have c0:ZV 0=0:=by decide
   rw [z,c0] at hc;lia
  obtain ⟨k,hk,hkn,hb,pk,h1,h2,hc2⟩:=Jh N hl h0 he h;have n10:=N.n10;have cd:=(ZQ left hl k (by lia) hb).1;rw [hc2];show Z4 near ends left e k+zBX near ends (left - 2^k) k (jV near ends (left - 2^k) k (pE - Z4 near ends left e k))=pE;rw [zKk N m (left - 2^k) k (pE - Z4 near ends left e k) (by lia) (Qq (vn _ _) hl) (by lia) h2];lia
def zNL (near:Nat->List Nat):Nat->List Nat->Prop
 | _,[]=>True
 | e,k::r=>k∈near e/\zNL near k r
theorem zHS {near:Nat->List Nat} {ends:Nat->Bool} {n:Nat} (N:zu near n):∀(m left e pE:Nat),ZV left=m->left<1024->e<=n->pE<ZX near ends left e->(jV near ends left e pE).length=m/\(jV near ends left e pE).Nodup/\(∀k∈jV near ends left e pE,k<n/\left.testBit k=true)/\zNL near e (jV near ends left e pE)
 | 0,left,e,pE,hc,hl,he,h=>by
  have z:=yC left hl hc;subst z;exact ⟨rfl,qr,nofun,trivial⟩
 | m+1,left,e,pE,hc,hl,he,h=>by
  have h0:left≠0:=λz=>by
   have c0:ZV 0=0:=by decide
   rw [z,c0] at hc;lia
  obtain ⟨k,hk,hkn,hb,pk,h1,h2,hc2⟩:=Jh N hl h0 he h;have n10:=N.n10;have cd:=(ZQ left hl k (by lia) hb).1;obtain ⟨a1,a2,a3,a4⟩:=zHS N m (left - 2^k) k (pE - Z4 near ends left e k) (by lia) (Qq (vn _ _) hl) (by lia) h2;have a5:∀j∈jV near ends (left - 2^k) k (pE - Z4 near ends left e k),left.testBit j=true/\j≠k:=λj hj=>by
   obtain ⟨j1,j2⟩:=a3 j hj;rw [zHQ left hl k (by lia) hb j (by lia),QV,Qr] at j2;exact j2
  rw [hc2];refine ⟨by rw [qT,a1],List.nodup_cons.mpr ⟨λz=>(a5 k z).2 rfl,a2⟩,λj hj=>?_,(List.mem_filter.mp hk).1,a4⟩;rcases List.mem_cons.mp hj with z | z
  .rw [z]; exact ⟨hkn,hb⟩
  .exact ⟨(a3 j z).1,(a5 j z).1⟩
inductive zMf (C:Addr) (vs:List V) (H:Hp) (Q:VK) (E:XK):Prop
 | mk (p:SP) (pB:List (List zZ×V)) (l:Addr) (ks:List Nat):vs=[.ref p.s, .ref l]->Y0 C p H->Zm p H pB->H l=some (.lst ((iv ks).map V.int))->InL (2^p.n - 1) ks->(∀k∈ks,k<p.n)->(∀(H':Hp) (pC:List (List zZ×V)),Ex (·=p.ow) H H'->Zm p H' pC->Q (.int (zBX p.near p.ends (2^p.n - 1) p.n ks:Nat)) H')->zMf C vs H Q E
theorem zBr:FS 2 ["self","places","number","left","end","place"] sNa:=zm
theorem zRP (F:Zv K "number_at" "Tally.number_at" sNa f fd) (T:J3 K C) (mA:ZC K C "ways_ahead" g1)
  (GA:FnOk P w K mg base zU j g1 pH ["self","left","end","place"] (zDb C 10)) (bA:zX K pH ["self","left","end","place"] []):FnOk P w K mg base zU (j+1) f fd ["self","places"] (zMf C):=by
 refine F.ok zBr ?_ ?_
 .rintro _ _ _ _ ⟨p,pB,l,ks,rfl,_⟩
  rfl
 rintro _ A _ s H _ Q E hr ⟨p,pB,l,ks,rfl,S,hd,hl,hin,pL,q⟩;have n10:=S.ok.n10;have hp2:2^p.n - 1<2^p.n:=vT (QO _) (by decide);have lo:l≠p.ow:=zw hl hd.1 (by intro z; cases z);refine ⟨_,(zD (zt 2 zBr.nd zJ) (zD (zt 3 zBr.nd (zk (pv 0) rfl)) (zD (zt 4 zBr.nd (zk (pv 0) rfl)) (zD (Zq qi rfl (zj (pv 1)) (Yk 5 zBr.nd) (zD (zt 2 zBr.nd (zS ZA (pv 2) (zy (pv 0) T.cl mA GA hr bA .nil ze (zA (pv 3) (zA (pv 4) (zA (pv 5) zB)))))) (zD (zt 3 zBr.nd (zS yc (pv 3) (zS jc zJ (pv 5)))) (zG (zt 4 zBr.nd (pv 5)))))) (zG (zM (pv 2))))))),?_⟩;refine ⟨_,rfl,p.s,C,p.dx,fsT p,_,rfl,S.at_,T.cl,T.nW,rfl,_,rfl,p.s,C,p.dx,fsT p,_,rfl,S.at_,T.cl,T.nA,rfl,?_⟩;refine ⟨_,rfl,l,rfl,⟨_,zK.of hl⟩,?_⟩;refine yz (xs:=(iv ks).map V.int) (λi U H'=>∃(x5:Option V) (left e pE:Nat) (pC:List (List zZ×V)),U=[some (.ref p.s),some (.ref l),some (.int (pE:Nat)),some (.int left),some (.int e),x5]/\Ex (·=p.ow) H H'/\Zm p H' pC/\left<2^p.n/\e<=p.n/\InL left (ks.drop i)/\pE+zBX p.near p.ends left e (ks.drop i)=zBX p.near p.ends (2^p.n - 1) p.n ks)
  ⟨none,2^p.n - 1,p.n,0,pB,rfl,Ex.refl,hd,hp2,qG _,hin,XD _⟩ (λi U H' _ ⟨_,_,_,_,_,_,ex,_⟩=>zK.of (ex _ _ lo hl)) ?_ ?_
 .rintro i x U H' hxi ⟨x5,left,e,pE,pC,rfl,ex,pO,hlf,he,hi,hsum⟩
  rw [Yg,qM] at hxi;cases hk:ks[i]? with
  | none=>rw [hk] at hxi; cases hxi
  | some k=>
   rw [hk] at hxi;cases hxi;obtain ⟨hii,ek⟩:=List.getElem?_eq_some_iff.mp hk;rw [xK hii,ek] at hi hsum;obtain ⟨hb,hi'⟩:=hi;have hkn:=pL k (qp hk);have S':Y0 C p H':=S.ex hd.1 ex;refine ⟨_,rfl,_,rfl,p.s,p.dx,_,rfl,S'.at_,rfl,_,rfl,_,rfl,_,rfl,p,pC,left,e,k,rfl,S',pO,hlf,yr _ (S.lt hlf),he,λH3 kvs3 ex3 hk3=>⟨_,_,rfl,rfl,?_⟩⟩;refine ⟨_,rfl,_,rfl,_,_,rfl,rfl,⟨by show (0:Int)<=(k:Int); lia,by show (k:Int)<=1000000; lia,by decide⟩,_,_,rfl,rfl,?_⟩;refine ⟨_,rfl,?_⟩;refine ⟨some (.int (k:Nat)),left - 2^k,k,pE+Z4 p.near p.ends left e k,kvs3,?_,ex.trans ex3,hk3,Qq (vn _ _) hlf,by lia,hi',?_⟩
   .rw [<-JD left k (Y6 hb)]
    rfl
   .rw [<-hsum]
    show pE+Z4 p.near p.ends left e k+_=pE+(Z4 p.near p.ends left e k+_);lia
 .rintro U H' ⟨x5,left,e,pE,pC,rfl,ex,pO,hlf,he,hi,hsum⟩
  have el:((iv ks).map V.int).length=ks.length:=by rw [qA,yV]
  rw [el,List.drop_length] at hsum;have e0:pE=zBX p.near p.ends (2^p.n - 1) p.n ks:=hsum;refine ⟨_,rfl,?_⟩;rw [e0];exact q H' pC ex pO
abbrev sNb:Stmt:=top 26
abbrev sLw:Stmt:=top 13
abbrev sHo:Stmt:=top 27
abbrev zLd:Stmt:=top 28
abbrev zLm:Stmt:=top 29
def nbB (ss:List Int) (zs:List Int):Bool:=(List.range (zs.length - 1)).all λi=>zY ss (zs.getD i 0) (zs.getD (i+1) 0)
def Zh (ns ss zs:List Int):Bool:=zs.isPerm ns&&nbB ss zs
def ZK (ns ss zs:List Int):Bool:=Zh ns ss zs&& !decide (zs.length<3)&&zY ss (zs.getD (zs.length - 1) 0) (zs.getD 0 0)
inductive zIE (vs:List V) (H:Hp) (Q:VK) (E:XK):Prop
 | mk (t a b p:Addr) (ns ss zs:List Int):vs=[.ref t, .ref p]->zi H t a b ns ss->H p=some (.lst (zs.map V.int))->zs.length<64->(∀H',zE H H'->Q (.bl (nbB ss zs)) H')->zIE vs H Q E
inductive zJG (vs:List V) (H:Hp) (Q:VK) (E:XK):Prop
 | mk (p:Addr) (zs:List Int):vs=[.ref p]->H p=some (.lst (zs.map V.int))->zs.length<64->(∀H',zE H H'->Q (.bl true) H')->zJG vs H Q E
inductive zNT (vs:List V) (H:Hp) (Q:VK) (E:XK):Prop
 | mk (t a b p:Addr) (ns ss zs:List Int):vs=[.ref t, .ref p]->zi H t a b ns ss->H p=some (.lst (zs.map V.int))->zs.length<64->(∀H',zE H H'->Q (.bl (zs.isPerm ns)) H')->zNT vs H Q E
inductive zDJ (vs:List V) (H:Hp) (Q:VK) (E:XK):Prop
 | mk (t a b p:Addr) (ns ss zs:List Int):vs=[.ref t, .ref p]->zi H t a b ns ss->H p=some (.lst (zs.map V.int))->zs.length<64->(∀H',zE H H'->Q (.bl (Zh ns ss zs)) H')->zDJ vs H Q E
inductive zIx (vs:List V) (H:Hp) (Q:VK) (E:XK):Prop
 | mk (t a b p:Addr) (ns ss zs:List Int):vs=[.ref t, .ref p]->zi H t a b ns ss->H p=some (.lst (zs.map V.int))->zs.length<64->(∀H',zE H H'->Q (.bl (ZK ns ss zs)) H')->zIx vs H Q E
theorem zTA (zs:List Int):JO (zs.map V.int) (some 1) none=(zs.drop 1).map V.int:=by
 unfold JO;have h1:HT.Yj (zs.map V.int).length 0 (some 1)=min 1 zs.length:=by
  unfold HT.Yj;rw [qA];simp
 have h2:HT.Yj (zs.map V.int).length (zs.map V.int).length none=zs.length:=by
  unfold HT.Yj;rw [qA]
 rw [h1,h2];cases zs with
 | nil=>rfl
 | cons x r=>
  have e:min 1 (x::r).length=1:=by rw [qT]; lia
  rw [e,qe,List.drop_succ_cons,v4,List.drop_succ_cons,v4,qT,Xi,<-qA (f:=V.int),xF]
theorem zCQ:∀{xs ys:List Int},xs.Perm ys->xs.Pairwise (·<=·)->ys.Pairwise (·<=·)->xs=ys
 | [],ys,h,_,_=>by rw [List.nil_perm.mp h]
 | x::xs,ys,h,hx,hy=>by
  cases ys with
  | nil=>exact v6 h.length_eq (by simp)
  | cons y ys=>
   have hx':=List.pairwise_cons.mp hx;have hy':=List.pairwise_cons.mp hy;have e:x=y:=by
    have m1:y∈x::xs:=h.mem_iff.mpr qE;have m2:x∈y::ys:=h.mem_iff.mp qE;rcases List.mem_cons.mp m1 with z | z
    .exact z.symm
    .rcases List.mem_cons.mp m2 with z' | z'
     .exact z'
     .have:=hx'.1 y z
      have:=hy'.1 x z';lia
   subst e;rw [zCQ h.cons_inv hx'.2 hy'.2]
theorem zOL (hn:ns.Pairwise (·<·)) (hp:ys.Perm zs) (hs:ys.Pairwise (·<=·)):(ys==ns)=zs.isPerm ns:=by
 rw [qu,Xo,List.isPerm_iff];constructor
 .intro e
  rw [<-e];exact hp.symm
 .intro h
  exact zCQ (hp.trans h) hs (hn.imp λh=>Int.le_of_lt h)
theorem zLc:FS 2 ["plan","numbers"] sNb:=zm
theorem zRV (F:Fu K "are_neighbours" sNb f fd) (B:jP mg)
  (GA:Gd P w K mg base 1 g1 pH ["plan","one","other"] zBE "add_up"):FnOk P w K mg base zU 2 f fd ["plan","numbers"] zIE:=by
 refine F.ok zLc ?_ ?_
 .rintro _ _ _ _ ⟨t,a,b,p,ns,ss,zs,rfl,_⟩
  rfl
 rintro _ A _ s H _ Q E hr ⟨t,a,b,p,ns,ss,zs,rfl,pl,hp,h64,q⟩;refine ⟨_,(zG (zM (zP (zBW rfl) rfl B.all boot_all (zA (ZR ["one","other"] rfl (bk zLc) (zPF rfl B.zip (zA (pv 1) (zA (j6 Ji (pv 1) (Je zJ) Jd) zB))) (λpA C fp s3 H3=>⟨(zHk (n:=2) K rfl (Yq (yI zLc) (Yq (jw (i:=1) (show (zAQ ["one","other"] ["plan","numbers"]).Nodup by decide +kernel) rfl (Or.inl rfl)) zCE))),yN,(zL GA hr (zA (pv 2) (zA (pv 0) (zA (pv 1) zB))))⟩)) zB)))),?_⟩;refine ⟨_,rfl,_,rfl,1,rfl,p,_,rfl,zK.of hp,λl2 pK=>?_⟩;rw [zTA];have g2:zE H (zH H l2 (.lst ((zs.drop 1).map V.int))):=zE.new pK _;have e2:(zH H l2 (.lst ((zs.drop 1).map V.int))) l2=some (.lst ((zs.drop 1).map V.int)):=zC;generalize zH H l2 (.lst ((zs.drop 1).map V.int))=H2 at g2 e2 ⊢;refine ⟨p,l2,_,_,rfl,g2 _ _ hp,e2,λD hD=>?_⟩;refine zKG (n:=zs.length - 1) (U:=[some (.ref t),some (.ref p)]) (xs:=zs.map V.int) (ys:=(zs.drop 1).map V.int) (λ_=>true) (λi=> .bl (zY ss (zs.getD i 0) (zs.getD (i+1) 0))) (g2 _ _ hp) e2 (by rw [qA,qA,Qg]; lia) hD (by lia) (λi H' hi g P hP=>?_) (λi H' hi _ g P hP=>?_) λH3 g3 e3=>?_
 .exact hP _ zE.rfl'
 .have d1:(zs.map V.int).getD i .non= .int (zs.getD i 0):=yJ _ (by omega)
  have d2:((zs.drop 1).map V.int).getD i .non= .int (zs.getD (i+1) 0):=by
   rw [yJ _ (by rw [Qg]; omega)];congr 1;rw [qC,qC,List.getElem?_drop,Nat.add_comm]
  rw [d1,d2];exact ⟨_,rfl,_,rfl,_,rfl,t,a,b,ns,ss,_,_,rfl,(pl.same g2).same g,hP _ zE.rfl'⟩
 .refine ⟨D,(List.range (zs.length - 1)).map λi=>zY ss (zs.getD i 0) (zs.getD (i+1) 0),rfl,zK.of (by rw [e3,zBQ,qo]; rfl),?_⟩
  have e:((List.range (zs.length - 1)).map λi=>zY ss (zs.getD i 0) (zs.getD (i+1) 0)).all id=nbB ss zs:=by
   unfold nbB;rw [vq];rfl
  rw [e];exact q H3 (g2.trans g3)
theorem zLQ:FS 1 ["thing"] sLw:=zm
theorem zSL (F:Fu K "is_list_of_wholes" sLw f fd) (B:jP mg)
  (GW:Gd P w K mg base 1 g1 pH ["thing"] Yw "is_whole"):FnOk P w K mg base zU 2 f fd ["thing"] zJG:=by
 refine F.ok zLQ ?_ ?_
 .rintro _ _ _ _ ⟨p,zs,rfl,_⟩
  rfl
 rintro _ A _ s H _ Q E hr ⟨p,zs,rfl,hp,h64,q⟩;refine ⟨_,(zG (zM (YL (zP (Ju "list") rfl B.isinstance Xd (zA (pv 0) (zA (zAb (v:= .ty "list") rfl B.list qq rfl) zB))) (yf (zP (zBW rfl) rfl B.all boot_all (zA (ZR ["number"] rfl (bk zLQ) (zj (pv 0)) (λpA C fp s3 H3=>⟨(yI zLQ),yN,(zL GW hr (zA (pv 0) zB))⟩)) zB)))))),?_⟩;have zml:(zs.map V.int).length=zs.length:=qA _;refine ⟨_,rfl,_,_,true,rfl, .lst hp,rfl,_,rfl,Yu ?_⟩;refine ⟨_,rfl,p,rfl,⟨_,zK.of hp⟩,λD hD=>?_⟩;refine yt (U:=[some (.ref p)]) (xs:=zs.map V.int) (λ_=>true) (λ_=> .bl true) (zK.of hp) hD (by lia) (λi H' hi g P hP=>?_) (λi H' hi _ g P hP=>?_) λH2 g2 e2=>?_
 .exact hP _ zE.rfl'
 .rw [yJ _ (by rw [zml] at hi; exact hi)]
  exact ⟨_,rfl,_,rfl,hP _ zE.rfl'⟩
 refine ⟨D,(List.range zs.length).map λ_=>true,rfl,zK.of (by rw [e2,zBQ,qo,zml]; rfl),?_⟩;have et:((List.range zs.length).map λ_=>true).all id=true:=by
  rw [vq];exact List.all_eq_true.mpr λ_ _=>rfl
 rw [et];exact q _ g2
theorem zSa:FS 2 ["plan","thing"] sHo:=zm
theorem zRS (F:Fu K "holds_all" sHo f fd) (B:jP mg)
  (GL:Gd P w K mg base 2 g1 pH ["thing"] zJG "is_list_of_wholes"):FnOk P w K mg base zU 3 f fd ["plan","thing"] zNT:=by
 refine F.ok zSa ?_ ?_
 .rintro _ _ _ _ ⟨t,a,b,p,ns,ss,zs,rfl,_⟩
  rfl
 rintro _ A _ s H _ Q E hr ⟨t,a,b,p,ns,ss,zs,rfl,pl,hp,h64,q⟩;refine ⟨_,(zG (zM (YL (zL GL hr (zA (pv 1) zB)) (yf (ZT (zAc hr.units) (zP Ye rfl B.sorted xx (zA (pv 1) zB)) (zz zh (pv 0) zJ) (zV _)))))),?_⟩;refine ⟨_,rfl,p,zs,rfl,hp,h64,λH2 g2=>⟨_,rfl,Yu ?_⟩⟩;refine ⟨_,rfl,p,zs,rfl,zK.of (g2 _ _ hp),h64,λl ys hl hperm hle=>?_⟩;have g3:zE H2 (zH H2 l (.lst (ys.map V.int))):=zE.new hl _;have px:=(pl.same g2).same g3;refine ⟨_,rfl,t,_,0,_,rfl,rfl,ZD.of px.t,rfl,_,jF (zK.of zC) (zK.of px.a),?_⟩;rw [zOL pl.ok.n.up hperm hle];exact q _ (g2.trans g3)
theorem zRG:FS 2 ["plan","thing"] zLd:=zm
theorem zPR (F:Fu K "is_row" zLd f fd)
  (GC:Gd P w K mg base 4 g1 pH ["plan"] yw "check_plan")
  (GH:Gd P w K mg base 4 g2 pI ["plan","thing"] zNT "holds_all")
  (GN:Gd P w K mg base 4 g3 pJ ["plan","numbers"] zIE "are_neighbours"):FnOk P w K mg base zU 5 f fd ["plan","thing"] zDJ:=by
 refine F.ok zRG ?_ ?_
 .rintro _ _ _ _ ⟨t,a,b,p,ns,ss,zs,rfl,_⟩
  rfl
 rintro _ A _ s H _ Q E hr ⟨t,a,b,p,ns,ss,zs,rfl,pl,hp,h64,q⟩;refine ⟨_,(zD (zo (zL GC hr (zA (pv 0) zB))) (zG (zM (YL (zL GH hr (zA (pv 0) (zA (pv 1) zB))) (yf (zL GN hr (zA (pv 0) (zA (pv 1) zB)))))))),?_⟩;refine ⟨_,rfl,t,a,b,ns,ss,rfl,pl,?_⟩;refine ⟨_,rfl,_,rfl,t,a,b,p,ns,ss,zs,rfl,pl,hp,h64,λH1 g1=>⟨_,rfl,zr (λc=>?_) (λc=>?_)⟩⟩
 .refine ⟨_,rfl,_,rfl,t,a,b,p,ns,ss,zs,rfl,pl.same g1,g1 _ _ hp,h64,λH2 g2=>?_⟩
  have e:Zh ns ss zs=nbB ss zs:=by unfold Zh; rw [c]; rfl
  rw [<-e];exact q _ (g1.trans g2)
 .have e:Zh ns ss zs=false:=by unfold Zh; rw [Bool.eq_false_iff.mpr c]; rfl
  rw [e] at q;exact q _ g1
theorem zRA:FS 2 ["plan","thing"] zLm:=zm
theorem zQg (F:Fu K "is_ring" zLm f fd) (B:jP mg) (m3:mg "FEWEST_IN_RING"=some (.int 3 t3))
  (GR:Gd P w K mg base 5 g1 pH ["plan","thing"] zDJ "is_row")
  (GA:Gd P w K mg base 5 g2 pI ["plan","one","other"] zBE "add_up"):FnOk P w K mg base zU 6 f fd ["plan","thing"] zIx:=by
 refine F.ok zRA ?_ ?_
 .rintro _ _ _ _ ⟨t,a,b,p,ns,ss,zs,rfl,_⟩
  rfl
 rintro _ A _ s H _ Q E hr ⟨t,a,b,p,ns,ss,zs,rfl,pl,hp,h64,q⟩;refine ⟨_,(zD (zd (PW.pt (yi (Zi (ZN (zL GR hr (zA (pv 0) (zA (pv 1) zB))))) (yA (zT ji (zP zQ rfl B.len qU (zA (pv 1) zB)) (jR (v:= .int 3) rfl m3 ⟨_,rfl⟩) (zV _))))) (zG (zM ZU)) zW) (zG (zM (zL GA hr (zA (pv 0) (zA (zz zx (pv 1) (Y9 Yc zJ)) (zA (zz zx (pv 1) zJ) zB))))))),?_⟩;have zml:(zs.map V.int).length=zs.length:=qA _;refine ⟨_,rfl,_,rfl,t,a,b,p,ns,ss,zs,rfl,pl,hp,h64,λH1 g1=>⟨_,rfl,zr (λc=>?_) (λc=>?_)⟩⟩
 .have e:ZK ns ss zs=false:=by
   unfold ZK;have c':(!Zh ns ss zs)=true:=c;rw [show Zh ns ss zs=false by simpa using c'];rfl
  rw [e] at q;exact Yu (q _ g1)
 have hr1:Zh ns ss zs=true:=by
  cases hh:Zh ns ss zs with
  | true=>rfl
  | false=>exact v6 (show (!Zh ns ss zs)=true by rw [hh]; rfl) c
 have hp1:=g1 _ _ hp;refine ⟨_,rfl,p,_,rfl, .inl (zK.of hp1),_,_,rfl,rfl,_,rfl,zr (λc3=>?_) (λc3=>?_)⟩
 .have h3:zs.length<3:=by
   have:=qZ c3;rw [zml] at this;lia
  have e:ZK ns ss zs=false:=by
   unfold ZK;rw [qK h3];simp
  rw [e] at q;exact q _ g1
 have h3:¬zs.length<3:=λz=>c3 (qK (by rw [zml]; lia));have e:ZK ns ss zs=zY ss (zs.getD (zs.length - 1) 0) (zs.getD 0 0):=by
  unfold ZK;rw [hr1,qa h3];rfl
 rw [e] at q;have l0:(zs.map V.int)[0]?=some (.int (zs.getD 0 0)):=by
  rw [qM,qC,qB (by lia:0<zs.length)];rfl
 have lz:YH (zs.map V.int) (-1)=some (.int (zs.getD (zs.length - 1) 0)):=by
  have e:zs=zs.dropLast++[zs.getD (zs.length - 1) 0]:=by
   have hne:zs≠[]:=λz=>h3 (by rw [z]; decide);have e1:=(QL hne).symm;have e2:zs.getD (zs.length - 1) 0=zs.getLast hne:=by
    rw [qC,qB (by lia:zs.length - 1<zs.length),Xs];rfl
   rw [e2];exact e1
  have e3:zs.map V.int=zs.dropLast.map V.int++[.int (zs.getD (zs.length - 1) 0)]:=by
   conv=>lhs; rw [e,qN]
   rfl
  rw [e3];exact Jr _ _
 exact ⟨_,rfl,_,rfl,_,rfl,p,_,_,_,rfl,rfl,zK.of hp1,lz,_,rfl,p,_,_,_,rfl,rfl,zK.of hp1,Zx l0,t,a,b,ns,ss,_,_,rfl,pl.same g1,q _ g1⟩
abbrev sNo:Stmt:=top 41
def zEZ (ns ss zs:List Int):Nat:=zBX (zO ns ss (List.range ns.length)) (Zo ns ss false) (2^ns.length - 1) ns.length (zs.map λz=>ns.idxOf z)
theorem zIy:∀n≤10,∀k<n,(2^n - 1).testBit k=true:=by decide
theorem zGU {ns:List Int}:∀{zs:List Int},zs.Nodup->(∀z∈zs,z∈ns)->(zs.map λz=>ns.idxOf z).Nodup
 | [],_,_=>qr
 | z::r,nd,h=>by
  obtain ⟨n1,n2⟩:=List.nodup_cons.mp nd;rw [qe];refine List.nodup_cons.mpr ⟨λhm=>?_,zGU n2 λy hy=>h y (qF _ hy)⟩;obtain ⟨y,hy,e⟩:=List.mem_map.mp hm;have hz:=h z qE;have hy':=h y (qF _ hy);have e1:ns[ns.idxOf z]?=some z:=List.getElem?_eq_some_iff.mpr ⟨List.idxOf_lt_length_iff.mpr hz,xI _⟩;have e2:ns[ns.idxOf y]?=some y:=List.getElem?_eq_some_iff.mpr ⟨List.idxOf_lt_length_iff.mpr hy',xI _⟩;have e':ns.idxOf y=ns.idxOf z:=e;rw [e',e1] at e2;exact n1 (Option.some.inj e2▸hy)
theorem zOY (zs:List Int) (F:Int->V):((List.range zs.length).filter λ_=>true).map (λi=>F (zs.getD i 0))=zs.map F:=by
 rw [List.filter_eq_self.mpr λ_ _=>rfl];refine XW (by rw [qA,qA,QB]) λi h1 h2=>?_;have hi:i<zs.length:=by rw [qA] at h2; exact h2
 rw [XC,XC,xa,qC,qB hi];rfl
inductive zIr (vs:List V) (H:Hp) (Q:VK) (E:XK):Prop
 | mk (t a b p0:Addr) (ns ss zs:List Int):vs=[.ref t, .ref p0]->zi H t a b ns ss->H p0=some (.lst (zs.map V.int))->Zh ns ss zs=true->(∀H',zE H H'->Q (.int (zEZ ns ss zs:Nat)) H')->zIr vs H Q E
theorem zNa:FS 2 ["plan","thing"] sNo:=zm
theorem zPE (F:Fu K "number_of" sNo f fd) (T:J3 K C) (mA:ZC K C "number_at" g1)
  (GA:FnOk P w K mg base zU j g1 pH ["self","places"] (zMf C)) (bA:zX K pH ["self","places"] [])
  (GR:Gd P w K mg base j g2 pI ["plan","thing"] zDJ "is_row")
  (GT:Gd P w K mg base j g3 pJ ["plan"] (zFV C) "tally_of_rows"):FnOk P w K mg base zU (j+1) f fd ["plan","thing"] zIr:=by
 refine F.ok zNa ?_ ?_
 .rintro _ _ _ _ ⟨t,a,b,p0,ns,ss,zs,rfl,_⟩
  rfl
 rintro _ A _ s H _ Q E hr ⟨t,a,b,p0,ns,ss,zs,rfl,pl0,hp00,c,q0⟩;have z64:zs.length<64:=by
  have:=(List.isPerm_iff.mp (Bool.and_eq_true_iff.mp c).1).length_eq;have:=pl0.ok.n2;lia
 refine ⟨_,(zD (zd (Zi (ZN (zL GR hr (zA (pv 0) (zA (pv 1) zB))))) (zG yS) zW) (zG (zM (zy (zL GT hr (zA (pv 0) zB)) T.cl mA GA hr bA .nil ze (zA (ZR ["number"] rfl (bk zNa) (zj (pv 1)) (λpA C fp s3 H3=>⟨(yI zNa),yN,(zQw K qk Xt Xu zCc (zz (j5 K) (pv 1) zJ) (zA (pv 0) zB))⟩)) zB))))),?_⟩;refine ⟨_,rfl,_,rfl,t,a,b,p0,ns,ss,zs,rfl,pl0,hp00,z64,λH1 g1=>?_⟩;rw [c];refine ⟨_,rfl,ZG ?_⟩;have pl:=pl0.same g1;have hp0:=g1 _ _ hp00;have q:∀H',zE H1 H'->Q (.int (zEZ ns ss zs:Nat)) H':=λH' g=>q0 H' (g1.trans g);have pm:zs.Perm ns:=List.isPerm_iff.mp (Bool.and_eq_true_iff.mp c).1;have n10:=pl.ok.n2;have nsnd:ns.Nodup:=pl.ok.n.up.imp λh z=>by lia
 have zin:∀z∈zs,z∈ns:=λz hz=>pm.mem_iff.mp hz;refine ⟨_,rfl,t,a,b,ns,ss,rfl,pl,λp H2 e1 e2 e3 g2 how S hk=>?_⟩;have pl2:=pl.same g2;have hp2:=g2 _ _ (hp0);have zml:(zs.map V.int).length=zs.length:=qA _;refine ⟨p.s,p.dx,_,rfl,S.at_,rfl,?_⟩;refine ⟨_,rfl,p0,rfl,⟨_,zK.of hp2⟩,λD hD=>?_⟩;refine yt (U:=[some (.ref t),some (.ref p0)]) (xs:=zs.map V.int) (λ_=>true) (λi=> .int ((ns.idxOf (zs.getD i 0):Nat):Int)) (zK.of hp2) hD (by lia) (λi H' hi g P hP=>?_) (λi H' hi _ g P hP=>?_) λH3 g3 e3'=>?_
 .exact hP _ zE.rfl'
 .have hi':i<zs.length:=by rw [zml] at hi; exact hi
  have ek:zs[i]?=some zs[i]:=qB hi';have x1:(zs.map V.int).getD i .non= .int zs[i]:=by rw [qC,qM,ek]; rfl
  have x2:zs.getD i 0=zs[i]:=by rw [qC,ek]; rfl
  have hin:zs[i]∈ns:=zin _ (qg hi');rw [x1];rw [x2] at hP;refine ⟨_,rfl,t,_,0,_,rfl,rfl,ZD.of (pl2.same g).t,rfl, .inl ⟨rfl,_,zK.of (pl2.same g).a⟩,_,rfl,a,ns,zs[i],ns.idxOf zs[i],rfl,rfl,(pl2.same g).a,List.getElem?_eq_some_iff.mpr ⟨List.idxOf_lt_length_iff.mpr hin,xI _⟩,λm hm hz=>?_,by lia,hP _ zE.rfl'⟩;obtain ⟨m1,m2⟩:=List.getElem?_eq_some_iff.mp hz;have il:=List.idxOf_lt_length_iff.mpr hin;have lt:=List.pairwise_iff_getElem.mp pl.ok.n.up m (ns.idxOf zs[i]) m1 il hm;rw [m2,xI] at lt;lia
 .have S3:=S.ex hk.1 (Ex.same g3)
  have eks:H3 D=some (.lst ((iv (zs.map λz=>ns.idxOf z)).map V.int)):=by
   rw [e3',zml,Yg,qo];refine Qe (λx=>some (HO.lst x)) ?_;exact zOY zs λz=>V.int ((ns.idxOf z:Nat):Int)
  refine ⟨p,[],D,zs.map λz=>ns.idxOf z,rfl,S3,⟨g3 _ _ hk.1,hk.2⟩,eks,?_,?_,λH4 kvs4 ex4 hk4=>?_⟩
  .rw [e1]
   refine zKd (qd (vT (QO _) (by decide)) (Y5 _ (by lia))) (zGU (pm.nodup_iff.mpr nsnd) zin) λk hk=>?_;obtain ⟨z,hz,rfl⟩:=List.mem_map.mp hk;have:=List.idxOf_lt_length_iff.mpr (zin z hz);exact ⟨by lia,zIy _ n10 _ this⟩
  .intro k hk
   obtain ⟨z,hz,rfl⟩:=List.mem_map.mp hk;rw [e1];exact List.idxOf_lt_length_iff.mpr (zin z hz)
  .rw [e1,e2,e3]
   exact q H4 λc o hc=>ex4 c o (zF hc how) (g3 _ _ (g2 _ _ hc))
theorem zEW:∀m<1024,∀k<10,m.testBit k=true->∀j<10,(m - 2^k).testBit j=(m.testBit j&&decide (j≠k)):=by decide +kernel
theorem zHG {α:Type} [DecidableEq α]:∀{xs ys:List α},xs.Nodup->(∀x∈xs,x∈ys)->xs.length<=ys.length
 | [],_,_,_=>QF _
 | x::xs,ys,nd,h=>by
  obtain ⟨h1,nd'⟩:=List.nodup_cons.mp nd;have hx:=h x qE;have ih:=zHG (ys:=ys.erase x) nd' λy hy=>(xu (λe:y=x=>h1 (e▸hy))).mpr (h y (qF _ hy));rw [Qb hx] at ih;have:0<ys.length:=xA hx;rw [qT];lia
section
variable (near:Nat->List Nat) (ends:Nat->Bool)
def ZY:Nat->Nat->Nat->List (List Nat)
 | 0,_,e=>if ends e then [[]] else []
 | m+1,left,e=>((near e).filter λk=>left.testBit k).flatMap λk=>(ZY m (left - 2^k) k).map (k::·)
variable {near ends}
theorem jz:∀(m left e:Nat),(ZY near ends m left e).length=jZ near ends m left e
 | 0,left,e=>by
  show (if ends e then [[]] else ([]:List (List Nat))).length=if ends e then 1 else 0;split <;> rfl
 | m+1,left,e=>by
  show (((near e).filter λk=>left.testBit k).flatMap λk=>(ZY near ends m (left - 2^k) k).map (k::·)).length=(((near e).filter λk=>left.testBit k).map λk=>jZ near ends m (left - 2^k) k).sum;rw [List.length_flatMap];congr 1;exact QK λk _=>by rw [qA,jz m]
theorem JV {α β:Type} {f:α->β}:∀{l:List α},(∀a∈l,∀b∈l,f a=f b->a=b)->l.Nodup->(l.map f).Nodup
 | [],_,_=>qr
 | a::r,hf,h=>by
  obtain ⟨h1,h2⟩:=List.nodup_cons.mp h;rw [qe];refine List.nodup_cons.mpr ⟨λz=>?_,JV (λx hx y hy=>hf x (qF _ hx) y (qF _ hy)) h2⟩;obtain ⟨b,hb,e⟩:=List.mem_map.mp z;exact h1 (hf b (qF _ hb) a qE e▸hb)
theorem zFB {n:Nat} (N:zu near n):∀(m left e:Nat),e<=n->(ZY near ends m left e).Nodup
 | 0,left,e,_=>by
  show (if ends e then [[]] else ([]:List (List Nat))).Nodup;split
  .exact List.nodup_cons.mpr ⟨nofun,qr⟩
  .exact qr
 | m+1,left,e,he=>by
  have hs:((near e).filter λk=>left.testBit k).Pairwise (·<·):=(N.up e he).sublist Q9;have hk:∀k∈(near e).filter (λk=>left.testBit k),k<n:=λk h=>N.lt e he k (List.mem_filter.mp h).1;show (((near e).filter λk=>left.testBit k).flatMap λk=>(ZY near ends m (left - 2^k) k).map (k::·)).Nodup;generalize (near e).filter (λk=>left.testBit k)=ks at hs hk ⊢
  induction ks with
  | nil=>exact qr
  | cons a r ih=>
   rw [QH];refine List.nodup_append.mpr ⟨JV (λx _ y _ z=>(List.cons.inj z).2) (zFB N m _ a (qf (hk a qE))),ih hs.of_cons λk h=>hk k (qF _ h),λx hx y hy e=>?_⟩;obtain ⟨x',_,rfl⟩:=List.mem_map.mp hx;obtain ⟨b,hb,hy'⟩:=List.mem_flatMap.mp hy;obtain ⟨y',_,rfl⟩:=List.mem_map.mp hy';have:a=b:=(List.cons.inj e).1;have:=xJ hs hb;lia
def wlk (near:Nat->List Nat):List Nat->Prop
 | x::y::r=>y∈near x/\wlk near (y::r)
 | _=>True
theorem j0 {n:Nat} (N:zu near n):∀(m left e:Nat) (l:List Nat),ZV left=m->left<1024->left<2^n->e<=n->(l∈ZY near ends m left e↔wlk near (e::l)/\l.Nodup/\(∀k,k∈l↔left.testBit k=true)/\∃z,(e::l).getLast?=some z/\ends z=true)
 | 0,left,e,l,hc,hl,hn,he=>by
  have l0:left=0:=yC left hl hc;subst l0;show l∈(if ends e then [[]] else ([]:List (List Nat)))↔_;constructor
  .intro h
   split at h
   .rename_i hE
    rw [List.mem_singleton.mp h];exact ⟨trivial,qr,λk=>⟨(λz=>nomatch z),λz=>by rw [X9] at z; cases z⟩,e,rfl,hE⟩
   .cases h
  .rintro ⟨_,_,h3,z,h4,h5⟩
   have ln:l=[]:=by
    cases l with
    | nil=>rfl
    | cons a r=>
     have:=(h3 a).mp qE;rw [X9] at this;cases this
   subst ln;have ez:e=z:=Option.some.inj h4;rw [<-ez] at h5;rw [qO h5];exact qE
 | m+1,left,e,l,hc,hl,hn,he=>by
  show l∈(((near e).filter λk=>left.testBit k).flatMap λk=>(ZY near ends m (left - 2^k) k).map (k::·))↔_;rw [List.mem_flatMap];have n10:=N.n10;have JI:∀k,k<n->left.testBit k=true->ZV (left - 2^k)=m/\left - 2^k<1024/\left - 2^k<2^n/\∀j,(left - 2^k).testBit j=true↔left.testBit j=true/\j≠k:=λk hk hb=>by
   have cd:=ZQ left hl k (by lia) hb;refine ⟨by lia,by lia,by lia,λj=>?_⟩;by_cases hj:j<10
   .rw [zEW left hl k (by lia) hb j hj,QV,Qr]
   .have z1:(left - 2^k).testBit j=false:=XS (qd (show left - 2^k<2^10 by lia) (QX (by decide) (by lia)))
    have z2:left.testBit j=false:=XS (qd (show left<2^10 by lia) (QX (by decide) (by lia)));rw [z1,z2];simp
  constructor
  .rintro ⟨k,hk,hm⟩
   obtain ⟨h1,h2⟩:=List.mem_filter.mp hk;obtain ⟨l',hl',rfl⟩:=List.mem_map.mp hm;have hkn:=N.lt e he k h1;obtain ⟨s1,s2,s3,s4⟩:=JI k hkn h2;obtain ⟨a1,a2,a3,z,a4,a5⟩:=(j0 N m (left - 2^k) k l' s1 s2 s3 (qf hkn)).mp hl';refine ⟨⟨h1,a1⟩,List.nodup_cons.mpr ⟨λh=>((s4 k).mp ((a3 k).mp h)).2 rfl,a2⟩,λj=>?_,z,?_,a5⟩
   .rw [Q2,a3 j,s4 j]
    by_cases hj:j=k
    .rw [hj]; exact ⟨λ_=>h2,λ_=> .inl rfl⟩
    .exact ⟨λh=>h.elim (λz=>v6 z hj) λz=>z.1,λh=> .inr ⟨h,hj⟩⟩
   .rw [Xv]
    exact a4
  .rintro ⟨a1,a2,a3,z,a4,a5⟩
   cases l with
   | nil=>
    exfalso;have:left=0:=Nat.eq_of_testBit_eq λk=>by
     rw [X9];cases hb:left.testBit k with
     | false=>rfl
     | true=>exact nomatch (a3 k).mpr hb
    rw [this] at hc;exact v6 (show ZV 0=m+1 from hc) (by show ¬(0=m+1); lia)
   | cons k l'=>
    have h2:=(a3 k).mp qE;have h1:k∈near e:=a1.1;have hkn:=N.lt e he k h1;obtain ⟨s1,s2,s3,s4⟩:=JI k hkn h2;obtain ⟨b1,b2⟩:=List.nodup_cons.mp a2;refine ⟨k,List.mem_filter.mpr ⟨h1,h2⟩,List.mem_map.mpr ⟨l',(j0 N m (left - 2^k) k l' s1 s2 s3 (qf hkn)).mpr ⟨a1.2,b2,λj=>?_,z,?_,a5⟩,rfl⟩⟩
    .rw [s4 j,<-a3 j,Q2]
     exact ⟨λh=>⟨.inr h,λe=>b1 (e▸h)⟩,λh=>h.1.elim (λe=>v6 e h.2) id⟩
    .rw [Xv] at a4
     exact a4
end
def Cyc (near:Nat->List Nat) (n:Nat) (c:List Nat):Prop:=wlk near c/\c.Nodup/\(∀k,k∈c↔k<n)/\∃x z,c.head?=some x/\c.getLast?=some z/\x∈near z
theorem zEV {near:Nat->List Nat}:∀(p q:List Nat),wlk near (p++q)↔wlk near p/\wlk near q/\∀x y,p.getLast?=some x->q.head?=some y->y∈near x
 | [],q=>⟨λh=>⟨trivial,h,λ_ _ z=>nomatch z⟩,λh=>h.2.1⟩
 | [x],[]=>⟨λ_=>⟨trivial,trivial,λ_ _ _ z=>nomatch z⟩,λ_=>trivial⟩
 | [x],y::q=>⟨λh=>⟨trivial,h.2,λa b ha hb=>by cases ha; cases hb; exact h.1⟩,λh=>⟨h.2.2 x y rfl rfl,h.2.1⟩⟩
 | x::y::p,q=>by
  have ih:=zEV (near:=near) (y::p) q;show (y∈near x/\wlk near ((y::p)++q))↔(y∈near x/\wlk near (y::p))/\_;rw [ih,Xv];exact ⟨λh=>⟨⟨h.1,h.2.1⟩,h.2.2⟩,λh=>⟨h.1.1,h.1.2,h.2⟩⟩
def rot (j:Nat) (c:List Nat):List Nat:=c.dropWhile (λk=>decide (k≠j))++c.takeWhile λk=>decide (k≠j)
theorem zCh {j:Nat}:∀{c:List Nat},j∈c->∃p q,c=p++j::q/\j∉p/\rot j c=j::q++p
 | x::r,h=>by
  by_cases e:x=j
  .subst e
   refine ⟨[],r,rfl,nofun,?_⟩;unfold rot;rw [vg (by simp),vh (by simp)]
  .obtain ⟨p,q,e1,e2,e3⟩:=zCh ((List.mem_cons.mp h).resolve_left λz=>e z.symm)
   refine ⟨x::p,q,by rw [e1]; rfl,λz=>(List.mem_cons.mp z).elim (λy=>e y.symm) e2,?_⟩;subst e1;unfold rot at e3 ⊢;have dn:∀(p:List Nat),j∉p->(p++j::q).dropWhile (λk=>decide (k≠j))=j::q/\(p++j::q).takeWhile (λk=>decide (k≠j))=p:=by
    intro p
    induction p with
    | nil=>intro _; rw [List.nil_append,vg (by simp),vh (by simp)]; exact ⟨rfl,rfl⟩
    | cons a p ih=>
     intro hp;have ha:a≠j:=λz=>hp (by rw [z]; exact qE);obtain ⟨i1,i2⟩:=ih λz=>hp (qF _ z);rw [X6,List.dropWhile_cons_of_pos (by simpa using ha),List.takeWhile_cons_of_pos (by simpa using ha),i1,i2];exact ⟨rfl,rfl⟩
   obtain ⟨d1,d2⟩:=dn (x::p) λz=>(List.mem_cons.mp z).elim (λy=>e y.symm) e2;rw [<-X6,d1,d2]
theorem zKZ {p q:List Nat} (h:j∉p):rot j (p++j::q)=j::q++p:=by
 obtain ⟨p',q',e1,e2,e3⟩:=zCh (j:=j) (c:=p++j::q) (qS _ qE);have:p=p'/\q=q':=by
  clear e3
  induction p generalizing p' with
  | nil=>
   cases p' with
   | nil=>exact ⟨rfl,(List.cons.inj e1).2⟩
   | cons a p'=>exact v6 (by rw [<-(List.cons.inj e1).1]; exact qE) e2
  | cons b p ih=>
   cases p' with
   | nil=>exact v6 (by rw [(List.cons.inj e1).1]; exact qE) h
   | cons a p'=>
    obtain ⟨h1,h2⟩:=List.cons.inj e1;obtain ⟨i1,i2⟩:=ih (λz=>h (qF _ z)) p' h2 λz=>e2 (qF _ z);rw [h1,i1,i2];exact ⟨rfl,rfl⟩
 rw [e3,this.1,this.2]
theorem zCK {c:List Nat} (C:Cyc near n c) (hj:j<n):Cyc near n (rot j c)/\(rot j c).head?=some j/\∀i,c.head?=some i->rot i (rot j c)=c:=by
 obtain ⟨c1,c2,c3,x,z,c4,c5,c6⟩:=C;obtain ⟨p,q,e1,e2,e3⟩:=zCh ((c3 j).mpr hj);rw [e3];have pm:(j::q++p).Perm c:=by rw [e1]; exact vG
 rw [e1,zEV] at c1;refine ⟨⟨?_,(pm.nodup_iff).mpr c2,λk=>by rw [pm.mem_iff]; exact c3 k,j,?_⟩,rfl,λi hi=>?_⟩
 .rw [zEV]
  refine ⟨c1.2.1,c1.1,λa b ha hb=>?_⟩;rw [e1] at c4 c5;have hb':(p++j::q).head?=some b:=by
   cases p with
   | nil=>cases hb
   | cons y p=>exact hb
  rw [hb'] at c4;cases c4;rw [xv,ha] at c5;cases c5;exact c6
 .cases hp:p.getLast? with
  | none=>
   have pn:p=[]:=List.getLast?_eq_none_iff.mp hp;subst pn;refine ⟨z,rfl,?_,?_⟩
   .rw [qv]
    rw [e1] at c5;exact c5
   .rw [e1] at c4
    cases c4;exact c6
  | some y=>
   refine ⟨y,rfl,?_,c1.2.2 y j hp rfl⟩;rw [xv,hp];rfl
 .rw [e1] at hi ⊢
  cases p with
  | nil=>
   cases hi;rw [qv];exact (zKZ (p:=[]) nofun).trans (qv _)
  | cons y p=>
   have ei:y=i:=Option.some.inj hi;subst ei;have hni:y∉j::q:=λh=>by
    rw [e1] at c2;exact (List.nodup_append.mp c2).2.2 y qE y h rfl
   exact zKZ hni
def jU (near:Nat->List Nat) (n i:Nat):List (List Nat):=(ZY near (λe=>(near e).contains i) (ZV (2^n - 1 - 2^i)) (2^n - 1 - 2^i) i).map (i::·)
theorem zAO (N:zu near n) (hi:i<n) (c:List Nat):c∈jU near n i↔Cyc near n c/\c.head?=some i:=by
 have n10:=N.n10;have hp:=Y5 n (by lia);have hpos:=QO n;have hw:2^n - 1<1024:=by lia
 have hb:=yM hi;have cd:=ZQ _ hw i (by lia) hb;have bits:∀k,(2^n - 1 - 2^i).testBit k=true↔k<n/\k≠i:=λk=>by
  by_cases hk:k<10
  .rw [zEW _ hw i (by lia) hb k hk,QV,Qr,ve,Qr]
  .have z1:(2^n - 1 - 2^i).testBit k=false:=XS (qd (show 2^n - 1 - 2^i<2^10 by lia) (QX (by decide) (by lia)))
   rw [z1];exact ⟨nofun,λh=>by lia⟩
 unfold jU;rw [XE];constructor
 .rintro ⟨l,hl,rfl⟩
  obtain ⟨a1,a2,a3,z,a4,a5⟩:=(j0 N _ _ i l rfl (by lia) (by lia) (qf hi)).mp hl;refine ⟨⟨a1,List.nodup_cons.mpr ⟨λh=>((bits i).mp ((a3 i).mp h)).2 rfl,a2⟩,λk=>?_,i,z,rfl,a4,List.contains_iff_mem.mp a5⟩,rfl⟩;rw [Q2,a3 k,bits k];by_cases hk:k=i
  .rw [hk]; exact ⟨λ_=>hi,λ_=> .inl rfl⟩
  .exact ⟨λh=>h.elim (λz=>v6 z hk) λz=>z.1,λh=> .inr ⟨h,hk⟩⟩
 .rintro ⟨⟨c1,c2,c3,x,z,c4,c5,c6⟩,hd⟩
  cases c with
  | nil=>cases hd
  | cons y l=>
   cases hd;cases c4;obtain ⟨b1,b2⟩:=List.nodup_cons.mp c2;refine ⟨l,(j0 N _ _ i l rfl (by lia) (by lia) (qf hi)).mpr ⟨c1,b2,λk=>?_,z,c5,List.contains_iff_mem.mpr c6⟩,rfl⟩;rw [bits k,<-c3 k,Q2];exact ⟨λh=>⟨.inr h,λe=>b1 (e▸h)⟩,λh=>h.1.elim (λe=>v6 e h.2) id⟩
theorem zGX (N:zu near n) (hi:i<n) (hj:j<n):(jU near n i).length<=(jU near n j).length:=by
 have nd:(jU near n i).Nodup:=JV (λx _ y _ z=>(List.cons.inj z).2) (zFB N _ _ i (qf hi));have nd2:((jU near n i).map (rot j)).Nodup:=JV (λc hc d hd e=>by
  obtain ⟨C,h1⟩:=(zAO N hi c).mp hc;obtain ⟨D,h2⟩:=(zAO N hi d).mp hd;rw [<-(zCK C hj).2.2 i h1,<-(zCK D hj).2.2 i h2,e]) nd
 have h:=zHG nd2 (ys:=jU near n j) λc hc=>by
  obtain ⟨d,hd,rfl⟩:=List.mem_map.mp hc;obtain ⟨D,_⟩:=(zAO N hi d).mp hd;exact (zAO N hj _).mpr ⟨(zCK D hj).1,(zCK D hj).2.1⟩
 rw [qA] at h;exact h
theorem zNW (N:zu near n) (hi:i<n) (hj:j<n):ZX near (λe=>(near e).contains i) (2^n - 1 - 2^i) i=ZX near (λe=>(near e).contains j) (2^n - 1 - 2^j) j:=by
 have a:=zGX N hi hj;have b:=zGX N hj hi;unfold jU at a b;rw [qA,qA,jz,jz] at a b;exact Nat.le_antisymm a b
theorem zBT {near':Nat->List Nat} {ends ends':Nat->Bool} (N:zu near n) (h1:∀e<n,near e=near' e) (h2:∀e<n,ends e=ends' e):∀(m left e:Nat),e<n->jZ near ends m left e=jZ near' ends' m left e
 | 0,left,e,he=>by
  show (if ends e then 1 else 0)=if ends' e then 1 else 0;rw [h2 e he]
 | m+1,left,e,he=>by
  show (((near e).filter λk=>left.testBit k).map λk=>jZ near ends m (left - 2^k) k).sum=(((near' e).filter λk=>left.testBit k).map λk=>jZ near' ends' m (left - 2^k) k).sum;rw [<-h1 e he];congr 1;exact QK λk hk=>zBT N h1 h2 m _ k (N.lt e (qf he) k (List.mem_filter.mp hk).1)
theorem Yo (h:n<=10):2^n - 1<1024:=by have:=Y5 n (by lia); have:=QO n; lia
theorem Zw (ok:zf ns ss):zu (zO ns ss (List.range ns.length)) ns.length:=Yz ok (λk hk=>List.mem_range.mp hk) QY
def Jv (ns ss:List Int) (i:Nat):Nat:=ZX (zO ns ss (List.range ns.length)) (λe=>(zO ns ss (List.range ns.length) e).contains i) (2^ns.length - 1 - 2^i) i
theorem zMs (ok:zf ns ss):ZF ns ss true=Jv ns ss 0:=by
 have n1:=ok.n1;have N0:zu (zO ns ss [0]) ns.length:=Yz ok (λk hk=>by rw [List.mem_singleton.mp hk]; lia) (QP _ _);have wp:=Nat.one_lt_two_pow (n:=ns.length) (by lia);unfold ZF Jv;show ZX (zO ns ss [0]) (Zo ns ss true) (2^ns.length - 1) ns.length=_;rw [zAN N0 (Yo ok.n2) (by lia) (qG _)];have e1:zO ns ss [0] ns.length=[0]:=by unfold zO; rw [qP (QQ _)]
 rw [e1,qh,qO (yM (by lia)),Qo];show ZX _ _ _ 0+0=_;rw [Nat.add_zero];refine zBT N0 (λe he=>?_) (λe he=>?_) _ _ 0 (by lia)
 .unfold zO; rw [qO he,qO he]
 .unfold zO Zo; rw [qO he]; rfl
theorem zJp (ok:zf ns ss) (hi:i<ns.length):Jv ns ss i=Jv ns ss 0:=zNW (Zw ok) hi (by have:=ok.n1; lia)
theorem jt (h:i<ns.length):ns[i]?=some (ns.getD i 0):=by rw [qC,qB h]; rfl
theorem zCS:∀{zs ns:List Int},zs.Nodup->(∀x∈zs,x∈ns)->zs.length=ns.length->zs.Perm ns
 | [],ns,_,_,hl=>by
  have:ns=[]:=Qy hl.symm;rw [this]
 | x::r,ns,hn,hs,hl=>by
  rw [List.nodup_cons] at hn;have hx:=hs x qE;refine (List.Perm.cons x (zCS hn.2 (λy hy=>?_) ?_)).trans (List.perm_cons_erase hx).symm
  .exact (xu (λe:y=x=>hn.1 (by rw [<-e]; exact hy))).mpr (hs y (qF _ hy))
  .rw [Qb hx]
   rw [qT] at hl;lia
theorem jM:∀n≤10,ZV (2^n - 1)=n:=by decide
theorem zDe (up:ns.Pairwise (·<·)) {k:Nat} (hk:k<ns.length):ns.idxOf (ns.getD k 0)=k:=by
 have e:ns.getD k 0=ns[k]:=by rw [qC,qB hk]; rfl
 have hm:ns.getD k 0∈ns:=by rw [e]; exact qg hk
 have il:=List.idxOf_lt_length_iff.mpr hm;have ev:ns[ns.idxOf (ns.getD k 0)]=ns[k]:=by rw [xI,e]
 rcases xr (ns.idxOf (ns.getD k 0)) k with z | z | z
 .have:=List.pairwise_iff_getElem.mp up _ _ il hk z
  lia
 .exact z
 .have:=List.pairwise_iff_getElem.mp up _ _ hk il z
  lia
theorem zHK {near:Nat->List Nat}:∀{ks:List Nat} {e:Nat},zNL near e ks->∀i (h:i+1<ks.length),ks[i+1]∈near ks[i]
 | _::[],_,_,i,h=>by
  have:i+1<1:=h;lia
 | a::b::r,e,w,0,h=>w.2.1
 | a::b::r,e,w,i+1,h=>zHK (ks:=b::r) w.2 i (by simpa using h)
theorem Jt (ok:zf ns ss) (h:pE<ZF ns ss false):Zh ns ss (YY ns ss pE)=true/\zEZ ns ss (YY ns ss pE)=pE:=by
 have N:=Zw ok;have n10:=ok.n2;have wl:=Yo n10;have h':pE<ZX (zO ns ss (List.range ns.length)) (Zo ns ss false) (2^ns.length - 1) ns.length:=h;obtain ⟨w1,w2,w3,w4⟩:=zHS N _ _ _ _ (jM _ n10) wl (qG _) h';have e5:=zKk N _ _ _ _ (jM _ n10) wl (qG _) h';unfold YY zEZ;generalize jV (zO ns ss (List.range ns.length)) (Zo ns ss false) (2^ns.length - 1) ns.length pE=ks at w1 w2 w3 w4 e5 ⊢;have at_:∀i (hi:i<ks.length),ks[i]<ns.length:=λi hi=>(w3 _ (qg hi)).1;refine ⟨?_,?_⟩
 .unfold Zh
  rw [QV,List.isPerm_iff];refine ⟨zCS ?_ (λx hx=>?_) (by rw [qA,w1]),?_⟩
  .refine List.pairwise_map.mpr (w2.imp_of_mem λ{x y} hx hy ne e=>ne ?_)
   rw [<-zDe ok.n.up (w3 x hx).1,<-zDe ok.n.up (w3 y hy).1,e]
  .obtain ⟨k,hk,rfl⟩:=List.mem_map.mp hx
   exact qp (jt (w3 k hk).1)
  .unfold nbB
   refine List.all_eq_true.mpr λi hi=>?_;have hi':=List.mem_range.mp hi;rw [qA] at hi';have i1:i+1<ks.length:=by lia
   have i0:i<ks.length:=by lia
   have m:=zHK w4 i i1;unfold zO at m;rw [qO (at_ i i0)] at m;unfold yu at m;have m2:=(List.mem_filter.mp m).2;have g0:(ks.map λk=>ns.getD k 0).getD i 0=ns.getD ks[i] 0:=by rw [qC,qM,qB i0]; rfl
   have g1:(ks.map λk=>ns.getD k 0).getD (i+1) 0=ns.getD ks[i+1] 0:=by rw [qC,qM,qB i1]; rfl
   rw [g0,g1];exact m2
 .have e6:(ks.map λk=>ns.getD k 0).map (λz=>ns.idxOf z)=ks:=by
   rw [qo];refine (QK λk hk=>?_).trans (vy _);exact zDe ok.n.up (w3 k hk).1
  rw [e6];exact e5
theorem zHe {α β:Type} (f:α->List β) (k:α) (q:List α) {r:Nat} (h:r<(f k).length):∀p:List α,((p++k::q).flatMap f)[(p.map λa=>(f a).length).sum+r]?=(f k)[r]?
 | []=>by
  show ((k::q).flatMap f)[0+r]?=_;rw [XD,QH,QM h]
 | a::p=>by
  rw [X6,QH,qe,X4,q8 (by lia),<-zHe f k q h p];congr 1;lia
theorem zJn {near:Nat->List Nat} {ends:Nat->Bool} {n:Nat} (N:zu near n):∀(m left e pE:Nat),ZV left=m->left<1024->e<=n->pE<ZX near ends left e->(ZY near ends m left e)[pE]?=some (jV near ends left e pE)
 | 0,left,e,pE,hc,hl,he,h=>by
  have h0:=yC left hl hc;subst h0;have h':pE<(if ends e=true then 1 else 0):=h;by_cases z:ends e=true
  .rw [qO z] at h'
   have n0:pE=0:=by lia
   subst n0;show (if ends e=true then [[]] else ([]:List (List Nat)))[0]?=_;rw [qO z];rfl
  .rw [qP z] at h'
   lia
 | m+1,left,e,pE,hc,hl,he,h=>by
  have h0:left≠0:=λz=>by rw [z] at hc; cases hc
  obtain ⟨k,hk,hkn,hb,_,h1,h2,eb⟩:=Jh N hl h0 he h;have n10:=N.n10;have hp:(jo near left e).Pairwise (·<·):=(N.up e he).sublist Q9;obtain ⟨p,q,eq⟩:=XN hk;have len:∀j∈jo near left e,(ZY near ends m (left - 2^j) j).length=wBy near ends left j:=λj hj=>by
   obtain ⟨j1,j2⟩:=List.mem_filter.mp hj;have d:=ZQ left hl j (by have:=N.lt e he j j1; lia) j2;rw [jz];unfold wBy ZX;rw [show ZV (left - 2^j)=m by lia]
  have d:=ZQ left hl k (by lia) hb;have ih:=zJn (ends:=ends) N m (left - 2^k) k (pE - Z4 near ends left e k) (by lia) (by lia) (qf hkn) h2;have wa:Z4 near ends left e k=(p.map λj=>((ZY near ends m (left - 2^j) j).map (j::·)).length).sum:=by
   unfold Z4;rw [eq] at hp ⊢;rw [zKE hp];refine Qe List.sum (QK λj hj=>?_);rw [qA,len j (by rw [eq]; exact qX _ hj)]
  have lk:pE - Z4 near ends left e k<((ZY near ends m (left - 2^k) k).map (k::·)).length:=by
   rw [qA,len k hk];exact h2
  show ((jo near left e).flatMap λj=>(ZY near ends m (left - 2^j) j).map (j::·))[pE]?=_;have fa:=zHe (λj=>(ZY near ends m (left - 2^j) j).map (j::·)) k q lk p;rw [<-wa,<-eq,show Z4 near ends left e k+(pE - Z4 near ends left e k)=pE by lia] at fa;rw [fa,qM,ih,eb];rfl
theorem zEU {near:Nat->List Nat} (E:Nat->Bool):∀(m left e:Nat),(ZY near (λ_=>true) m left e).filter (λc=>E (c.getLastD e))=ZY near E m left e
 | 0,left,e=>by
  show ([[]]:List (List Nat)).filter (λc=>E (c.getLastD e))=if E e=true then [[]] else [];rw [qh,Qo];rfl
 | m+1,left,e=>by
  show (((near e).filter λk=>left.testBit k).flatMap λk=>(ZY near (λ_=>true) m (left - 2^k) k).map (k::·)).filter _=((near e).filter λk=>left.testBit k).flatMap λk=>(ZY near E m (left - 2^k) k).map (k::·);generalize (near e).filter (λk=>left.testBit k)=ks
  induction ks with
  | nil=>rfl
  | cons k r ih=>
   rw [QH,QH,qz,ih,<-zEU E m (left - 2^k) k,Q7];congr 2;exact xT λc _=>by
    show E ((k::c).getLastD e)=E (c.getLastD k);rw [List.getLastD_cons]
theorem zDB (h:i<ns.length):ns[i]?=some (ns.getD i 0):=by rw [qC,qB h]; rfl
theorem zAd (up:ns.Pairwise (·<·)) (h:i<j) (hj:j<ns.length):ns.getD i 0<ns.getD j 0:=by
 have:=List.pairwise_iff_getElem.mp up i j (by lia) hj h;have e1:=zDB (ns:=ns) (i:=i) (by lia);have e2:=zDB hj;rw [qB (by lia)] at e1 e2;rw [<-Option.some.inj e1,<-Option.some.inj e2];exact this
theorem zNg {near:Nat->List Nat} {ends:Nat->Bool} {n:Nat} {g:Nat->Int} (N:zu near n) (gu:∀i j,i<j->j<n->g i<g j):∀(m left e pE num':Nat),ZV left=m->left<1024->e<=n->pE<num'->num'<ZX near ends left e->HT.zBB .lt ((jV near ends left e pE).map g) ((jV near ends left e num').map g)=true
 | 0,left,e,pE,num',hc,hl,he,h1,h2=>by
  have h0:=yC left hl hc;subst h0;have h':num'<(if ends e=true then 1 else 0):=h2;split at h' <;> lia
 | m+1,left,e,pE,num',hc,hl,he,h1,h2=>by
  have h0:left≠0:=λz=>by rw [z] at hc; cases hc
  obtain ⟨k,hk,hkn,hb,_,a1,a2,eb⟩:=Jh N hl h0 he (Xh h1 h2);obtain ⟨k',pO,hkn',hb',_,b1,b2,eb'⟩:=Jh N hl h0 he h2;have n10:=N.n10;have hp:(jo near left e).Pairwise (·<·):=(N.up e he).sublist Q9;rw [eb,eb',qe,qe];unfold HT.zBB;rcases xr k k' with z | z | z
  .have:=gu k k' z hkn'
   rw [qP (by lia)];exact qK this
  .subst z
   rw [qO rfl];have d:=ZQ left hl k (by lia) hb;exact zNg N gu m (left - 2^k) k _ _ (by lia) (by lia) (qf hkn) (by lia) b2
  .have:=zGY (w:=wBy near ends left) hp pO z
   have a1':Yh (wBy near ends left) (jo near left e) k<=pE:=a1;have b1':Yh (wBy near ends left) (jo near left e) k'<=num':=b1;have b2':num' - Yh (wBy near ends left) (jo near left e) k'<wBy near ends left k':=b2;lia
theorem zOo (ok:zf ns ss) (h:i<j) (hj:j<ZF ns ss false):HT.zBB .lt (YY ns ss i) (YY ns ss j)=true:=
 zNg (Zw ok) (λi j h1 h2=>zAd ok.n.up h1 h2) _ _ _ _ _ rfl (Yo ok.n2) (qG _) h hj
theorem zBJ (ok:zf ns ss) (h:i<ZF ns ss false):(YY ns ss i).length=ns.length:=(List.isPerm_iff.mp (Bool.and_eq_true_iff.mp (Jt ok h).1).1).length_eq
theorem zBd {g:Nat->Int}:∀(c:List Nat) (i:Nat),((i::c).map g).getD c.length 0=g (c.getLastD i)
 | [],_=>rfl
 | a::c,i=>by
  rw [List.getLastD_cons,<-zBd (g:=g) c a];rfl
theorem zBD (ok:zf ns ss):(List.range (ZF ns ss false)).map (YY ns ss)=(ZY (zO ns ss (List.range ns.length)) (λ_=>true) ns.length (2^ns.length - 1) ns.length).map (List.map λk=>ns.getD k 0):=by
 have wc:=jM ns.length ok.n2;have wl:=Yo ok.n2;have pl:(ZY (zO ns ss (List.range ns.length)) (λ_=>true) ns.length (2^ns.length - 1) ns.length).length=ZF ns ss false:=by
  rw [jz];show _=jZ _ _ (ZV (2^ns.length - 1)) _ _;rw [wc];rfl
 refine List.ext_getElem? λi=>?_;rw [qM,qM];rcases xN i (ZF ns ss false) with h | h
 .rw [qB (by rw [QB]; exact h),xa]
  have:=zJn (ends:=λ_=>true) (Zw ok) _ _ _ i wc wl (qG _) h;rw [this];rfl
 .rw [Qj (by rw [QB]; exact h),Qj (by rw [pl]; exact h)]
  rfl
theorem zHD (ok:zf ns ss):((List.range (ZF ns ss false)).filter λk=>ZK ns ss (YY ns ss k)).length=Ys ns ss:=by
 have N:=Zw ok;have n1:=ok.n1;have n10:=ok.n2;have wl:=Yo ok.n2;have wc:=jM ns.length ok.n2;by_cases n3:ns.length<3
 .have:(List.range (ZF ns ss false)).filter (λk=>ZK ns ss (YY ns ss k))=[]:=List.filter_eq_nil_iff.mpr λk hk z=>by
   unfold ZK at z;rw [zBJ ok (List.mem_range.mp hk),qK n3] at z;simp at z
  rw [this];unfold Ys;rw [qO n3];rfl
 have e1:((List.range (ZF ns ss false)).filter λk=>ZK ns ss (YY ns ss k)).length=(((List.range (ZF ns ss false)).map (YY ns ss)).filter (ZK ns ss)).length:=by
  rw [Q7,qA];rfl
 rw [e1,zBD ok,Q7,qA];have rowP:∀c∈ZY (zO ns ss (List.range ns.length)) (λ_=>true) ns.length (2^ns.length - 1) ns.length,Zh ns ss (c.map λk=>ns.getD k 0)=true:=λc hc=>by
  have:(c.map λk=>ns.getD k 0)∈(List.range (ZF ns ss false)).map (YY ns ss):=by rw [zBD ok]; exact List.mem_map.mpr ⟨c,hc,rfl⟩
  obtain ⟨k,hk,e⟩:=List.mem_map.mp this;rw [<-e];exact (Jt ok (List.mem_range.mp hk)).1
 obtain ⟨m,em⟩:∃m,ns.length=m+1:=⟨ns.length - 1,by lia⟩;have ef:ZY (zO ns ss (List.range ns.length)) (λ_=>true) ns.length (2^ns.length - 1) ns.length=(List.range ns.length).flatMap λi=>(ZY (zO ns ss (List.range ns.length)) (λ_=>true) m (2^ns.length - 1 - 2^i) i).map (i::·):=by
  have gen:∀M,M=m+1->ZY (zO ns ss (List.range ns.length)) (λ_=>true) M (2^ns.length - 1) ns.length=(List.range ns.length).flatMap λi=>(ZY (zO ns ss (List.range ns.length)) (λ_=>true) m (2^ns.length - 1 - 2^i) i).map (i::·):=λM hM=>by
   subst hM;show ((zO ns ss (List.range ns.length) ns.length).filter λk=>(2^ns.length - 1).testBit k).flatMap _=_;have:zO ns ss (List.range ns.length) ns.length=List.range ns.length:=by unfold zO; rw [qP (QQ _)]
   rw [this,List.filter_eq_self.mpr λk hk=>yM (List.mem_range.mp hk)]
  exact gen _ em
 have per:∀i<ns.length,(((ZY (zO ns ss (List.range ns.length)) (λ_=>true) m (2^ns.length - 1 - 2^i) i).map (i::·)).filter (ZK ns ss ∘ List.map λk=>ns.getD k 0)).length=Jv ns ss 0:=λi hi=>by
  have wb:=yM hi;have d:=ZQ _ wl i (by lia) wb;rw [Q7,qA];have:(ZY (zO ns ss (List.range ns.length)) (λ_=>true) m (2^ns.length - 1 - 2^i) i).filter ((ZK ns ss ∘ List.map λk=>ns.getD k 0) ∘ (i::·))=(ZY (zO ns ss (List.range ns.length)) (λ_=>true) m (2^ns.length - 1 - 2^i) i).filter (λc=>(zO ns ss (List.range ns.length) (c.getLastD i)).contains i):=xT λc hc=>by
   have hm:(i::c)∈ZY (zO ns ss (List.range ns.length)) (λ_=>true) ns.length (2^ns.length - 1) ns.length:=by
    rw [ef];exact List.mem_flatMap.mpr ⟨i,List.mem_range.mpr hi,List.mem_map.mpr ⟨c,hc,rfl⟩⟩
   have rb:=rowP _ hm;have ln:((i::c).map λk=>ns.getD k 0).length=ns.length:=(List.isPerm_iff.mp (Bool.and_eq_true_iff.mp rb).1).length_eq;have lc:c.length+1=ns.length:=by rw [<-ln,qA,qT]
   have zl:c.getLastD i<ns.length:=by
    have mp:=(j0 (ends:=λ_=>true) N ns.length (2^ns.length - 1) ns.length (i::c) wc wl (by have:=QO ns.length; lia) (qG _)).mp hm;have hz:c.getLastD i∈i::c:=by
     cases c with
     | nil=>exact qE
     | cons a r=>rw [Qw,Qz (vA a r)]; exact qF _ (vt _)
    exact zGF (by have:=QO ns.length; lia) ((mp.2.2.1 _).mp hz)
   show ZK ns ss ((i::c).map λk=>ns.getD k 0)=_;unfold ZK;rw [rb,ln,qa n3,show ns.length - 1=c.length by lia,zBd];show (true&& !false&&zY ss (ns.getD (c.getLastD i) 0) (ns.getD i 0))=_;unfold zO;rw [qO zl];unfold yu;rw [qu,qw,QZ];simp [hi]
  rw [this,zEU (λe=>(zO ns ss (List.range ns.length) e).contains i),jz];show jZ _ _ m _ _=_;rw [<-zJp ok hi];unfold Jv ZX;rw [show ZV (2^ns.length - 1 - 2^i)=m by lia]
 rw [ef];have sum:∀l:List Nat,(∀i∈l,i<ns.length)->((l.flatMap λi=>(ZY (zO ns ss (List.range ns.length)) (λ_=>true) m (2^ns.length - 1 - 2^i) i).map (i::·)).filter (ZK ns ss ∘ List.map λk=>ns.getD k 0)).length=l.length*Jv ns ss 0:=λl=>by
  induction l with
  | nil=>intro _; simp
  | cons i r ih=>
   intro h;rw [QH,qz,qJ,per i (h i qE),ih λj hj=>h j (qF _ hj),qT,Nat.add_mul];lia
 rw [sum _ λi hi=>List.mem_range.mp hi,QB];unfold Ys;rw [qP n3,zMs ok]
abbrev zMv:Stmt:=top 17
abbrev sCb:Stmt:=top 39
inductive zJD (vs:List V) (H:Hp) (Q:VK) (E:XK):Prop
 | mk (t a b:Addr) (ns ss:List Int) (i:Nat):vs=[.ref t, .int (ns.getD i 0)]->zi H t a b ns ss->i<ns.length->Q .non H->zJD vs H Q E
def zEE (ns ss:List Int) (i j:Nat):Nat:=ZX (zO ns ss [i]) (λe=>decide (e=j)) (2^ns.length - 1 - 2^i) i
inductive zMz (vs:List V) (H:Hp) (Q:VK) (E:XK):Prop
 | mk (t a b:Addr) (ns ss:List Int) (i j:Nat):vs=[.ref t, .int (ns.getD i 0), .int (ns.getD j 0)]->zi H t a b ns ss->i<ns.length->j<ns.length->(∀H',zE H H'->Q (.int (zEE ns ss i j:Nat)) H')->zMz vs H Q E
theorem zDE (r:zAP ns) (hi:i<ns.length) (hj:j<ns.length) (h:ns.getD i 0=ns.getD j 0):i=j:=by
 rcases xr i j with z | z | z
 .have:=zAd r.up z hj; lia
 .exact z
 .have:=zAd r.up z hi; lia
section
variable {cn:Addr} {cnd:FuncData}
theorem zRI:FS 2 ["plan","number"] zMv:=zm
theorem zQS (F:Fu K "check_number" zMv f fd) (GW:Gd P w K mg base 1 g1 pH ["thing"] Yw "is_whole"):FnOk P w K mg base zU 2 f fd ["plan","number"] zJD:=by
 refine F.ok zRI ?_ ?_
 .rintro _ _ _ _ ⟨t,a,b,ns,ss,i,rfl,_⟩
  rfl
 rintro _ A _ s H _ Q E hr ⟨t,a,b,ns,ss,i,rfl,pl,hi,q⟩;refine ⟨_,(zG (zd (PW.pt (yi (Zi (ZN (zL GW hr (zA (pv 1) zB)))) (yA (zT (yK K) (pv 1) (zz zh (pv 0) zJ) rfl)))) (zG yS) zW)),?_⟩;refine ⟨_,rfl,_,rfl,_,rfl,zr (λc=>nomatch c) (λ_=>?_)⟩;refine ⟨_,rfl,_,rfl,t,_,0,_,rfl,rfl,ZD.of pl.t,rfl,a,_,ns,rfl,rfl,zK.of pl.a,_,rfl,zr (λc=>?_) (λ_=>q)⟩;have hm:ns.contains (ns.getD i 0)=true:=List.contains_iff_mem.mpr (qp (jt hi));have c':(!ns.contains (ns.getD i 0))=true:=c;rw [hm] at c';cases c'
theorem zSs:FS 3 ["plan","one","other"] sCb:=zm
theorem zSM (F:Fu K "count_between" sCb f fd) (T:J3 K C) (mW:ZC K C "all_ways" g1) (MT:Mk K C g4) (mT:mg "Tally"=some (.ref C))
  (GI:FnOk P w K mg base zU 22 g4 gd4 ["self","plan","first_places","last_places"] (zDp C)) (bI:zX K gd4 ["self","plan","first_places","last_places"] [])
  (GW:FnOk P w K mg base zU 23 g1 pH ["self"] (zDx C)) (bW:zX K pH ["self"] [])
  (GC:Gd P w K mg base 23 g2 pI ["plan"] yw "check_plan")
  (GN:Gd P w K mg base 23 g3 pJ ["plan","number"] zJD "check_number"):FnOk P w K mg base zU 24 f fd ["plan","one","other"] zMz:=by
 refine F.ok zSs ?_ ?_
 .rintro _ _ _ _ ⟨t,a,b,ns,ss,i,j,rfl,_⟩
  rfl
 rintro _ A _ s H _ Q E hr ⟨t,a,b,ns,ss,i,j,rfl,pl,hi,hj,q⟩;have n1:=pl.ok.n1;have n2:=pl.ok.n2;have noi:∀{i:Nat},i<ns.length->∀m<i,ns[m]?≠some (ns.getD i 0):=λ{i} hi m hm z=>by
  rw [jt (by lia)] at z;have:=zDE pl.ok.n (by lia) hi (Option.some.inj z);lia
 refine ⟨_,(zD (zo (zL GC hr (zA (pv 0) zB))) (zD (zo (zL GN hr (zA (pv 0) (zA (pv 1) zB)))) (zD (zo (zL GN hr (zA (pv 0) (zA (pv 2) zB)))) (zG (zM (Zs (j4 MT GI hr rfl mT bI .nil ze (zA (pv 0) (zA (zv (zA (YF qk Xt Xu zCc (zz zh (pv 0) zJ) (zA (pv 1) zB)) zB)) (zA (zv (zA (YF qk Xt Xu zCc (zz zh (pv 0) zJ) (zA (pv 2) zB)) zB)) zB)))) T.cl mW GW hr bW .nil ze)))))),?_⟩;refine ⟨_,rfl,t,a,b,ns,ss,rfl,pl,?_⟩;refine ⟨_,rfl,_,rfl,t,a,b,ns,ss,i,rfl,pl,hi,?_⟩;refine ⟨_,rfl,_,rfl,t,a,b,ns,ss,j,rfl,pl,hj,?_⟩;refine ⟨_,rfl,_,rfl,t,_,0,_,rfl,rfl,ZD.of pl.t,rfl, .inl ⟨rfl,_,zK.of pl.a⟩,_,rfl,a,ns,_,i,rfl,rfl,pl.a,jt hi,noi hi,by lia,(by show 1<=sizeLine; decide),λl1 hl1=>?_⟩;have g1:zE H (zH H l1 (.lst [.int (i:Int)])):=zE.new hl1 _;have p1:=pl.same g1;have el1:(zH H l1 (.lst [.int (i:Int)])) l1=some (.lst ((iv [i]).map V.int)):=zC;generalize zH H l1 (.lst [.int (i:Int)])=H1 at g1 p1 el1 ⊢;refine ⟨_,rfl,t,_,0,_,rfl,rfl,ZD.of p1.t,rfl, .inl ⟨rfl,_,zK.of p1.a⟩,_,rfl,a,ns,_,j,rfl,rfl,p1.a,jt hj,noi hj,by lia,(by show 1<=sizeLine; decide),λl2 pK=>?_⟩;have g2:zE H1 (zH H1 l2 (.lst [.int (j:Int)])):=zE.new pK _;have el2:(zH H1 l2 (.lst [.int (j:Int)])) l2=some (.lst ((iv [j]).map V.int)):=zC;generalize zH H1 l2 (.lst [.int (j:Int)])=H2 at g2 el2 ⊢;refine λx dx nx ndx nex=>?_;have g3:zE H2 (zH (zH H2 dx (.own x)) x (.ins C dx [])):=λc o hc=>by
  rw [zI (zF hc nx),zI (zF hc ndx)]; exact hc
 refine ⟨x,t,a,b,l1,l2,dx,ns,ss,[i],[j],rfl,zC,(p1.same g2).same g3,g3 _ _ (g2 _ _ el1),g3 _ _ el2,λnr lq ow H3 ex3 how s3 na3 lq3 ow3=>⟨rfl,?_⟩⟩;have g12:=g1.trans g2;have how':H ow=none:=zR (g12.trans g3) how;have g4:zE H H3:=λc o hc=>ex3 c o (zF (g12 _ _ hc) nx) (g3 _ _ (g12 _ _ hc));have N:zu (zO ns ss [i]) ns.length:=Yz pl.ok (λk hk=>by rw [List.mem_singleton.mp hk]; exact hi) (QP _ _);have S3:Y0 C ⟨ns.length,zO ns ss [i],λe=>decide (e=j),[j],x,dx,nr,lq,ow⟩ H3:=by
  refine ⟨s3,na3,lq3,N,λe _=>?_⟩;rw [qu,qw,xc,Qr]
 refine ⟨x,dx,_,rfl,S3.at_,rfl,⟨ns.length,zO ns ss [i],λe=>decide (e=j),[j],x,dx,nr,lq,ow⟩,[],rfl,S3,⟨ow3,zBh⟩,n1,λH4 kvs4 ex4 hk4=>?_⟩;have z:=q H4 (λc o hc=>ex4 c o (zF hc how') (g4 _ _ hc));have ew:ZX (zO ns ss [i]) (λe=>decide (e=j)) (2^ns.length - 1) ns.length=zEE ns ss i j:=by
  have wp:=Nat.one_lt_two_pow (n:=ns.length) (by lia);rw [zAN N (Yo n2) (by lia) (qG _)];have e1:zO ns ss [i] ns.length=[i]:=by unfold zO; rw [qP (QQ _)]
  rw [e1,qh,qO (yM hi),Qo];show ZX _ _ _ i+0=_;rfl
 rw [<-ew] at z;exact z
end
abbrev zND:Stmt:=top 66
abbrev zLB:Stmt:=top 67
abbrev zMO:Stmt:=top 68
abbrev zNV:Stmt:=top 69
theorem Yr:∀{xs ys:List Int},xs.Pairwise (·<·)->ys.Pairwise (·<·)->(∀z,z∈xs↔z∈ys)->xs=ys
 | [],[],_,_,_=>rfl
 | [],y::_,_,_,h=>nomatch (h y).mpr qE
 | x::_,[],_,_,h=>nomatch (h x).mp qE
 | x::xs,y::ys,hx,hy,h=>by
  rw [Xl] at hx hy;have e:x=y:=by
   rcases List.mem_cons.mp ((h x).mp qE) with z | z
   .exact z
   .rcases List.mem_cons.mp ((h y).mpr qE) with z' | z'
    .exact z'.symm
    .have:=hx.1 y z'
     have:=hy.1 x z;lia
  subst e;have:xs=ys:=Yr hx.2 hy.2 λz=>by
   constructor
   .intro hz
    rcases List.mem_cons.mp ((h z).mp (qF _ hz)) with e | q
    .have:=hx.1 z hz; lia
    .exact q
   .intro hz
    rcases List.mem_cons.mp ((h z).mpr (qF _ hz)) with e | q
    .have:=hy.1 z hz; lia
    .exact q
  rw [this]
theorem zCj {R:List Int} (h:1<=R.length):YH (R.map V.int) (-1)=some (.int (R.getD (R.length - 1) 0)):=by
 have h':R≠[]:=λz=>by rw [z] at h; exact v6 h (by decide)
 have e:R=R.dropLast++[R.getLast h']:=(QL h').symm;have e2:R.map V.int=R.dropLast.map V.int++[.int (R.getLast h')]:=by
  conv=>lhs; rw [e]
  rw [qN];rfl
 rw [e2,Jr,qC,qB (by lia),Xs];rfl
theorem zHb (ns:List Int) (k:Nat):JO (ns.map V.int) none (some ((k:Int)+1))=(ns.take (k+1)).map V.int:=by
 unfold JO;have h1:HT.Yj (ns.map V.int).length 0 none=0:=rfl;have h2:HT.Yj (ns.map V.int).length (ns.map V.int).length (some ((k:Int)+1))=min (k+1) ns.length:=by
  have h3:=HT.zHP (ns.map V.int).length (ns.map V.int).length (k+1);rw [qA] at h3 ⊢;exact h3
 rw [h1,h2,v4,Nat.sub_zero,List.map_take];rcases Nat.le_total (k+1) ns.length with z | z
 .rw [vU z]
 .rw [Nat.min_eq_right z,q9 (by rw [qA]; exact qG _),q9 (by rw [qA]; exact z)]
structure YJ (ns ss zs:List Int):Prop where
 ne:1<=zs.length
 nd:zs.Nodup
 sub:∀z∈zs,z∈ns
 nb:nbB ss zs=true
theorem YJ.len (h:YJ ns ss zs):zs.length<=ns.length:=yE h.nd h.sub
def ZI (ss zs:List Int):List Nat:=(List.range (zs.length - 2)).filter λk=>zY ss (zs.getD k 0) (zs.getD (zs.length - 1) 0)
inductive zIn (vs:List V) (H:Hp) (Q:VK) (E:XK):Prop
 | mk (t a b p:Addr) (ns ss zs:List Int):vs=[.ref t, .ref p]->zi H t a b ns ss->H p=some (.lst (zs.map V.int))->YJ ns ss zs->(∀H',zE H H'->Q (.bl true) H')->zIn vs H Q E
inductive zDL (vs:List V) (H:Hp) (Q:VK) (E:XK):Prop
 | mk (t a b p:Addr) (ns ss zs:List Int):vs=[.ref t, .ref p]->zi H t a b ns ss->H p=some (.lst (zs.map V.int))->YJ ns ss zs->(∀H',zE H H'->Q .non H')->zDL vs H Q E
inductive zDR (vs:List V) (H:Hp) (Q:VK) (E:XK):Prop
 | mk (t a b p:Addr) (ns ss zs:List Int):vs=[.ref t, .ref p]->zi H t a b ns ss->H p=some (.lst (zs.map V.int))->1<=zs.length->zs.length<=10->(∀(l:Addr) (H':Hp),zE H H'->H l=none->H' l=some (.lst ((iv (ZI ss zs)).map V.int))->Q (.ref l) H')->zDR vs H Q E
inductive zFS (vs:List V) (H:Hp) (Q:VK) (E:XK):Prop
 | mk (p:Addr) (zs:List Int) (k:Nat):vs=[.ref p, .int k]->H p=some (.lst (zs.map V.int))->zs.length<=10->k<zs.length->(∀(l:Addr) (H':Hp),zE H H'->H l=none->H' l=some (.lst ((zs.take (k+1)++(zs.drop (k+1)).reverse).map V.int))->Q (.ref l) H')->zFS vs H Q E
theorem zJN:FS 2 ["plan","thing"] zND:=zm
theorem zPP (F:Fu K "is_part" zND f fd) (B:jP mg)
  (GL:Gd P w K mg base 4 g1 pH ["thing"] zJG "is_list_of_wholes")
  (GN:Gd P w K mg base 4 g2 pI ["plan","numbers"] zIE "are_neighbours"):FnOk P w K mg base zU 5 f fd ["plan","thing"] zIn:=by
 refine F.ok zJN ?_ ?_
 .rintro _ _ _ _ ⟨t,a,b,p,ns,ss,zs,rfl,_⟩
  rfl
 rintro _ A _ s H _ Q E hr ⟨t,a,b,p,ns,ss,zs,rfl,pl,hp,pk,q⟩;have n10:=pl.ok.n2;have zl:=pk.len;have z1:=pk.ne;have nml:(ns.map V.int).length=ns.length:=qA _;have zml:(zs.map V.int).length=zs.length:=qA _;refine ⟨_,(zD (zd (PW.pt (yi (Zi (ZN (zL GL hr (zA (pv 1) zB)))) (yA (zT YQ (zP zQ rfl B.len qU (zA (pv 1) zB)) zJ (zV _))))) (zG (zM ZU)) zW) (zG (zM (YL (ZT (zAc hr.units) (zP Ye rfl B.sorted xx (zA (pv 1) zB)) (ZR ["number"] rfl (bk zJN) (zj (zz zh (pv 0) zJ)) (λpA C fp s3 H3=>⟨(yI zJN),(Zg (zT (Y3 K) (pv 0) (pv 2) rfl)),(pv 0)⟩)) (zV _)) (yf (zL GN hr (zA (pv 0) (zA (pv 1) zB)))))))),?_⟩;refine ⟨_,rfl,p,zs,rfl,hp,by lia,λH2 g2=>⟨_,rfl,ZG ?_⟩⟩;have hp2:=g2 _ _ hp;refine ⟨_,rfl,p,_,rfl, .inl (zK.of hp2),rfl,_,rfl,zr (λc=>?_) (λ_=>?_)⟩
 .have:=qZ c
  have e:=V.int.inj this;rw [zml] at e;lia
 refine ⟨_,rfl,p,zs,rfl,zK.of hp2,by lia,λl ys hl hperm hle=>?_⟩;have g3:zE H2 (zH H2 l (.lst (ys.map V.int))):=zE.new hl _;have el:zH H2 l (.lst (ys.map V.int)) l=some (.lst (ys.map V.int)):=zC;have pl3:=(pl.same g2).same g3;have hp3:=g3 _ _ hp2;generalize zH H2 l (.lst (ys.map V.int))=H3 at g3 el pl3 hp3 ⊢;refine ⟨_,rfl,t,_,0,_,rfl,rfl,ZD.of pl3.t,rfl,a,rfl,⟨_,zK.of pl3.a⟩,λD hD=>?_⟩;refine yt (U:=[some (.ref t),some (.ref p)]) (xs:=ns.map V.int) (λi=>zs.contains (ns.getD i 0)) (λi=> .int (ns.getD i 0)) (zK.of pl3.a) hD (by lia) (λi H' hi g P hP=>?_) (λi H' hi _ g P hP=>?_) λH4 g4 e4=>?_
 .rw [yJ _ (by rw [nml] at hi; exact hi)]
  exact ⟨_,rfl,_,rfl,p,ns.getD i 0,zs,rfl,rfl,zK.of (g _ _ hp3),_,rfl,hP _ zE.rfl'⟩
 .rw [yJ _ (by rw [nml] at hi; exact hi)]
  exact ⟨_,rfl,hP _ zE.rfl'⟩
 have ef:(((List.range (ns.map V.int).length).filter λi=>zs.contains (ns.getD i 0)).map λi=>V.int (ns.getD i 0))=(ns.filter λx=>zs.contains x).map V.int:=by
  rw [nml,<-Z5 (λx=>zs.contains x) (0:Int) ns,qo];rfl
 rw [ef] at e4;have eq:ys=ns.filter λx=>zs.contains x:=by
  refine Yr (zAY hle (hperm.nodup_iff.mpr pk.nd)) (pl.ok.n.up.filter _) λz=>?_;rw [hperm.mem_iff,QZ,qw];exact ⟨λh=>⟨pk.sub z h,h⟩,λh=>h.2⟩
 have eb:(ys==ns.filter λx=>zs.contains x)=true:=by rw [<-eq]; exact QN _
 refine ⟨_,jF (zK.of (g4 _ _ el)) (zK.of e4),?_⟩;rw [eb];refine ⟨_,rfl,Yu ?_⟩;refine ⟨_,rfl,_,rfl,t,a,b,p,ns,ss,zs,rfl,pl3.same g4,g4 _ _ hp3,by lia,λH5 g5=>?_⟩;rw [pk.nb];exact q _ (g2.trans (g3.trans (g4.trans g5)))
theorem zST:FS 2 ["plan","part"] zLB:=zm
theorem zQX (F:Fu K "check_part" zLB f fd)
  (GC:Gd P w K mg base 5 g1 pH ["plan"] yw "check_plan")
  (GI:Gd P w K mg base 5 g2 pI ["plan","thing"] zIn "is_part"):FnOk P w K mg base zU 6 f fd ["plan","part"] zDL:=by
 refine F.ok zST ?_ ?_
 .rintro _ _ _ _ ⟨t,a,b,p,ns,ss,zs,rfl,_⟩
  rfl
 rintro _ A _ s H _ Q E hr ⟨t,a,b,p,ns,ss,zs,rfl,pl,hp,pk,q⟩;refine ⟨_,(zD (zo (zL GC hr (zA (pv 0) zB))) (zG (zd (Zi (ZN (zL GI hr (zA (pv 0) (zA (pv 1) zB))))) (zG yS) zW))),?_⟩;exact ⟨_,rfl,t,a,b,ns,ss,rfl,pl,_,rfl,_,rfl,t,a,b,p,ns,ss,zs,rfl,pl,hp,pk,λH2 g2=>⟨_,rfl,ZG (q _ g2)⟩⟩
theorem zIT:FS 2 ["plan","part"] zMO:=zm
theorem zQv (F:Fu K "places_to_turn" zMO f fd) (B:jP mg)
  (GA:Gd P w K mg base 1 g1 pH ["plan","one","other"] zBE "add_up"):FnOk P w K mg base zU 2 f fd ["plan","part"] zDR:=by
 refine F.ok zIT ?_ ?_
 .rintro _ _ _ _ ⟨t,a,b,p,ns,ss,zs,rfl,_⟩
  rfl
 rintro _ A _ s H _ Q E hr ⟨t,a,b,p,ns,ss,zs,rfl,pl,hp,z1,z10,q⟩;refine ⟨_,(zG (zM (ZR ["place"] rfl (bk zIT) (yx rfl B.range (zA (zS yc (zP zQ rfl B.len qU (zA (pv 1) zB)) zJ) zB)) (λpA C fp s3 H3=>⟨(yI zIT),(Zg (ZN (zL GA hr (zA (pv 1) (zA (zz (jL K) (pv 2) (pv 0)) (zA (zz (jL K) (pv 2) (Y9 Yc zJ)) zB)))))),(pv 0)⟩)))),?_⟩;have zml:(zs.map V.int).length=zs.length:=qA _;refine ⟨_,rfl,p,_,rfl, .inl (zK.of hp),_,_,rfl,rfl,_,rfl,by rw [zml]; lia,by rw [zml]; lia,λD hD=>?_⟩;have en:(((zs.map V.int).length:Int) - 2).toNat=zs.length - 2:=by rw [zml]; lia
 rw [en];refine zCY (lo:=0) (n:=zs.length - 2) (U:=[some (.ref t),some (.ref p)]) (λi=>zY ss (zs.getD i 0) (zs.getD (zs.length - 1) 0)) (λi=> .int ((i:Nat):Int)) hD (by lia) (λi H' hi g P hP=>?_) (λi H' hi _ g P hP=>?_) λH2 g2 e2=>?_
 .have h1:YH (zs.map V.int) (0+(i:Int))=some (.int (zs.getD i 0)):=by
   rw [xP];exact Zx (by rw [qM,qC,qB (by lia)]; rfl)
  have h2:YH (zs.map V.int) (-1)=some (.int (zs.getD (zs.length - 1) 0)):=zCj z1;exact ⟨_,rfl,_,rfl,_,rfl,p,_,_,_,rfl,rfl,zK.of (g _ _ hp),h1,_,rfl,_,rfl,p,_,_,_,rfl,rfl,zK.of (g _ _ hp),h2,t,a,b,ns,ss,_,_,rfl,pl.same g,_,rfl,hP _ zE.rfl'⟩
 .rw [<-xP (i:Int)] at hP
  exact ⟨_,rfl,hP _ zE.rfl'⟩
 refine q D H2 g2 hD ?_;rw [e2];unfold ZI iv;rw [qo];rfl
theorem zRt:FS 2 ["part","place"] zNV:=zm
theorem zQB (F:Fu K "turned_behind" zNV f fd) (B:jP mg) (zrev:mg "reversed"=none):FnOk P w K mg base zU 1 f fd ["part","place"] zFS:=by
 refine F.ok zRt ?_ ?_
 .rintro _ _ _ _ ⟨p,zs,k,rfl,_⟩
  rfl
 rintro _ A _ s H _ Q E hr ⟨p,zs,k,rfl,hp,z10,hk,q⟩;refine ⟨_,(zG (zM (zS Yt (j6 Ji (pv 0) Jd (Je (zS ZA (pv 1) zJ))) (zGu rfl rfl zrev rfl B.list (zA (j6 Ji (pv 0) (Je (zS ZA (pv 1) zJ)) Jd) zB))))),?_⟩;refine ⟨_,rfl,_,rfl,_,_,rfl,rfl,_,rfl,p,_,rfl,zK.of hp,λc1 hc1=>?_⟩;rw [zHb zs k];have g1:=zE.new hc1 (.lst ((zs.take (k+1)).map V.int));have e1:zH H c1 (.lst ((zs.take (k+1)).map V.int)) c1=some (.lst ((zs.take (k+1)).map V.int)):=zC;generalize zH H c1 (.lst ((zs.take (k+1)).map V.int))=H1 at g1 e1 ⊢;refine ⟨_,rfl,_,rfl,_,_,rfl,rfl,_,rfl,p,_,rfl,zK.of (g1 _ _ hp),λc2 hc2=>?_⟩;rw [zDA zs k];have g2:=zE.new hc2 (.lst ((zs.drop (k+1)).map V.int));refine ⟨c2,_,rfl,zC,λr hr=>?_⟩;have g3:=zE.new hr (.lst ((zs.drop (k+1)).map V.int).reverse);refine ⟨c1,r,_,_,rfl,rfl,g3 _ _ (g2 _ _ e1),zC,by rw [Qh,qA,qA,QC,Qg]; exact qQ (by lia:_<=1000) (by decide),λo ho=>?_⟩;have g4:=zE.new ho (.lst ((zs.take (k+1)).map V.int++((zs.drop (k+1)).map V.int).reverse));have gg:=g1.trans (g2.trans (g3.trans g4));refine q o _ gg (zR (g1.trans (g2.trans g3)) ho) ?_;rw [zC,qN,List.map_reverse]
abbrev zLU:Stmt:=top 70
abbrev zNf:Stmt:=top 71
theorem Jp (h1:H a=some (.lst (xs.map V.int))) (h2:H b=some (.lst (xs.map V.int))):Y7 K H (.ref a) (.ref b) true:=by
 have q:=jF (K:=K) (zK.of h1) (zK.of h2);rw [QN] at q;exact q
theorem zGi (ne:a≠b) (h1:H a=some (.lst (xs.map V.int))) (h2:H b=some (.lst (xs.map V.int))):Ym K H (n+1) (.ref a) (.ref b) true:=by
 have q:=zCq (K:=K) (n:=n) ne (zK.of h1) (zK.of h2);rw [QN] at q;exact q
theorem zDG {a1 a2 b1 b2:Addr} (ha:H a=some (.tup [.ref a1, .ref a2])) (hb:H b=some (.tup [.ref b1, .ref b2])) (h1:H a1=some (.lst (xs.map V.int))) (h2:H a2=some (.lst (ys.map V.int)))
  (h3:H b1=some (.lst (xs.map V.int))) (h4:H b2=some (.lst (ys.map V.int))) (n1:a1≠b1) (n2:a2≠b2):Y7 K H (.ref a) (.ref b) true:=by
 refine Y7.tup (e:=λ_=>true) (ZD.of ha) (ZD.of hb) rfl λj x y hx hy=>?_
 match j with
 | 0=>cases hx; cases hy; exact zGi n1 h1 h3
 | 1=>cases hx; cases hy; exact zGi n2 h2 h4
 | _+2=>cases hx
def Zf (zs:List Int) (k:Nat):List Int:=zs.take (k+1)++(zs.drop (k+1)).reverse
inductive zIt (vs:List V) (H:Hp) (Q:VK) (E:XK):Prop
 | mk (t a b p:Addr) (ns ss zs:List Int):vs=[.ref t, .ref p]->zi H t a b ns ss->H p=some (.lst (zs.map V.int))->YJ ns ss zs->(∀(l:Addr) (H':Hp),zE H H'->H l=none->H' l=some (.lst ((iv (ZI ss zs)).map V.int))->Q (.ref l) H')->zIt vs H Q E
inductive zHr (vs:List V) (H:Hp) (Q:VK) (E:XK):Prop
 | mk (t a b p:Addr) (ns ss zs:List Int) (k:Nat):vs=[.ref t, .ref p, .int k]->zi H t a b ns ss->H p=some (.lst (zs.map V.int))->YJ ns ss zs->k∈ZI ss zs->(∀(l:Addr) (H':Hp),zE H H'->H l=none->H' l=some (.lst ((Zf zs k).map V.int))->Q (.ref l) H')->zHr vs H Q E
theorem zRL:FS 2 ["plan","part"] zLU:=zm
theorem zQG (F:Fu K "turn_places" zLU f fd)
  (GC:Gd P w K mg base 6 g1 pH ["plan","part"] zDL "check_part")
  (GP:Gd P w K mg base 6 g2 pI ["plan","part"] zDR "places_to_turn"):FnOk P w K mg base zU 7 f fd ["plan","part"] zIt:=by
 refine F.ok zRL ?_ ?_
 .rintro _ _ _ _ ⟨t,a,b,p,ns,ss,zs,rfl,_⟩
  rfl
 rintro _ A _ s H _ Q E hr ⟨t,a,b,p,ns,ss,zs,rfl,pl,hp,pk,q⟩;have n10:=pl.ok.n2;have zl:=pk.len;refine ⟨_,(zD (zo (zL GC hr (zA (pv 0) (zA (pv 1) zB)))) (zG (zM (zL GP hr (zA (pv 0) (zA (pv 1) zB)))))),?_⟩;refine ⟨_,rfl,_,rfl,t,a,b,p,ns,ss,zs,rfl,pl,hp,pk,λH2 g2=>?_⟩;exact ⟨_,rfl,_,rfl,t,a,b,p,ns,ss,zs,rfl,pl.same g2,g2 _ _ hp,pk.ne,by lia,λl H3 g3 nl el=>q l H3 (g2.trans g3) (zR g2 nl) el⟩
theorem zRu:FS 3 ["plan","part","place"] zNf:=zm
theorem zPq (F:Fu K "turned_at" zNf f fd)
  (GC:Gd P w K mg base 6 g1 pH ["plan","part"] zDL "check_part")
  (GP:Gd P w K mg base 6 g2 pI ["plan","part"] zDR "places_to_turn")
  (GW:Gd P w K mg base 6 g3 pJ ["thing"] Yw "is_whole")
  (GT:Gd P w K mg base 6 g4 gd4 ["part","place"] zFS "turned_behind"):FnOk P w K mg base zU 7 f fd ["plan","part","place"] zHr:=by
 refine F.ok zRu ?_ ?_
 .rintro _ _ _ _ ⟨t,a,b,p,ns,ss,zs,k,rfl,_⟩
  rfl
 rintro _ A _ s H _ Q E hr ⟨t,a,b,p,ns,ss,zs,k,rfl,pl,hp,pk,hk,q⟩;have n10:=pl.ok.n2;have zl:=pk.len;refine ⟨_,(zD (zo (zL GC hr (zA (pv 0) (zA (pv 1) zB)))) (zD (zd (PW.pt (yi (Zi (ZN (zL GW hr (zA (pv 2) zB)))) (yA (zT (yK K) (pv 2) (zL GP hr (zA (pv 0) (zA (pv 1) zB))) rfl)))) (zG yS) zW) (zG (zM (zL GT hr (zA (pv 1) (zA (pv 2) zB))))))),?_⟩;refine ⟨_,rfl,_,rfl,t,a,b,p,ns,ss,zs,rfl,pl,hp,pk,λH2 g2=>?_⟩;refine ⟨_,rfl,_,rfl,_,rfl,ZG ?_⟩;refine ⟨_,rfl,_,rfl,_,rfl,t,a,b,p,ns,ss,zs,rfl,pl.same g2,g2 _ _ hp,pk.ne,by lia,λl H3 g3 nl el=>?_⟩;have mem:(iv (ZI ss zs)).contains ((k:Nat):Int)=true:=List.contains_iff_mem.mpr (List.mem_map.mpr ⟨k,hk,rfl⟩);refine ⟨l,_,iv (ZI ss zs),rfl,rfl,zK.of el,_,rfl,zr (λc=>?_) (λ_=>?_)⟩
 .rw [mem] at c
  exact v6 c (by decide)
 have hkl:k<zs.length:=by
  have:=List.mem_range.mp (List.mem_filter.mp hk).1;lia
 have g23:=g2.trans g3;exact ⟨_,rfl,_,rfl,p,zs,k,rfl,g23 _ _ hp,by lia,hkl,λo H4 g4 no eo=>q o H4 (g23.trans g4) (zR g23 no) eo⟩
theorem jQ {t u:TS} (R:L2.St->Hp->Prop) (ht:∀N:L2.St->Hp->Prop,(∀U' H',R U' H'->N U' H')->t {D with nx:=N} U H) (hu:∀U' H',R U' H'->u D U' H'):JL t u D U H:=ht _ hu
def Z8 (H:Hp) (a:Addr):Nat:=match H a with
 | some (.lst xs)=>xs.length
 | _=>0
theorem Zp {xs:List V} (h:H a=some (.lst xs)):Z8 H a=xs.length:=by unfold Z8; rw [h]
theorem zGo (zs:List Int) (k:Nat):(Zf zs k).Perm zs:=by
 unfold Zf;have h:=(List.reverse_perm (zs.drop (k+1))).append_left (zs.take (k+1));rw [XV] at h;exact h
theorem zGe {k:Nat} (hk:k<zs.length) (hi:i<=k):(Zf zs k).getD i 0=zs.getD i 0:=by
 unfold Zf;rw [qC,qC,QM (by rw [QC]; lia),Xg (by lia)]
theorem zGm {k:Nat} (hk:k<zs.length) (hi:k<i) (hl:i<zs.length):(Zf zs k).getD i 0=zs.getD (zs.length+k - i) 0:=by
 unfold Zf;have tl:(zs.take (k+1)).length=k+1:=by rw [QC]; lia
 rw [qC,qC,q8 (by lia),tl,List.getElem?_reverse (by rw [Qg]; lia),Qg,List.getElem?_drop];rw [show k+1+(zs.length - (k+1) - 1 - (i - (k+1)))=zs.length+k - i by lia]
theorem zJX (ss:List Int) (x y:Int):zY ss x y=zY ss y x:=by
 unfold zY;rw [Int.add_comm x y,decide_eq_decide.mpr (⟨Ne.symm,Ne.symm⟩:x≠y↔y≠x)]
theorem zJe {k:Nat} (pk:YJ ns ss zs) (hk:k∈ZI ss zs):YJ ns ss (Zf zs k):=by
 obtain ⟨h1,h2⟩:=List.mem_filter.mp hk;have h1':=List.mem_range.mp h1;have pm:=zGo zs k;refine ⟨by rw [pm.length_eq]; exact pk.ne,pm.nodup_iff.mpr pk.nd,λz hz=>pk.sub z (pm.mem_iff.mp hz),?_⟩;have nb:=pk.nb;unfold nbB at nb ⊢;rw [xE] at nb ⊢;intro i hi;have hi':=List.mem_range.mp hi;rw [pm.length_eq] at hi';rcases xr i k with z | z | z
 .rw [zGe (by lia) (by lia),zGe (by lia) (by lia)]
  exact nb i (List.mem_range.mpr (by lia))
 .subst z
  rw [zGe (by lia) (qG _),zGm (by lia) (by lia) (by lia),show zs.length+i - (i+1)=zs.length - 1 by lia];exact h2
 .rw [zGm (by lia) z (by lia),zGm (by lia) (by lia) (by lia),zJX]
  have:=nb (zs.length+k - (i+1)) (List.mem_range.mpr (by lia));rw [show zs.length+k - (i+1)+1=zs.length+k - i by lia] at this;exact this
abbrev sAe:Stmt:=top 72
inductive YT (ss zs:List Int):List Int->Prop
 | refl:YT ss zs zs
 | step {r:List Int} {k:Nat} (h:YT ss zs r) (hk:k∈ZI ss r):YT ss zs (Zf r k)
theorem YT.part {r:List Int} (pk:YJ ns ss zs) (h:YT ss zs r):YJ ns ss r/\r.Perm zs:=by
 induction h with
 | refl=>exact ⟨pk,List.Perm.refl _⟩
 | step _ hk ih=>exact ⟨zJe ih.1 hk,(zGo _ _).trans ih.2⟩
def prm:Nat->List Int->List (List Int)
 | 0,_=>[[]]
 | m+1,l=>l.flatMap λx=>(prm m (l.erase x)).map (x::·)
def fac:Nat->Nat
 | 0=>1
 | m+1=>(m+1)*fac m
theorem zRj:∀m≤10,fac m<=3628800:=by decide
theorem zDw:∀(m:Nat) (l:List Int),l.length=m->(prm m l).length<=fac m
 | 0,_,_=>qG _
 | m+1,l,h=>by
  have gen:∀q:List Int,(∀x∈q,x∈l)->(q.flatMap λx=>(prm m (l.erase x)).map (x::·)).length<=q.length*fac m:=λq=>by
   induction q with
   | nil=>intro _; exact QF _
   | cons x q ih=>
    intro hq;have h1:=ih λy hy=>hq y (qF _ hy);have h2:=zDw m (l.erase x) (by rw [Qb (hq x qE)]; lia);rw [QH,qJ,qA,qT,Nat.add_mul];lia
  have:=gen l λ_ h=>h;rw [h] at this;exact this
theorem zEC:∀(m:Nat) (l r:List Int),l.length=m->r.Perm l->r∈prm m l
 | 0,l,r,h,p=>by
  have:l=[]:=List.length_eq_zero_iff.mp h;rw [this] at p;rw [p.eq_nil];exact List.mem_singleton.mpr rfl
 | m+1,l,[],h,p=>by
  have:=p.length_eq;rw [h] at this;cases this
 | m+1,l,x::r,h,p=>by
  have hx:x∈l:=p.mem_iff.mp qE;have pe:r.Perm (l.erase x):=List.Perm.cons_inv (p.trans (List.perm_cons_erase hx));exact List.mem_flatMap.mpr ⟨x,hx,List.mem_map.mpr ⟨r,zEC m (l.erase x) r (by rw [Qb hx]; lia) pe,rfl⟩⟩
theorem zCw {α:Type} [DecidableEq α]:∀{xs ys:List α},xs.Nodup->(∀x∈xs,x∈ys)->xs.length<=ys.length
 | [],_,_,_=>QF _
 | x::xs,ys,nd,h=>by
  obtain ⟨h1,nd'⟩:=List.nodup_cons.mp nd;have hx:=h x qE;have ih:=zCw (ys:=ys.erase x) nd' λy hy=>(xu (λe:y=x=>h1 (e▸hy))).mpr (h y (qF _ hy));rw [Qb hx] at ih;have:0<ys.length:=xA hx;rw [qT];lia
theorem zMR {l:List Int} (h10:l.length<=10) (nd:R.Nodup) (h:∀r∈R,r.Perm l):R.length<=3628800:=
 qQ (zCw nd λr hr=>zEC _ l r rfl (h r hr)) (qQ (zDw _ l rfl) (zRj _ h10))
def kR (r:List Int):List zZ:=r.map Sum.inl
def ZZ (R:List (List Int)):List (List zZ×V):=R.map λr=>(kR r,V.bl true)
theorem zPx {r q:List Int} (h:kR r=kR q):r=q:=List.map_inj_right (λ_ _ z=>Sum.inl.inj z)|>.mp h
theorem zDC (r:List Int):(kR r).map kV=r.map V.int:=by unfold kR; rw [qo]; rfl
theorem Jc (R:List (List Int)) (r:List Int):(ZJ (ZZ R) (kR r)).isSome=decide (r∈R):=by
 rw [<-yR,qu,X7,X0];constructor
 .rintro ⟨kv,hm,e⟩
  obtain ⟨q,hq,rfl⟩:=List.mem_map.mp hm;have:=zPx (qZ e);exact this▸hq
 .intro h
  exact ⟨_,List.mem_map.mpr ⟨r,h,rfl⟩,qK rfl⟩
def zJW (H:Hp) (a:Addr):Nat:=match H a with
 | some (.dT pB)=>pB.length
 | _=>0
def muA (se wa:Addr):L2.St->Hp->Nat:=λ_ H=>2*(3628801 - zJW H se)+Z8 H wa
theorem zJl {se:Addr} {xs:List V} (h1:H se=some (.dT (ZZ R))) (h2:H wa=some (.lst xs)):muA se wa U H=2*(3628801 - R.length)+xs.length:=by
 unfold muA zJW;rw [h1,Zp h2];show 2*(3628801 - (ZZ R).length)+xs.length=_;unfold ZZ;rw [qA]
inductive zMM (vs:List V) (H:Hp) (Q:VK) (E:XK):Prop
 | mk (t a b p:Addr) (ns ss zs:List Int):vs=[.ref t, .ref p]->zi H t a b ns ss->H p=some (.lst (zs.map V.int))->YJ ns ss zs->(∀(l:Addr) (ys:List Int) (H':Hp),zE H H'->H l=none->H' l=some (.lst (ys.map V.int))->ys.Pairwise (·<·)->(∀y,y∈ys↔∃r,YT ss zs r/\r.getD (r.length - 1) 0=y)->Q (.ref l) H')->zMM vs H Q E
theorem zBc:FS 2 ["plan","part","seen","waiting","here","place","turned"] sAe:=zm
theorem zRO (F:Fu K "all_ends" sAe f fd) (B:jP mg) (zset:mg "set"=none)
  (GC:Gd P w K mg base j g1 pH ["plan","part"] zDL "check_part")
  (GP:Gd P w K mg base j g2 pI ["plan","part"] zDR "places_to_turn")
  (GT:Gd P w K mg base j g3 pJ ["part","place"] zFS "turned_behind"):FnOk P w K mg base zU (j+1) f fd ["plan","part"] zMM:=by
 refine F.ok zBc ?_ ?_
 .rintro _ _ _ _ ⟨t,a,b,p,ns,ss,zs,rfl,_⟩
  rfl
 rintro _ A _ s H _ Q E hr ⟨t,a,b,p,ns,ss,zs,rfl,pl0,hp0,pk,q⟩;have hu:=zAD hr;have n10:=pl0.ok.n2;have z10:zs.length<=10:=qQ pk.len n10;refine ⟨_,(zD (zo (zL GC hr (zA (pv 0) (zA (pv 1) zB)))) (zD (zt 2 zBc.nd (zLr hu (ZE Yb rfl B.tuple Q4 (zA (pv 1) zB)) ZU)) (zD (zt 3 zBc.nd (zv (zA (pv 1) zB))) (zD (YV qi (zGV (pv 3) (λ_=>rfl)) (zD (zt 4 zBc.nd (zFp qk XU vH zEb (pv 3))) (zG (Zq qi rfl (zj (zL GP hr (zA (pv 0) (zA (pv 4) zB)))) (Yk 5 zBc.nd) (zD (zt 6 zBc.nd (zL GT hr (zA (pv 4) (zA (pv 5) zB)))) (zG (zd (zBo (JG hu (ZE Yb rfl B.tuple Q4 (zA (pv 6) zB)) (pv 2))) (zD (j8 hu (pv 2) (ZE Yb rfl B.tuple Q4 (zA (pv 6) zB)) ZU rfl) (zG (zo (YF qk QT QU yY (pv 3) (zA (pv 6) zB))))) zW))))))) (zG (zM (zAS rfl rfl B.sorted rfl zset (zGL (ZR ["numbers"] rfl (bk zBc) (zGd (pv 2)) (λpA C fp s3 H3=>⟨(yI zBc),yN,(zz (j5 K) (pv 0) (Y9 Yc zJ))⟩)))))))))),?_⟩;refine ⟨_,rfl,_,rfl,t,a,b,p,ns,ss,zs,rfl,pl0,hp0,pk,λH1 g1=>?_⟩;have pl1:=pl0.same g1;have hp1:=g1 _ _ hp0;intro se hse;have g2:=zE.new hse (.dT []);refine ⟨_,rfl,p,_,rfl, .inl ⟨zK.of (g2 _ _ hp1),λkt hkt=>?_⟩⟩;have sk:se≠kt:=λz=>by rw [<-z,zC] at hkt; cases hkt
 refine ⟨by rw [zI sk]; exact zC,kt,kR zs,rfl,by rw [zC,zDC],?_⟩;have hkt1:H1 kt=none:=zR g2 hkt;have g3:zE H1 (zH (zH (zH H1 se (.dT [])) kt (.tup (zs.map V.int))) se (.dT [(kR zs, .bl true)])):=λc o hc=>by
  rw [zI (zF hc hse),zI (zF hc hkt1),zI (zF hc hse)];exact hc
 have e3:zH (zH (zH H1 se (.dT [])) kt (.tup (zs.map V.int))) se (.dT [(kR zs, .bl true)]) se=some (.dT (ZZ [zs])):=zC;generalize zH (zH (zH H1 se (.dT [])) kt (.tup (zs.map V.int))) se (.dT [(kR zs, .bl true)])=H3 at g3 e3 ⊢;refine ⟨_,rfl,(by show 1<=sizeLine; decide),λwa hwa=>?_⟩;have g4:=zE.new hwa (.lst [.ref p]);have ws:wa≠se:=Ne.symm (zF e3 hwa);have e4:zH H3 wa (.lst [.ref p]) wa=some (.lst ([(p,zs)].map λq=>V.ref q.1)):=zC;have e34:=g4 _ _ e3;have g14:=g3.trans g4;have hwa1:H1 wa=none:=zR g3 hwa;generalize zH H3 wa (.lst [.ref p])=H4 at g4 e4 e34 g14 ⊢;have pl4:=pl1.same g14;have hp4:=g14 _ _ hp1;have ns_:∀{c:Addr} {o:HO},H1 c=some o->c≠se/\c≠wa:=λh=>⟨zF h hse,zF h hwa1⟩;dsimp only [ZW,JL];refine yy (λU H'=>∃(x4 x5 x6:Option V) (R:List (List Int)) (PW:List (Addr×List Int)),U=[some (.ref t),some (.ref p),some (.ref se),some (.ref wa),x4,x5,x6]/\Ex (λb=>b=se\/b=wa) H4 H'/\H' se=some (.dT (ZZ R))/\H' wa=some (.lst (PW.map λq=>V.ref q.1))/\
   (∀q∈PW,H' q.1=some (.lst (q.2.map V.int))/\q.1≠se/\q.1≠wa/\q.2∈R)/\R.Nodup/\(∀r∈R,YT ss zs r)/\zs∈R/\PW.length<=R.length/\∀r∈R,(∃q∈PW,q.2=r)\/∀k∈ZI ss r,Zf r k∈R)
  (muA se wa) ⟨none,none,none,[zs],[(p,zs)],rfl,Ex.refl,e34,e4,λq hq=>by rw [List.mem_singleton.mp hq]; exact ⟨hp4,(ns_ hp1).1,(ns_ hp1).2,List.mem_singleton.mpr rfl⟩,by simp,λr hr=>by rw [List.mem_singleton.mp hr]; exact .refl,List.mem_singleton.mpr rfl,qG _,λr hr=> .inl ⟨_,List.mem_singleton.mpr rfl,by rw [List.mem_singleton.mp hr]⟩⟩ ?_
 rintro U HA ⟨x4,x5,x6,R,PW,rfl,EA,eS,eW,rows,nd,tr,zin,le,cl⟩;have inE:∀{c:Addr} {o:HO} {H':Hp},H1 c=some o->Ex (λb=>b=se\/b=wa) H4 H'->H' c=some o:=λ{c o H'} h e=>e _ _ (λz=>z.elim (ns_ h).1 (ns_ h).2) (g14 _ _ h);have prm_:∀{r:List Int},YT ss zs r->r.length<=10/\1<=r.length:=λh=>by
  obtain ⟨h1,h2⟩:=h.part pk;exact ⟨by rw [h2.length_eq]; exact z10,h1.ne⟩
 have cap:∀{R':List (List Int)},R'.Nodup->(∀r∈R',YT ss zs r)->R'.length<=3628800:=λn h=>zMR z10 n λr hr=>((h r hr).part pk).2;refine ⟨_,rfl,_, .inl ⟨_,zK.of eW,rfl⟩,zr (λc=>?_) (λc=>?_)⟩
 .have ne:PW≠[]:=λz=>by rw [z] at c; cases c
  obtain ⟨P0,x,eP⟩:∃P0 x,PW=P0++[x]:=⟨PW.dropLast,PW.getLast ne,(QL ne).symm⟩;subst eP;obtain ⟨hx,xs_,xw,xR⟩:=rows x (qS _ (List.mem_singleton.mpr rfl));have mu0:∀U,muA se wa U HA=2*(3628801 - R.length)+(P0.length+1):=λU=>by rw [zJl eS eW,qA,qJ]; rfl
  refine ⟨λU' H'=>muA se wa U' H'<muA se wa [some (.ref t),some (.ref p),some (.ref se),some (.ref wa),x4,x5,x6] HA/\_,λU' H' h=>⟨_,h.1,rfl,h.2⟩,?_⟩;rw [mu0];refine ⟨_,rfl, .inl ⟨rfl,_,zK.of eW⟩,wa,P0.map (λq=>V.ref q.1), .ref x.1,rfl,rfl,by rw [eW,qN]; rfl,?_⟩;have EB:Ex (λb=>b=se\/b=wa) H4 (zH HA wa (.lst (P0.map λq=>V.ref q.1))):=EA.trans (Ex.put _ (.inr rfl));have eW1:zH HA wa (.lst (P0.map λq=>V.ref q.1)) wa=some (.lst (P0.map λq=>V.ref q.1)):=zC;have eS1:zH HA wa (.lst (P0.map λq=>V.ref q.1)) se=some (.dT (ZZ R)):=by rw [zI (Ne.symm ws)]; exact eS
  have hx1:zH HA wa (.lst (P0.map λq=>V.ref q.1)) x.1=some (.lst (x.2.map V.int)):=by rw [zI xw]; exact hx
  have rows1:∀q∈P0,zH HA wa (.lst (P0.map λq=>V.ref q.1)) q.1=some (.lst (q.2.map V.int))/\q.1≠se/\q.1≠wa/\q.2∈R:=λq hq=>by
   obtain ⟨r1,r2,r3,r4⟩:=rows q (qX _ hq);exact ⟨by rw [zI r3]; exact r1,r2,r3,r4⟩
  generalize zH HA wa (.lst (P0.map λq=>V.ref q.1))=HB at EB eW1 eS1 hx1 rows1 ⊢;have lP:P0.length+1<=R.length:=by rw [qJ] at le; exact le
  obtain ⟨x10,x1⟩:=prm_ (tr _ xR);have plB:zi HB t a b ns ss:=⟨inE pl1.t EB,inE pl1.a EB,inE pl1.b EB,pl0.ok⟩;refine ⟨_,rfl,_,rfl,t,a,b,x.1,ns,ss,x.2,rfl,plB,hx1,x1,x10,λL HC gC nL eL=>?_⟩;have kml:((iv (ZI ss x.2)).map V.int).length=(ZI ss x.2).length:=by rw [qA,yV]
  have pls:∀k∈ZI ss x.2,k<x.2.length:=λk hk=>by
   have:=List.mem_range.mp (List.mem_filter.mp hk).1;lia
  have Ls:L≠se:=Ne.symm (zF eS1 nL);have Lw:L≠wa:=Ne.symm (zF eW1 nL);have EC:Ex (λb=>b=se\/b=wa) H4 HC:=EB.trans (Ex.same gC);refine ⟨L,rfl,⟨_,zK.of eL⟩,?_⟩;refine yz (xs:=(iv (ZI ss x.2)).map V.int) (λi U H'=>∃(x5 x6:Option V) (R':List (List Int)) (P':List (Addr×List Int)),U=[some (.ref t),some (.ref p),some (.ref se),some (.ref wa),some (.ref x.1),x5,x6]/\Ex (λb=>b=se\/b=wa) HC H'/\H' se=some (.dT (ZZ R'))/\H' wa=some (.lst (P'.map λq=>V.ref q.1))/\
    (∀q∈P',H' q.1=some (.lst (q.2.map V.int))/\q.1≠se/\q.1≠wa/\q.2∈R')/\R'.Nodup/\(∀r∈R',YT ss zs r)/\(∀r∈R,r∈R')/\P'.length+1<=R'.length/\2*(3628801 - R'.length)+P'.length<=2*(3628801 - R.length)+P0.length/\(∀k∈(ZI ss x.2).take i,Zf x.2 k∈R')/\∀r∈R',(∃q∈P',q.2=r)\/r=x.2\/∀k∈ZI ss r,Zf r k∈R')
   ⟨x5,x6,R,P0,rfl,Ex.refl,gC _ _ eS1,gC _ _ eW1,λq hq=>⟨gC _ _ (rows1 q hq).1,(rows1 q hq).2⟩,nd,tr,λr h=>h,lP,qG _,(λk hk=>nomatch hk),λr hr=>?_⟩ (λi U H' _ ⟨_,_,_,_,_,ex,_⟩=>zK.of (ex _ _ (λz=>z.elim Ls Lw) eL)) ?_ ?_
  .rcases cl r hr with ⟨q,hq,e⟩ | h
   .rcases List.mem_append.mp hq with z | z
    .exact .inl ⟨q,z,e⟩
    .rw [List.mem_singleton.mp z] at e
     exact .inr (.inl e.symm)
   .exact .inr (.inr h)
  .rintro i y U HD hy ⟨y5,y6,R',P',rfl,ED,eSD,eWD,rowsD,ndD,trD,sub,leD,mu,done,clD⟩
   have hi:i<(ZI ss x.2).length:=by rw [<-kml]; exact (List.getElem?_eq_some_iff.mp hy).1
   have ek:(ZI ss x.2)[i]?=some (ZI ss x.2)[i]:=qB hi;rw [yb ek] at hy;cases hy;have hkp:=qg hi;generalize (ZI ss x.2)[i]=k at ek hkp ⊢;have hxD:=ED _ _ (λz=>z.elim xs_ xw) (gC _ _ hx1);refine ⟨_,rfl,_,rfl,x.1,x.2,k,rfl,hxD,x10,pls k hkp,λl HE gE nl el=>?_⟩;have el:HE l=some (.lst ((Zf x.2 k).map V.int)):=el;have eSE:=gE _ _ eSD;have eWE:=gE _ _ eWD;have ls:l≠se:=Ne.symm (zF eSD nl);have lw:l≠wa:=Ne.symm (zF eWD nl);have tk1:(ZI ss x.2).take (i+1)=(ZI ss x.2).take i++[k]:=by rw [QR,ek]; rfl
   have xR':x.2∈R':=sub _ xR;refine ⟨_,rfl,l,_,rfl, .inl ⟨zK.of el,λk1 hk1=>?_⟩⟩;have g5:=zE.new hk1 (.tup ((Zf x.2 k).map V.int));have ek1:zH HE k1 (.tup ((Zf x.2 k).map V.int)) k1=some (.tup ((kR (Zf x.2 k)).map kV)):=by rw [zC,zDC]
   have eSF:=g5 _ _ eSE;have eWF:=g5 _ _ eWE;have elF:=g5 _ _ el;have gF:=gE.trans g5;generalize zH HE k1 (.tup ((Zf x.2 k).map V.int))=HF at g5 ek1 eSF eWF elF gF ⊢;have EF:Ex (λb=>b=se\/b=wa) HC HF:=ED.trans (Ex.same gF);refine ⟨_,rfl,se,_,rfl,YX.t eSF ek1,_,rfl,zr (λc=>?_) (λc=>?_)⟩
   .have nin:Zf x.2 k∉R':=λz=>by
     have c':(!(ZJ (ZZ R') (kR (Zf x.2 k))).isSome)=true:=c;rw [Jc,qK z] at c';cases c'
    have vnone:ZJ (ZZ R') (kR (Zf x.2 k))=none:=by
     have:=Jc R' (Zf x.2 k);rw [qa nin] at this;exact Option.isSome_eq_false_iff.mp this|>Option.isNone_iff_eq_none.mp
    have cp:=cap ndD trD;refine ⟨_,rfl,_,rfl,l,_,rfl, .inl ⟨zK.of elF,λk2 hk2=>?_⟩⟩;have g6:=zE.new hk2 (.tup ((Zf x.2 k).map V.int));have ek2:zH HF k2 (.tup ((Zf x.2 k).map V.int)) k2=some (.tup ((kR (Zf x.2 k)).map kV)):=by rw [zC,zDC]
    have eSG:=g6 _ _ eSF;have eWG:=g6 _ _ eWF;have elG:=g6 _ _ elF;have gG:=gF.trans g6;generalize zH HF k2 (.tup ((Zf x.2 k).map V.int))=HG at g6 ek2 eSG eWG elG gG ⊢;have EG:Ex (λb=>b=se\/b=wa) HC HG:=ED.trans (Ex.same gG);have klen:(ZZ R').length=R'.length:=by unfold ZZ; exact qA _
    refine ⟨se,_,rfl,jp.t eSG ek2 (by rw [klen,Ql]; lia),?_⟩;have ep:Zd (ZZ R') (kR (Zf x.2 k)) (.bl true)=ZZ (R'++[Zf x.2 k]):=by
     rw [J2 _ vnone];unfold ZZ;rw [qN];rfl
    rw [ep];have EH:Ex (λb=>b=se\/b=wa) HC (zH HG se (.dT (ZZ (R'++[Zf x.2 k])))):=EG.trans (Ex.put _ (.inl rfl));have eSH:zH HG se (.dT (ZZ (R'++[Zf x.2 k]))) se=some (.dT (ZZ (R'++[Zf x.2 k]))):=zC;have eWH:zH HG se (.dT (ZZ (R'++[Zf x.2 k]))) wa=some (.lst (P'.map λq=>V.ref q.1)):=by rw [zI ws]; exact eWG
    have elH:zH HG se (.dT (ZZ (R'++[Zf x.2 k]))) l=some (.lst ((Zf x.2 k).map V.int)):=by rw [zI ls]; exact elG
    have rowsH:∀q∈P',zH HG se (.dT (ZZ (R'++[Zf x.2 k]))) q.1=some (.lst (q.2.map V.int))/\q.1≠se/\q.1≠wa/\q.2∈R':=λq hq=>by
     obtain ⟨r1,r2,r3,r4⟩:=rowsD q hq;exact ⟨by rw [zI r2]; exact gG _ _ r1,r2,r3,r4⟩
    generalize zH HG se (.dT (ZZ (R'++[Zf x.2 k])))=HH at EH eSH eWH elH rowsH ⊢;refine ⟨_,rfl, .inl ⟨rfl,_,zK.of eWH⟩,_,rfl,wa,_,_,rfl,rfl,eWH,by rw [qA,Ql]; lia,?_⟩;have ndN:(R'++[Zf x.2 k]).Nodup:=List.nodup_append.mpr ⟨ndD,by simp,λu hu v hv e=>nin (by rw [List.mem_singleton.mp hv] at e; exact e▸hu)⟩;have trN:∀r∈R'++[Zf x.2 k],YT ss zs r:=λr hr=>by
     rcases List.mem_append.mp hr with z | z
     .exact trD r z
     .rw [List.mem_singleton.mp z]; exact .step (trD _ xR') hkp
    have cpN:=cap ndN trN;rw [qJ] at cpN;have cpN:R'.length+1<=3628800:=cpN;refine ⟨_,_,R'++[Zf x.2 k],P'++[(l,Zf x.2 k)],rfl,EH.trans (Ex.put _ (.inr rfl)),by rw [zI (Ne.symm ws)]; exact eSH,by rw [zC,qN]; rfl,λq hq=>?_,ndN,trN,λr hr=>qX _ (sub r hr),by rw [qJ,qJ]; show P'.length+1+1<=R'.length+1; lia,by rw [qJ,qJ]; show 2*(3628801 - (R'.length+1))+(P'.length+1)<=_; lia,λk' pO=>?_,λr hr=>?_⟩
    .rcases List.mem_append.mp hq with z | z
     .obtain ⟨r1,r2,r3,r4⟩:=rowsH q z
      exact ⟨by rw [zI r3]; exact r1,r2,r3,qX _ r4⟩
     .rw [List.mem_singleton.mp z]
      exact ⟨by rw [zI lw]; exact elH,ls,lw,qS _ (List.mem_singleton.mpr rfl)⟩
    .rw [tk1] at pO
     rcases List.mem_append.mp pO with z | z
     .exact qX _ (done k' z)
     .rw [List.mem_singleton.mp z]; exact qS _ (List.mem_singleton.mpr rfl)
    .rcases List.mem_append.mp hr with z | z
     .rcases clD r z with ⟨q,hq,e⟩ | e | h
      .exact .inl ⟨q,qX _ hq,e⟩
      .exact .inr (.inl e)
      .exact .inr (.inr λk' pO=>qX _ (h k' pO))
     .exact .inl ⟨_,qS _ (List.mem_singleton.mpr rfl),(List.mem_singleton.mp z).symm⟩
   .have inn:Zf x.2 k∈R':=by
     rcases Xm (Zf x.2 k∈R') with z | z
     .exact z
     .refine v6 ?_ c
      show (!(ZJ (ZZ R') (kR (Zf x.2 k))).isSome)=true;rw [Jc,qa z];rfl
    refine ⟨_,_,R',P',rfl,EF,eSF,eWF,λq hq=>⟨gF _ _ (rowsD q hq).1,(rowsD q hq).2⟩,ndD,trD,sub,leD,mu,λk' pO=>?_,clD⟩;rw [tk1] at pO;rcases List.mem_append.mp pO with z | z
    .exact done k' z
    .rw [List.mem_singleton.mp z]; exact inn
  .rintro U HD ⟨y5,y6,R',P',rfl,ED,eSD,eWD,rowsD,ndD,trD,sub,leD,mu,done,clD⟩
   rw [kml,q9 (qG _)] at done;refine ⟨?_,_,_,_,R',P',rfl,EC.trans ED,eSD,eWD,rowsD,ndD,trD,sub _ zin,by lia,λr hr=>?_⟩
   .rw [zJl eSD eWD,qA]
    lia
   .rcases clD r hr with h | h | h
    .exact .inl h
    .rw [h]; exact .inr done
    .exact .inr h
 .have pe:PW=[]:=by
   cases PW with
   | nil=>rfl
   | cons x r=>exact v6 rfl c
  subst pe;have all:∀r,YT ss zs r↔r∈R:=λr=>by
   refine ⟨λh=>?_,tr r⟩
   induction h with
   | refl=>exact zin
   | step _ hk ih=>
    rcases cl _ ih with ⟨q,hq,_⟩ | h
    .exact nomatch hq
    .exact h _ hk
  have cp:=cap nd tr;have klen:(ZZ R).length=R.length:=by unfold ZZ; exact qA _
  refine ⟨se,_,eS,λo=>?_⟩;have eF:zH HA se (.frz o (.dT (ZZ R))) se=some (.frz o (.dT (ZZ R))):=zC;refine ⟨_,rfl,se,o,_,rfl,eF,λD hD=>?_⟩;have hDA:HA D=none:=by
   rcases Xm (D=se) with z | z
   .rw [z,zC] at hD; cases hD
   .rw [zI z] at hD; exact hD
  have Ds:se≠D:=zF eF hD;refine Zy (n:=R.length) (λi U' H'=>∃x:Option V,U'=[x,some (.ref t),some (.ref p),some (.ref se),some (.ref wa),x4,x5,x6]/\zE (zH HA se (.frz o (.dT (ZZ R)))) H'/\H' D=some (.lst (((R.take i).map λr=>r.getD (r.length - 1) 0).map V.int)))
   ⟨none,rfl,zE.new hD _,zC⟩ ?_ ?_
  .rintro i U' H' hi ⟨x,rfl,g,eD⟩
   refine ⟨⟨g _ _ eF,by rw [klen]; exact hi⟩,λy H2 hy=>?_⟩;obtain ⟨rfl,kk,b2,h1,rfl,h2⟩:=hy;have ek:R[i]?=some R[i]:=qB hi;have:kk=kR R[i]:=by
    unfold ZZ at h1;rw [qo,qM,ek] at h1;exact (Option.some.inj h1).symm
   subst this;rw [zDC] at h2;refine JF ?_;refine ⟨_,rfl,_,rfl,b2,_,-1,_,rfl,rfl,ZD.of h2,zCj (prm_ (tr _ (qg hi))).2,?_⟩;refine ⟨_,eD,by rw [qA,qA,QC,Ql]; lia,_,rfl,λc o hc=>?_,?_⟩
   .rw [zI (zF hc hD)]
    exact g _ _ hc
   .rw [zC,QR,ek,qN,qN]
    rfl
  .rintro U' H' ⟨x,rfl,g,eD⟩
   refine ⟨⟨g _ _ eF,by rw [klen]; exact qG _⟩,?_⟩;rw [q9 (qG _)] at eD;refine ⟨g _ _ eF,D,R.map λr=>r.getD (r.length - 1) 0,zs,rfl,zK.of (by rw [zI (Ne.symm Ds)]; exact eD),λy hy=>?_,by lia,λl ys hl up my=>?_⟩
   .obtain ⟨r,hr,rfl⟩:=List.mem_map.mp hy
    obtain ⟨h1,h2⟩:=(tr r hr).part pk;refine h2.mem_iff.mp ?_;have pL:r.length - 1<r.length:=by have:=h1.ne; lia
    rw [qC,qB pL];exact qg pL
   .have gl:zE HA (zH (zH H' se (.dT (ZZ R))) l (.lst (ys.map V.int))):=λc o' hc=>by
     rcases Xm (c=se) with z | z
     .subst z
      rw [eS] at hc;rw [<-hc];have cl':c≠l:=λw=>by rw [<-w,zC] at hl; cases hl
      rw [zI cl'];exact zC
     .have h1:=g c o' (by rw [zI z]; exact hc)
      have cl':c≠l:=λw=>by rw [<-w,zI z,h1] at hl; cases hl
      rw [zI cl',zI z];exact h1
    refine q l ys _ (λc o' hc=>?_) ?_ zC up λy=>?_
    .have:=g1 _ _ hc
     exact gl _ _ (EA _ _ (λz=>z.elim (ns_ this).1 (ns_ this).2) (g14 _ _ this))
    .cases hH:H l with
     | none=>rfl
     | some o'=>
      have h1:=g1 _ _ hH;have h2:HA l=some o':=EA _ _ (λz=>z.elim (ns_ h1).1 (ns_ h1).2) (g14 _ _ h1);have h3:=g l o' (by rw [zI (ns_ h1).1]; exact h2);rw [zI (ns_ h1).1,h3] at hl;cases hl
    .rw [my y,XE]
     exact ⟨λ⟨r,h1,h2⟩=>⟨r,(all r).mpr h1,h2⟩,λ⟨r,h1,h2⟩=>⟨r,(all r).mp h1,h2⟩⟩
theorem zJj {near:Nat->List Nat}:∀{l:List Nat},(∀i a b,l[i]?=some a->l[i+1]?=some b->b∈near a)->wlk near l
 | [],_=>trivial
 | [_],_=>trivial
 | a::b::t,h=>⟨h 0 a b rfl rfl,zJj (l:=b::t) λi x y h1 h2=>h (i+1) x y (by simpa using h1) (by simpa using h2)⟩
def kz (ns zs:List Int):List Nat:=zs.map λz=>ns.idxOf z
theorem zDN (h:z∈ns):ns.idxOf z<ns.length/\ns.getD (ns.idxOf z) 0=z:=by
 have il:=List.idxOf_lt_length_iff.mpr h;refine ⟨il,?_⟩;rw [qC,qB il];exact xI il
structure zSm (ns ss zs:List Int):Prop where
 lt:∀k∈kz ns zs,k<ns.length
 nd:(kz ns zs).Nodup
 all:∀k<ns.length,k∈kz ns zs
 back:(kz ns zs).map (λk=>ns.getD k 0)=zs
 st:∀(fs:List Nat) (i a b:Nat),(kz ns zs)[i]?=some a->(kz ns zs)[i+1]?=some b->b∈zO ns ss fs a
theorem zSh (ok:zf ns ss) (h:Zh ns ss zs=true):zSm ns ss zs:=by
 obtain ⟨h1,h2⟩:=Bool.and_eq_true_iff.mp h;have pm:=List.isPerm_iff.mp h1;have zin:∀z∈zs,z∈ns:=λz hz=>pm.mem_iff.mp hz;have nsnd:ns.Nodup:=ok.n.up.imp λh z=>by lia
 have lt:∀k∈kz ns zs,k<ns.length:=λk hk=>by
  obtain ⟨z,hz,rfl⟩:=List.mem_map.mp hk;exact (zDN (zin z hz)).1
 refine ⟨lt,zGU (pm.nodup_iff.mpr nsnd) zin,λk hk=>?_,?_,λfs i a b ha hb=>?_⟩
 .have hm:ns.getD k 0∈ns:=qp (zDB hk)
  exact List.mem_map.mpr ⟨_,pm.mem_iff.mpr hm,zDe ok.n.up hk⟩
 .unfold kz
  rw [qo];have:zs.map ((λk=>ns.getD k 0) ∘ λz=>ns.idxOf z)=zs.map id:=QK λz hz=>(zDN (zin z hz)).2;rw [this,vy]
 .unfold kz at ha hb
  rw [qM] at ha hb;have hi:i+1<zs.length:=by
   rcases xN (i+1) zs.length with z | z
   .exact z
   .rw [Qj z] at hb; cases hb
  have e1:=qB (show i<zs.length by lia);have e2:=qB hi;rw [e1] at ha;rw [e2] at hb;have ha':ns.idxOf zs[i]=a:=Option.some.inj ha;have hb':ns.idxOf zs[i+1]=b:=Option.some.inj hb;obtain ⟨a1,a2⟩:=zDN (zin zs[i] (qg _));obtain ⟨b1,b2⟩:=zDN (zin zs[i+1] (qg _));rw [ha'] at a1 a2;rw [hb'] at b1 b2;unfold zO;rw [qO a1];refine List.mem_filter.mpr ⟨List.mem_range.mpr b1,?_⟩;rw [a2,b2];unfold nbB at h2;have:=List.all_eq_true.mp h2 i (List.mem_range.mpr (by lia));rw [qC,qC,e1,e2] at this;exact this
theorem zHB {k:Nat} (h:(2^n - 1).testBit k=true):k<n:=zGF (by have:=QO n; lia) h
theorem zOZ (ok:zf ns ss) (h:Zh ns ss zs=true):zEZ ns ss zs<ZF ns ss false/\YY ns ss (zEZ ns ss zs)=zs:=by
 have F:=zSh ok h;have N:=Zw ok;have n1:=ok.n1;have wl:=Yo ok.n2;have wc:=jM ns.length ok.n2;have wp:=QO ns.length;have mem:kz ns zs∈ZY (zO ns ss (List.range ns.length)) (λ_=>true) ns.length (2^ns.length - 1) ns.length:=by
  refine (j0 (ends:=λ_=>true) N ns.length (2^ns.length - 1) ns.length (kz ns zs) wc wl (by lia) (qG _)).mpr ⟨zJj λi a b ha hb=>?_,F.nd,λk=>⟨λhk=>yM (F.lt k hk),λhk=>F.all k (zHB hk)⟩,?_⟩
  .cases i with
   | zero=>
    have ea:ns.length=a:=by simpa using ha
    rw [<-ea];have hb':(kz ns zs)[0]?=some b:=by simpa using hb
    unfold zO;rw [qP (QQ _)];exact List.mem_range.mpr (F.lt b (qp hb'))
   | succ i=>exact F.st _ i a b (by simpa using ha) (by simpa using hb)
  .exact ⟨_,Qz (vA _ _),rfl⟩
 have:zs∈(List.range (ZF ns ss false)).map (YY ns ss):=by
  rw [zBD ok];exact List.mem_map.mpr ⟨_,mem,F.back⟩
 obtain ⟨pE,hn,e⟩:=List.mem_map.mp this;have hn:=List.mem_range.mp hn;have e2:=(Jt ok hn).2;rw [e] at e2;rw [e2];exact ⟨hn,e⟩
def Z7 (ns ss:List Int):List (List Int):=(List.range (ZF ns ss false)).map (YY ns ss)
theorem zBw (ns ss:List Int):(Z7 ns ss).length=ZF ns ss false:=by unfold Z7; rw [qA,QB]
theorem jr (ok:zf ns ss):zs∈Z7 ns ss↔Zh ns ss zs=true:=by
 unfold Z7;constructor
 .intro h
  obtain ⟨k,hk,e⟩:=List.mem_map.mp h;rw [<-e];exact (Jt ok (List.mem_range.mp hk)).1
 .intro h
  obtain ⟨h1,h2⟩:=zOZ ok h;exact List.mem_map.mpr ⟨_,List.mem_range.mpr h1,h2⟩
def Jn (ns:List Int) (i j:Nat) (z:List Int):Bool:=decide (z.getD 0 0=ns.getD i 0)&&decide (z.getD (z.length - 1) 0=ns.getD j 0)
theorem zLy (ok:zf ns ss) (hi:i<ns.length) (hj:j<ns.length):zEE ns ss i j=((Z7 ns ss).filter (Jn ns i j)).length:=by
 have N:=Zw ok;have n1:=ok.n1;have n10:=ok.n2;have wl:=Yo ok.n2;have wc:=jM ns.length ok.n2;unfold Z7;rw [zBD ok,Q7,qA];obtain ⟨m,em⟩:∃m,ns.length=m+1:=⟨ns.length - 1,by lia⟩;have ef:ZY (zO ns ss (List.range ns.length)) (λ_=>true) ns.length (2^ns.length - 1) ns.length=(List.range ns.length).flatMap λi=>(ZY (zO ns ss (List.range ns.length)) (λ_=>true) m (2^ns.length - 1 - 2^i) i).map (i::·):=by
  have gen:∀M,M=m+1->ZY (zO ns ss (List.range ns.length)) (λ_=>true) M (2^ns.length - 1) ns.length=(List.range ns.length).flatMap λi=>(ZY (zO ns ss (List.range ns.length)) (λ_=>true) m (2^ns.length - 1 - 2^i) i).map (i::·):=λM hM=>by
   subst hM;show ((zO ns ss (List.range ns.length) ns.length).filter λk=>(2^ns.length - 1).testBit k).flatMap _=_;have:zO ns ss (List.range ns.length) ns.length=List.range ns.length:=by unfold zO; rw [qP (QQ _)]
   rw [this,List.filter_eq_self.mpr λk hk=>yM (List.mem_range.mp hk)]
  exact gen _ em
 have bits:∀c∈ZY (zO ns ss (List.range ns.length)) (λ_=>true) ns.length (2^ns.length - 1) ns.length,∀z∈c,z<ns.length:=λc hc z hz=>by
  have mp:=(j0 (ends:=λ_=>true) N ns.length (2^ns.length - 1) ns.length c wc wl (by have:=QO ns.length; lia) (qG _)).mp hc;exact zGF (by have:=QO ns.length; lia) ((mp.2.2.1 _).mp hz)
 have key:∀a c,(a::c)∈ZY (zO ns ss (List.range ns.length)) (λ_=>true) ns.length (2^ns.length - 1) ns.length->Jn ns i j ((a::c).map λk=>ns.getD k 0)=(decide (a=i)&&decide (c.getLastD a=j)):=λa c hc=>by
  have ha:=bits _ hc a qE;have hz:c.getLastD a∈a::c:=by
   cases c with
   | nil=>exact qE
   | cons b r=>rw [Qw,Qz (vA b r)]; exact qF _ (vt _)
  have hz:=bits _ hc _ hz;unfold Jn;rw [qA,qT,Xi,zBd];show (decide (ns.getD a 0=ns.getD i 0)&&decide (ns.getD (c.getLastD a) 0=ns.getD j 0))=_;congr 1
  .exact decide_eq_decide.mpr ⟨λe=>zDE ok.n ha hi e,λe=>by rw [e]⟩
  .exact decide_eq_decide.mpr ⟨λe=>zDE ok.n hz hj e,λe=>by rw [e]⟩
 rw [ef] at key ⊢;have per:∀a<ns.length,(((ZY (zO ns ss (List.range ns.length)) (λ_=>true) m (2^ns.length - 1 - 2^a) a).map (a::·)).filter (Jn ns i j ∘ List.map λk=>ns.getD k 0)).length=if a=i then zEE ns ss i j else 0:=λa ha=>by
  rw [Q7,qA];have:(ZY (zO ns ss (List.range ns.length)) (λ_=>true) m (2^ns.length - 1 - 2^a) a).filter ((Jn ns i j ∘ List.map λk=>ns.getD k 0) ∘ (a::·))=(ZY (zO ns ss (List.range ns.length)) (λ_=>true) m (2^ns.length - 1 - 2^a) a).filter (λc=>decide (a=i)&&decide (c.getLastD a=j)):=xT λc hc=>key a c (List.mem_flatMap.mpr ⟨a,List.mem_range.mpr ha,List.mem_map.mpr ⟨c,hc,rfl⟩⟩);rw [this];by_cases e:a=i
  .rw [qO e,<-e,qK rfl]
   have f2:(ZY (zO ns ss (List.range ns.length)) (λ_=>true) m (2^ns.length - 1 - 2^a) a).filter (λc=>true&&decide (c.getLastD a=j))=ZY (zO ns ss (List.range ns.length)) (λe=>decide (e=j)) m (2^ns.length - 1 - 2^a) a:=by
    have:=zEU (near:=zO ns ss (List.range ns.length)) (λe=>decide (e=j)) m (2^ns.length - 1 - 2^a) a;simpa using this
   rw [f2,jz];have d:=ZQ _ wl a (by lia) (yM ha);unfold zEE ZX;rw [show ZV (2^ns.length - 1 - 2^a)=m by lia];refine zBT N (λe he=>?_) (λ_ _=>rfl) _ _ _ ha;unfold zO;rw [qO he,qO he]
  .rw [qP e,qa e]
   have:(ZY (zO ns ss (List.range ns.length)) (λ_=>true) m (2^ns.length - 1 - 2^a) a).filter (λc=>false&&decide (c.getLastD a=j))=[]:=List.filter_eq_nil_iff.mpr λc _ z=>by cases z
   rw [this];rfl
 have sum:∀l:List Nat,(∀a∈l,a<ns.length)->l.Nodup->((l.flatMap λi=>(ZY (zO ns ss (List.range ns.length)) (λ_=>true) m (2^ns.length - 1 - 2^i) i).map (i::·)).filter (Jn ns i j ∘ List.map λk=>ns.getD k 0)).length=if i∈l then zEE ns ss i j else 0:=λl=>by
  induction l with
  | nil=>intro _ _; rfl
  | cons a r ih=>
   intro h nd;obtain ⟨nd1,nd2⟩:=List.nodup_cons.mp nd;rw [QH,qz,qJ,per a (h a qE),ih (λb hb=>h b (qF _ hb)) nd2];by_cases e:a=i
   .rw [qO e,qP (λz=>nd1 (e▸z)),qO (e▸qE)]
    rfl
   .rw [qP e,XD]
    by_cases z:i∈r
    .rw [qO z,qO (qF _ z)]
    .rw [qP z,qP (λy=>(List.mem_cons.mp y).elim (λy=>e y.symm) z)]
 rw [sum _ (λa ha=>List.mem_range.mp ha) List.nodup_range,qO (List.mem_range.mpr hi)]
namespace Ct
theorem Yr:∀{xs ys:List Int},xs.Pairwise (·<·)->ys.Pairwise (·<·)->(∀z,z∈xs↔z∈ys)->xs=ys
 | [],[],_,_,_=>rfl
 | [],y::_,_,_,h=>nomatch (h y).mpr qE
 | x::_,[],_,_,h=>nomatch (h x).mp qE
 | x::xs,y::ys,hx,hy,h=>by
  rw [Xl] at hx hy;have e:x=y:=by
   rcases List.mem_cons.mp ((h x).mp qE) with z | z
   .exact z
   .rcases List.mem_cons.mp ((h y).mpr qE) with z' | z'
    .exact z'.symm
    .have:=hx.1 y z'
     have:=hy.1 x z;lia
  subst e;have:xs=ys:=Yr hx.2 hy.2 λz=>by
   constructor
   .intro hz
    rcases List.mem_cons.mp ((h z).mp (qF _ hz)) with e | q
    .have:=hx.1 z hz; lia
    .exact q
   .intro hz
    rcases List.mem_cons.mp ((h z).mpr (qF _ hz)) with e | q
    .have:=hy.1 z hz; lia
    .exact q
  rw [this]
inductive Ze (ss L:List Int):Int->Int->Prop where
 | here {x:Int}:x∈L->Ze ss L x x
 | on {x y z:Int}:Ze ss L x y->z∈L->zY ss y z=true->Ze ss L x z
theorem Ze.r (h:Ze ss L x y):y∈L:=by cases h <;> assumption
theorem Ze.l (h:Ze ss L x y):x∈L:=by
 induction h with
 | here h=>exact h
 | on _ _ _ ih=>exact ih
theorem Ze.trans (h:Ze ss L x y) (g:Ze ss L y z):Ze ss L x z:=by
 induction g with
 | here _=>exact h
 | on _ m a ih=>exact .on ih m a
theorem Ze.symm (h:Ze ss L x y):Ze ss L y x:=by
 induction h with
 | here h=>exact .here h
 | on g m a ih=>exact (Ze.on (.here m) g.r (by rw [JR]; exact a)).trans ih
theorem Ze.mono {L':List Int} (hL:∀x∈L,x∈L') (h:Ze ss L x y):Ze ss L' x y:=by
 induction h with
 | here h=>exact .here (hL _ h)
 | on _ m a ih=>exact .on ih (hL _ m) a
theorem Ze.stay (cl:∀a b,S a->b∈L->zY ss a b=true->S b) (h:Ze ss L x y) (hx:S x):S y:=by
 induction h with
 | here _=>exact hx
 | on _ m a ih=>exact cl _ _ ih m a
theorem Ze.sub (cl:∀a b,a∈M->b∈L->zY ss a b=true->b∈M) (hx:x∈M) (h:Ze ss L x y):Ze ss M x y:=by
 induction h with
 | here _=>exact .here hx
 | on g m a ih=>exact .on ih (cl _ _ ih.r m a) a
def JP (ss L p:List Int):Prop:=p.Pairwise (·<·)/\∃x∈p,∀y,y∈p↔Ze ss L x y
theorem JP.all {p:List Int} (h:JP ss L p) (hx:x∈p):∀y,y∈p↔Ze ss L x y:=by
 obtain ⟨_,z,_,hz⟩:=h;intro y;have a:=(hz x).mp hx;exact ⟨λh=>a.symm.trans ((hz y).mp h),λh=>(hz y).mpr (a.trans h)⟩
theorem JP.eq {p q:List Int} (hp:JP ss L p) (hq:JP ss L q) (h1:x∈p) (h2:x∈q):p=q:=Yr hp.1 hq.1 λz=>(hp.all h1 z).trans (hq.all h2 z).symm
theorem JP.hd {p:List Int} (h:JP ss L p):p.headD 0∈p:=by
 obtain ⟨_,x,hx,_⟩:=h;cases p with
 | nil=>cases hx
 | cons a r=>exact qE
structure YA (ss L:List Int) (ps:List (List Int)):Prop where
 each:∀p∈ps,JP ss L p
 cover:∀x∈L,∃p∈ps,x∈p
 up:(ps.map λp=>p.headD 0).Pairwise (·<·)
theorem YA.uniq {ps qs:List (List Int)} (h:YA ss L ps) (g:YA ss L qs):ps=qs:=by
 have one:∀{ps qs:List (List Int)},YA ss L ps->YA ss L qs->∀p∈ps,p∈qs:=λ{ps qs} h g p hp=>by
  have c:=h.each p hp;have m:=((c.all c.hd _).mp c.hd).l;obtain ⟨q,hq,hx⟩:=g.cover _ m;rw [c.eq (g.each q hq) c.hd hx];exact hq
 have em:(ps.map λp=>p.headD 0)=(qs.map λp=>p.headD 0):=Yr h.up g.up λz=>by
  rw [XE,XE];exact ⟨λ⟨p,a,b⟩=>⟨p,one h g p a,b⟩,λ⟨p,a,b⟩=>⟨p,one g h p a,b⟩⟩
 have el:ps.length=qs.length:=by
  have:=Qe List.length em
  rwa [qA,qA] at this
 refine XW el λi h1 h2=>?_;have ei:ps[i].headD 0=qs[i].headD 0:=by
  have:=Qe (λl:List Int=>l[i]?) em;simp only [qM,qB h1,qB h2,xh] at this;exact Option.some.inj this
 exact (h.each _ (qg h1)).eq (g.each _ (qg h2)) (h.each _ (qg h1)).hd (ei▸(g.each _ (qg h2)).hd)
theorem JP.sub {p:List Int} (h:JP ss L p) (hx:x∈p):x∈L:=((h.all hx x).mp hx).l
abbrev zMN:Stmt:=top 44
abbrev zNS:Stmt:=top 45
abbrev zLz:Stmt:=top 46
abbrev sPw:Stmt:=top 47
abbrev sPb:Stmt:=top 48
def zCs (ss ps:List Int) (x:Int):Bool:=ps.contains x||ps.any λo=>zY ss o x
def wid (ss ps L:List Int):List Int:=L.filter (zCs ss ps)
inductive zDl (vs:List V) (H:Hp) (Q:VK) (E:XK):Prop
 | mk (t a b p:Addr) (ns ss cs:List Int):vs=[.ref t, .ref p]->zi H t a b ns ss->H p=some (.lst (cs.map V.int))->zAP cs->cs.length<=10->(∀x∈cs,x∈ns)->(∀H',zE H H'->Q (.bl (decide (cs.length<ns.length))) H')->zDl vs H Q E
inductive zId (vs:List V) (H:Hp) (Q:VK) (E:XK):Prop
 | mk (t a b p:Addr) (ns ss ps:List Int) (x:Int):vs=[.ref t, .ref p, .int x]->zi H t a b ns ss->H p=some (.lst (ps.map V.int))->ps.length<=10->(∀H',zE H H'->Q (.bl (zCs ss ps x)) H')->zId vs H Q E
inductive zIe (vs:List V) (H:Hp) (Q:VK) (E:XK):Prop
 | mk (t a b p l:Addr) (ns ss ps L:List Int):vs=[.ref t, .ref p, .ref l]->zi H t a b ns ss->H p=some (.lst (ps.map V.int))->ps.length<=10->H l=some (.lst (L.map V.int))->L.length<=10->(∀(o:Addr) (H':Hp),zE H H'->H o=none->H' o=some (.lst ((wid ss ps L).map V.int))->Q (.ref o) H')->zIe vs H Q E
inductive zNd (vs:List V) (H:Hp) (Q:VK) (E:XK):Prop
 | mk (t a b l:Addr) (ns ss L:List Int) (x:Int):vs=[.ref t, .int x, .ref l]->zi H t a b ns ss->H l=some (.lst (L.map V.int))->L.Pairwise (·<·)->L.length<=10->x∈L->(∀(o:Addr) (r:List Int) (H':Hp),zE H H'->H o=none->H' o=some (.lst (r.map V.int))->r.Pairwise (·<·)->(∀y,y∈r↔Ze ss L x y)->Q (.ref o) H')->zNd vs H Q E
inductive zAp (vs:List V) (H:Hp) (Q:VK) (E:XK):Prop
 | mk (t a b p:Addr) (ns ss cs:List Int):vs=[.ref t, .ref p]->zi H t a b ns ss->H p=some (.lst (cs.map V.int))->cs.length<=10->(∀(l:Addr) (as:List Addr) (rs:List (List Int)) (H':Hp),zE H H'->H l=none->(∀a∈as,H a=none)->as.Nodup->l∉as->H' l=some (.lst (as.map V.ref))->ZB H' as rs->YA ss (ns.filter λx=> !cs.contains x) rs->Q (.ref l) H')->zAp vs H Q E
theorem zHx:FS 2 ["plan","thing"] zMN:=zm
theorem zQJ (F:Fu K "is_cut" zMN f fd) (B:jP mg)
  (GI:Gd P w K mg base 2 g1 pH ["thing","fewest"] zDS "is_rising_list"):FnOk P w K mg base zU 3 f fd ["plan","thing"] zDl:=by
 refine F.ok zHx ?_ ?_
 .rintro _ _ _ _ ⟨t,a,b,p,ns,ss,cs,rfl,_⟩
  rfl
 rintro _ A _ s H _ Q E hr ⟨t,a,b,p,ns,ss,cs,rfl,pl,hp,ri,c10,sub,q⟩;refine ⟨_,(zD (zd (PW.pt (yi (Zi (ZN (zL GI hr (zA (pv 1) (zA zJ zB))))) (yA (zT zCP (zP zQ rfl B.len qU (zA (pv 1) zB)) (zP zQ rfl B.len qU (zA (zz zh (pv 0) zJ) zB)) (zV _))))) (zG (zM ZU)) zW) (zG (zM (zP (zBW rfl) rfl B.all boot_all (zA (ZR ["number"] rfl (bk zHx) (zj (pv 1)) (λpA C fp s3 H3=>⟨(yI zHx),yN,(ZT (Y3 K) (pv 0) (zz (j5 K) (pv 1) zJ) rfl)⟩)) zB))))),?_⟩;have nml:(ns.map V.int).length=ns.length:=qA _;have cml:(cs.map V.int).length=cs.length:=qA _;refine ⟨_,rfl,p,cs,0,rfl,hp,ri,by lia,c10,_,rfl,ZG ?_⟩;refine ⟨_,rfl,p,_,rfl, .inl (zK.of hp),_,rfl,t,_,0,_,rfl,rfl,ZD.of pl.t,rfl,a,_,rfl, .inl (zK.of pl.a),_,_,rfl,rfl,_,rfl,zr (λc=>?_) (λc=>?_)⟩
 .have h1:=qZ c
  rw [nml,cml] at h1;have e:decide (cs.length<ns.length)=false:=qa (by lia);rw [e] at q;exact q _ zE.rfl'
 .have h1:¬(((ns.map V.int).length:Nat):Int)<=((cs.map V.int).length:Nat):=λz=>c (qK z)
  rw [nml,cml] at h1;have e:decide (cs.length<ns.length)=true:=qK (by lia);rw [e] at q;refine ⟨_,rfl,p,rfl,⟨_,zK.of hp⟩,λD hD=>?_⟩;refine yW (L:=cs) (U:=[some (.ref t),some (.ref p)]) (λ_=>true) (λ_=> .bl true) (zK.of hp) hD (by lia) (λx H' hx g=>zAm) (λx H' hx _ g P hP=>?_) λH2 g2 e2=>?_
  .have m:ns.contains x=true:=List.contains_iff_mem.mpr (sub x hx)
   refine ⟨_,rfl,_,rfl,t,_,0,_,rfl,rfl,ZD.of (g _ _ pl.t),rfl,a,x,ns,rfl,rfl,zK.of (g _ _ pl.a),?_⟩;show P (.bl (ns.contains x)) H';rw [m];exact hP _ zE.rfl'
  .refine ⟨D,cs.map λ_=>true,rfl,zK.of (by rw [e2,zBQ,qo]; rfl),?_⟩
   have ea:(cs.map λ_=>true).all id=true:=by
    rw [vq,xE];exact λ_ _=>rfl
   rw [ea];exact q _ g2
theorem zIk:FS 3 ["plan","part","number"] zNS:=zm
theorem zPX (F:Fu K "belongs_to" zNS f fd) (zany:mg "any"=none)
  (GA:Gd P w K mg base 1 g1 pH ["plan","one","other"] zBE "add_up"):FnOk P w K mg base zU 2 f fd ["plan","part","number"] zId:=by
 refine F.ok zIk ?_ ?_
 .rintro _ _ _ _ ⟨t,a,b,p,ns,ss,ps,x,rfl,_⟩
  rfl
 rintro _ A _ s H _ Q E hr ⟨t,a,b,p,ns,ss,ps,x,rfl,pl,hp,p10,q⟩;refine ⟨_,(zG (zM (zNp (ZT (Y3 K) (pv 2) (pv 1) rfl) (yf (zP (zJb rfl) rfl zany boot_any (zA (ZR ["one"] rfl (bk zIk) (zj (pv 1)) (λpA C fp s3 H3=>⟨(yI zIk),yN,(zL GA hr (zA (pv 1) (zA (pv 0) (zA (pv 3) zB))))⟩)) zB)))))),?_⟩;unfold zCs at q;refine ⟨_,rfl,_,rfl,p,x,ps,rfl,rfl,zK.of hp,_,rfl,zr (λc=>?_) (λc=>?_)⟩
 .have c':ps.contains x=true:=c
  rw [c',Bool.true_or] at q;exact q _ zE.rfl'
 .have c':ps.contains x=false:=Bool.eq_false_iff.mpr c
  rw [c',X3] at q;refine ⟨_,rfl,p,rfl,⟨_,zK.of hp⟩,λD hD=>?_⟩;refine yW (L:=ps) (U:=[some (.ref t),some (.ref p),some (.int x)]) (λ_=>true) (λo=> .bl (zY ss o x)) (zK.of hp) hD (by lia) (λx H' hx g=>zAm) (λo H' ho _ g P hP=>?_) λH2 g2 e2=>?_
  .exact ⟨_,rfl,_,rfl,_,rfl,t,a,b,ns,ss,_,_,rfl,pl.same g,hP _ zE.rfl'⟩
  .refine ⟨D,ps.map λo=>zY ss o x,rfl,zK.of (by rw [e2,zBQ,qo]; rfl),?_⟩
   rw [vM];exact q _ g2
theorem zIL:FS 3 ["plan","part","left"] zLz:=zm
theorem zQR (F:Fu K "widened" zLz f fd)
  (GB:Gd P w K mg base 2 g1 pH ["plan","part","number"] zId "belongs_to"):FnOk P w K mg base zU 3 f fd ["plan","part","left"] zIe:=by
 refine F.ok zIL ?_ ?_
 .rintro _ _ _ _ ⟨t,a,b,p,l,ns,ss,ps,L,rfl,_⟩
  rfl
 rintro _ A _ s H _ Q E hr ⟨t,a,b,p,l,ns,ss,ps,L,rfl,pl,hp,p10,hl,l10,q⟩;refine ⟨_,(zG (zM (ZR ["number"] rfl (bk zIL) (zj (pv 2)) (λpA C fp s3 H3=>⟨(yI zIL),(Zg (ZN (zL GB hr (zA (pv 1) (zA (pv 2) (zA (pv 0) zB)))))),(pv 0)⟩)))),?_⟩;refine ⟨_,rfl,l,rfl,⟨_,zK.of hl⟩,λD hD=>?_⟩;refine yW (L:=L) (U:=[some (.ref t),some (.ref p),some (.ref l)]) (zCs ss ps) (λx=> .int x) (zK.of hl) hD (by lia) (λx H' hx g P hP=>?_) (λx H' hx _ g P hP=>⟨_,rfl,hP _ zE.rfl'⟩) λH2 g2 e2=>q D H2 g2 hD e2;exact ⟨_,rfl,_,rfl,_,rfl,t,a,b,p,ns,ss,ps,x,rfl,pl.same g,g _ _ hp,p10,λH3 g3=>⟨_,rfl,hP _ g3⟩⟩
def Z8 (H:Hp) (a:Addr):Nat:=match H a with
 | some (.lst xs)=>xs.length
 | _=>0
theorem Zp {xs:List V} (h:H a=some (.lst xs)):Z8 H a=xs.length:=by unfold Z8; rw [h]
def zAW (i:Nat) (U:L2.St) (H:Hp):Nat:=match U[i]? with
 | some (some (.ref p))=>Z8 H p
 | _=>0
theorem Ja (h:xs.Pairwise (·<·)):xs.Nodup:=h.imp λh=>by lia
theorem zKi {ps qs:List Int} (hp:ps.Pairwise (·<·)) (hq:qs.Pairwise (·<·)) (sub:∀x∈ps,x∈qs) (ne:qs≠ps):ps.length<qs.length:=by
 rcases xN ps.length qs.length with z | z
 .exact z
 refine v6 (Yr hq hp λy=>⟨λhy=>?_,sub y⟩) ne;by_cases m:y∈ps
 .exact m
 have:=yE (xs:=y::ps) (ys:=qs) (List.nodup_cons.mpr ⟨m,Ja hp⟩) λz hz=>by
  rcases List.mem_cons.mp hz with e | e
  .rw [e]; exact hy
  .exact sub z e
 rw [qT] at this;lia
structure PI (ss L M:List Int) (rs:List (List Int)):Prop where
 up:M.Pairwise (·<·)
 mem:∀x,x∈M↔x∈L/\∀r∈rs,x∉r
 cm:∀r∈rs,JP ss L r
 hup:(rs.map λr=>r.headD 0).Pairwise (·<·)
 lt:∀r∈rs,∀x∈M,r.headD 0<x
theorem PI.start (up:L.Pairwise (·<·)):PI ss L L []:=⟨up,λx=>⟨λh=>⟨h,nofun⟩,λh=>h.1⟩,nofun, .nil,nofun⟩
theorem PI.len {rs:List (List Int)} (h:PI ss L M rs) (l:L.length<=10):M.length<=10/\rs.length<=10:=by
 refine ⟨qQ (yE (Ja h.up) λx hx=>((h.mem x).mp hx).1) l,?_⟩;have:=yE (xs:=rs.map λr=>r.headD 0) (ys:=L) (Ja h.hup) λx hx=>by
  obtain ⟨r,hr,rfl⟩:=List.mem_map.mp hx;exact (h.cm r hr).sub (h.cm r hr).hd
 rw [qA] at this;exact qQ this l
theorem PI.done {rs:List (List Int)} (h:PI ss L [] rs):YA ss L rs:=by
 refine ⟨h.cm,λx hx=>?_,h.hup⟩;by_cases z:∃r∈rs,x∈r
 .exact z
 .exact nomatch (h.mem x).mpr ⟨hx,λr hr hxr=>z ⟨r,hr,hxr⟩⟩
theorem PI.more {r:List Int} {m:Int} {rs:List (List Int)} (h:PI ss L (m::M) rs) (rup:r.Pairwise (·<·)) (mr:∀y,y∈r↔Ze ss (m::M) m y):PI ss L ((m::M).filter λx=> !r.contains x) (rs++[r])/\((m::M).filter λx=> !r.contains x).length<(m::M).length:=by
 have mM:m∈m::M:=qE;have closed:∀u v,u∈m::M->v∈L->zY ss u v=true->v∈m::M:=λu v hu hv huv=>by
  refine (h.mem v).mpr ⟨hv,λr' hr' hvr=>?_⟩;have hu':=(h.mem u).mp hu;exact hu'.2 r' hr' (((h.cm r' hr').all hvr u).mpr (.on (.here hv) hu'.1 (by rw [JR]; exact huv)))
 have cr:JP ss L r:=⟨rup,m,(mr m).mpr (.here mM),λy=>(mr y).trans ⟨λq=>q.mono λx hx=>((h.mem x).mp hx).1,λq=>q.sub closed mM⟩⟩;have mr0:m∈r:=(mr m).mpr (.here mM);have hdr:r.headD 0=m:=by
  have h1:=((mr _).mp cr.hd).r;cases r with
  | nil=>cases mr0
  | cons u r'=>
   show u=m;rcases List.mem_cons.mp mr0 with z | z
   .exact z.symm
   .have h2:=(List.pairwise_cons.mp rup).1 m z
    rcases List.mem_cons.mp h1 with y | y
    .exact y
    .have h4:m<u:=(List.pairwise_cons.mp h.up).1 _ y
     lia
 refine ⟨⟨h.up.filter _,λx=>?_,λr' hr'=>?_,?_,λr' hr' x hx=>?_⟩,?_⟩
 .rw [QZ,h.mem]
  constructor
  .rintro ⟨⟨h1,h2⟩,h3⟩
   refine ⟨h1,λr' hr'=>?_⟩;rcases List.mem_append.mp hr' with z | z
   .exact h2 r' z
   .rw [List.mem_singleton.mp z]
    intro hx;rw [List.contains_iff_mem.mpr hx] at h3;cases h3
  .rintro ⟨h1,h2⟩
   refine ⟨⟨h1,λr' hr'=>h2 r' (qX _ hr')⟩,?_⟩;cases hc:r.contains x with
   | false=>rfl
   | true=>exact v6 (List.contains_iff_mem.mp hc) (h2 r (qS _ (List.mem_singleton.mpr rfl)))
 .rcases List.mem_append.mp hr' with z | z
  .exact h.cm r' z
  .rw [List.mem_singleton.mp z]; exact cr
 .rw [qN,vQ]
  refine ⟨h.hup,QP _ _,λu hu v hv=>?_⟩;obtain ⟨r',hr',rfl⟩:=List.mem_map.mp hu;rw [List.mem_singleton.mp hv];show r'.headD 0<r.headD 0;rw [hdr];exact h.lt r' hr' m mM
 .obtain ⟨hx1,hx2⟩:=List.mem_filter.mp hx
  rcases List.mem_append.mp hr' with z | z
  .exact h.lt r' z x hx1
  .rw [List.mem_singleton.mp z,hdr]
   rcases List.mem_cons.mp hx1 with y | y
   .rw [y,List.contains_iff_mem.mpr mr0] at hx2
    cases hx2
   .exact (List.pairwise_cons.mp h.up).1 x y
 .rw [qh,List.contains_iff_mem.mpr mr0]
  exact X1 (qY _ _)
theorem zGQ:FS 3 ["plan","number","left","part","wider"] sPw:=zm
theorem zRx (F:Fu K "part_with" sPw f fd)
  (GW:Gd P w K mg base 3 g1 pH ["plan","part","left"] zIe "widened"):FnOk P w K mg base zU 4 f fd ["plan","number","left"] zNd:=by
 refine F.ok zGQ ?_ ?_
 .rintro _ _ _ _ ⟨t,a,b,l,ns,ss,L,x,rfl,_⟩
  rfl
 rintro _ A _ s H _ Q E hr ⟨t,a,b,l,ns,ss,L,x,rfl,pl,hl,lup,l10,xL,q⟩;refine ⟨_,(zD (zt 3 zGQ.nd (zv (zA (pv 1) zB))) (zD (zt 4 zGQ.nd (zL GW hr (zA (pv 0) (zA (pv 3) (zA (pv 2) zB))))) (zD (YV qi (zT (Z3 hr.units) (pv 4) (pv 3) (zV _)) (zD (zt 3 zGQ.nd (pv 4)) (zG (zt 4 zGQ.nd (zL GW hr (zA (pv 0) (zA (pv 3) (zA (pv 2) zB)))))))) (zG (zM (pv 3)))))),?_⟩;have wsub:∀ps:List Int,(wid ss ps L).length<=10:=λps=>qQ (qY _ _) l10;refine ⟨_,rfl,(by show 1<=sizeLine; decide),λp hp=>?_⟩;have g1:=zE.new hp (.lst [.int x]);have e1:zH H p (.lst [.int x]) p=some (.lst ([x].map V.int)):=zC;generalize zH H p (.lst [.int x])=H1 at g1 e1 ⊢;refine ⟨_,rfl,_,rfl,_,rfl,t,a,b,p,l,ns,ss,[x],L,rfl,pl.same g1,e1,by show 1<=10; decide,g1 _ _ hl,l10,λo H2 g2 no eo=>?_⟩;dsimp only [ZW,JL];refine yy (λU H'=>∃(p o:Addr) (ps:List Int),U=[some (.ref t),some (.int x),some (.ref l),some (.ref p),some (.ref o)]/\zE H H'/\H p=none/\H o=none/\H' p=some (.lst (ps.map V.int))/\H' o=some (.lst ((wid ss ps L).map V.int))/\ps.Pairwise (·<·)/\x∈ps/\∀y∈ps,Ze ss L x y)
  (λU H=>11 - zAW 3 U H) ⟨p,o,[x],rfl,g1.trans g2,hp,zR g1 no,g2 _ _ e1,eo,QP _ _,List.mem_singleton.mpr rfl,λy hy=>by rw [List.mem_singleton.mp hy]; exact .here xL⟩ ?_
 rintro U HA ⟨p,o,ps,rfl,gA,np,no,ep,eo,up,xp,rp⟩;have psub:∀y∈ps,y∈wid ss ps L:=λy hy=>List.mem_filter.mpr ⟨(rp y hy).r,by unfold zCs; rw [List.contains_iff_mem.mpr hy]; rfl⟩;have wup:(wid ss ps L).Pairwise (·<·):=lup.filter _;have p10:ps.length<=10:=qQ (yE (Ja up) psub) (wsub ps);refine ⟨_,rfl,_,rfl,_,jF (zK.of eo) (zK.of ep),_,rfl,zr (λc=>?_) (λc=>?_)⟩
 .have ne:wid ss ps L≠ps:=λz=>by
   rw [z,QN] at c;cases c
  refine jO (H:=HA) (μ:=λU H=>11 - zAW 3 U H) ?_;refine ⟨_,rfl,?_⟩;refine ⟨_,rfl,_,rfl,_,rfl,t,a,b,o,l,ns,ss,wid ss ps L,L,rfl,pl.same gA,eo,wsub ps,gA _ _ hl,l10,λo' HB gB no' eo'=>?_⟩;refine ⟨⟨o,o',wid ss ps L,rfl,gA.trans gB,no,zR gA no',gB _ _ eo,eo',wup,psub x xp,λy hy=>?_⟩,?_⟩
  .obtain ⟨yL,hb⟩:=List.mem_filter.mp hy
   unfold zCs at hb;rcases Bool.or_eq_true_iff.mp hb with z | z
   .exact rp y (List.contains_iff_mem.mp z)
   .obtain ⟨u,hu,hau⟩:=List.any_eq_true.mp z
    exact .on (rp u hu) yL hau
  .show 11 - Z8 HB o<11 - Z8 HA p
   rw [Zp (gB _ _ eo),Zp ep,qA,qA];have:=zKi up wup psub ne;have:=wsub ps;lia
 .have eq:wid ss ps L=ps:=by
   by_cases z:wid ss ps L=ps
   .exact z
   .rw [beq_eq_false_iff_ne.mpr z] at c
    exact v6 rfl c
  refine ⟨_,rfl,q p ps HA gA np ep up λy=>⟨rp y,λhy=>?_⟩⟩;refine hy.stay (S:=λy=>y∈ps) (λu v hu hv huv=>?_) xp;rw [<-eq];refine List.mem_filter.mpr ⟨hv,?_⟩;unfold zCs;rw [List.any_eq_true.mpr ⟨u,hu,huv⟩,Bool.or_true]
theorem Yf:FS 2 ["plan","cut","left","parts","part"] sPb:=zm
theorem zIR (F:Fu K "parts_behind" sPb f fd)
  (GP:Gd P w K mg base 4 g1 pH ["plan","number","left"] zNd "part_with"):FnOk P w K mg base zU 5 f fd ["plan","cut"] zAp:=by
 refine F.ok Yf ?_ ?_
 .rintro _ _ _ _ ⟨t,a,b,p,ns,ss,cs,rfl,_⟩
  rfl
 rintro _ A _ s H _ Q E hr ⟨t,a,b,p,ns,ss,cs,rfl,pl,hp,c10,q⟩;have n10:=pl.ok.n2;refine ⟨_,(zD (jS ["number"] rfl (bk Yf) (zj (zz zh (pv 0) zJ)) (λpA C fp s3 H3=>⟨(yI Yf),(Zg (zT (yK K) (pv 0) (pv 2) rfl)),(pv 0)⟩) (j:=2) Yf.nd rfl (Or.inl rfl) rfl) (zD (zt 3 Yf.nd (zv zB)) (zD (YV qi (zGV (pv 2) (λ_=>rfl)) (zD (zt 4 Yf.nd (zL GP hr (zA (pv 0) (zA (zz zx (pv 2) zJ) (zA (pv 2) zB))))) (zD (zo (YF qk QT QU yY (pv 3) (zA (pv 4) zB))) (zG (jS ["number"] rfl (bk Yf) (zj (pv 2)) (λpA C fp s3 H3=>⟨(yI Yf),(Zg (zT (yK K) (pv 0) (pv 5) rfl)),(pv 0)⟩) (j:=2) Yf.nd rfl (Or.inl rfl) rfl))))) (zG (zM (pv 3)))))),?_⟩;refine ⟨_,rfl,t,_,0,_,rfl,rfl,ZD.of pl.t,rfl,a,rfl,⟨_,zK.of pl.a⟩,λl0 hl0=>?_⟩;refine yW (L:=ns) (U:=[some (.ref t),some (.ref p),none,none,none]) (λx=> !cs.contains x) (λx=> .int x) (zK.of pl.a) hl0 (by lia) (λx H' hx g P hP=>?_) (λx H' hx _ g P hP=>⟨_,rfl,hP _ zE.rfl'⟩) λH1 g1 e1=>?_
 .exact ⟨_,rfl,_,rfl,p,x,cs,rfl,rfl,zK.of (g _ _ hp),_,rfl,hP _ zE.rfl'⟩
 have Lup:(ns.filter λx=> !cs.contains x).Pairwise (·<·):=pl.ok.n.up.filter _;have L10:(ns.filter λx=> !cs.contains x).length<=10:=qQ (qY _ _) n10;generalize (ns.filter λx=> !cs.contains x)=L at e1 Lup L10 q;refine ⟨(by show 0<=sizeLine; decide),λpo hpo=>?_⟩;have g2:=zE.new hpo (.lst []);have e2:zH H1 po (.lst []) po=some (.lst (([]:List Addr).map V.ref)):=zC;have l0p:l0≠po:=zF e1 hpo;have hpoH:H po=none:=zR g1 hpo;have pl2:=(pl.same g1).same g2;have e12:=g2 _ _ e1;have tp:t≠po:=zF (g1 _ _ pl.t) hpo;have ap:a≠po:=zF (g1 _ _ pl.a) hpo;have bp:b≠po:=zF (g1 _ _ pl.b) hpo;have g02:=g1.trans g2;generalize zH H1 po (.lst [])=H2 at g2 e2 pl2 e12 g02 ⊢;dsimp only [ZW,JL];refine yy (λU H'=>∃(l:Addr) (M:List Int) (as:List Addr) (rs:List (List Int)) (y4:Option V),U=[some (.ref t),some (.ref p),some (.ref l),some (.ref po),y4]/\Ex (·=po) H2 H'/\H' po=some (.lst (as.map V.ref))/\ZB H' as rs/\(∀a∈as,H2 a=none)/\as.Nodup/\
   l≠po/\H' l=some (.lst (M.map V.int))/\PI ss L M rs)
  (λU H=>zAW 2 U H) ⟨l0,L,[],[],none,rfl,Ex.refl,e2, .nil,nofun,qr,l0p,e12,PI.start Lup⟩ ?_
 rintro U HA ⟨l,M,as,rs,y4,rfl,EA,ePo,rows,fre,nd,lp,el,pi⟩;obtain ⟨M10,r10⟩:=pi.len L10;have plA:zi HA t a b ns ss:=⟨EA _ _ tp pl2.t,EA _ _ ap pl2.a,EA _ _ bp pl2.b,pl.ok⟩;refine ⟨_,rfl,_, .inl ⟨_,zK.of el,rfl⟩,zr (λc=>?_) (λc=>?_)⟩
 .refine jO (H:=HA) (μ:=λU H=>zAW 2 U H) ?_
  cases M with
  | nil=>cases c
  | cons m M'=>
  have hat:YH ((m::M').map V.int) ((0:Nat):Int)=some (.int m):=Zx rfl;refine ⟨_,rfl,_,rfl,l,_,0,_,rfl,rfl,zK.of el,hat,_,rfl,t,a,b,l,ns,ss,m::M',m,rfl,plA,el,pi.up,M10,qE,λo r HB gB no eo rup mr=>?_⟩;have ePB:=gB _ _ ePo;have oP:o≠po:=Ne.symm (zF ePo no);have al:=rows.len;refine ⟨_,rfl, .inl ⟨rfl,_,zK.of ePB⟩,_,rfl,po,_,_,rfl,rfl,ePB,Zb (by rw [qA,al]; lia),?_⟩;have eN:zH HB po (.lst (as.map V.ref++[.ref o])) po=some (.lst ((as++[o]).map V.ref)):=by rw [zC,qN]; rfl
  have EB:Ex (·=po) H2 (zH HB po (.lst (as.map V.ref++[.ref o]))):=(EA.trans (Ex.same gB)).trans (Ex.put _ rfl);have keep:∀c o',c≠po->HB c=some o'->zH HB po (.lst (as.map V.ref++[.ref o])) c=some o':=λc o' hc h=>by rw [zI hc]; exact h
  have asP:∀c∈as,c≠po:=λc hc z=>by rw [z] at hc; rw [fre po hc] at e2; cases e2
  have elC:=keep _ _ lp (gB _ _ el);have eoC:=keep _ _ oP eo;have rowsC:ZB (zH HB po (.lst (as.map V.ref++[.ref o]))) (as++[o]) (rs++[r]):=((rows.same gB).by λc hc o' h=>keep c o' (asP c hc) h).snoc eoC;generalize zH HB po (.lst (as.map V.ref++[.ref o]))=HC at eN EB elC eoC rowsC;refine ⟨_,rfl,l,rfl,⟨_,zK.of elC⟩,λD hD=>?_⟩;refine yW (L:=m::M') (U:=[some (.ref t),some (.ref p),some (.ref l),some (.ref po),some (.ref o)]) (λx=> !r.contains x) (λx=> .int x) (zK.of elC) hD (by lia) (λx H' hx g P hP=>?_) (λx H' hx _ g P hP=>⟨_,rfl,hP _ zE.rfl'⟩) λHD gD eD=>?_
  .exact ⟨_,rfl,_,rfl,o,x,r,rfl,rfl,zK.of (g _ _ eoC),_,rfl,hP _ zE.rfl'⟩
  obtain ⟨piN,lt⟩:=pi.more rup mr;have oH2:H2 o=none:=by
   cases e:H2 o with
   | none=>rfl
   | some u=>
    have z:=EA o u oP e;rw [no] at z; cases z
  refine ⟨⟨D,(m::M').filter (λx=> !r.contains x),as++[o],rs++[r],_,rfl,EB.trans (Ex.same gD),gD _ _ eN,rowsC.same gD,λc hc=>?_,?_,Ne.symm (zF eN hD),eD,piN⟩,?_⟩
  .rcases List.mem_append.mp hc with z | z
   .exact fre c z
   .rw [List.mem_singleton.mp z]; exact oH2
  .refine List.nodup_append.mpr ⟨nd,List.nodup_cons.mpr ⟨nofun,qr⟩,λc hc d hd z=>?_⟩
   rw [List.mem_singleton.mp hd] at z;obtain ⟨r',_,e⟩:=rows.mem hc;rw [z,no] at e;cases e
  .show Z8 HD D<Z8 HA l
   rw [Zp eD,Zp el,qA,qA];exact lt
 .cases M with
  | cons m M'=>exact v6 rfl c
  | nil=>
  have H2n:∀c,H2 c=none->H c=none:=λc hc=>zR g02 hc;refine ⟨_,rfl,q po as rs HA (λc o' h=>?_) hpoH (λc hc=>H2n c (fre c hc)) nd (λz=>by rw [fre po z] at e2; cases e2) ePo rows pi.done⟩;exact EA c o' (λz=>by rw [z,hpoH] at h; cases h) (g02 _ _ h)
abbrev zFu:Stmt:=top 52
abbrev zME:Stmt:=top 50
abbrev zMI:Stmt:=top 53
def zNo (f:List Int->List (List Int)):List Int->List (List Int)
 | []=>[]
 | x::L=>(f L).map (x::·)++zNo f L
def Zc:Nat->List Int->List (List Int)
 | 0=>λ_=>[[]]
 | k+1=>zNo (Zc k)
theorem zHX (k:Nat):∀L:List Int,L.length<=10->(Zc (k+1) L).length<=L.length*10^k/\(Zc k L).length<=10^k:=by
 induction k with
 | zero=>
  intro L hL;refine ⟨?_,qG _⟩
  induction L with
  | nil=>exact QF _
  | cons x L ih=>
   have h:(Zc 1 L).length<=L.length*10^0:=ih (by rw [qT] at hL; lia);show ([[x]]++Zc 1 L).length<=(x::L).length*10^0;simp only [qJ,qT,List.length_nil,Nat.pow_zero,Nat.mul_one] at h ⊢;lia
 | succ k ihk=>
  intro L hL;have h2:(Zc (k+1) L).length<=10^(k+1):=by
   have:=(ihk L hL).1;have h3:L.length*10^k<=10*10^k:=vW _ hL;rw [Nat.pow_succ];lia
  refine ⟨?_,h2⟩
  induction L with
  | nil=>exact QF _
  | cons x L ih=>
   have hL':L.length<=10:=by rw [qT] at hL; lia
   have h3:(Zc (k+1) L).length<=10^(k+1):=by
    have:=(ihk L hL').1;have h3:L.length*10^k<=10*10^k:=vW _ hL';rw [Nat.pow_succ];lia
   have h:(Zc (k+2) L).length<=L.length*10^(k+1):=ih hL' h3;show ((Zc (k+1) L).map (x::·)++Zc (k+2) L).length<=_;rw [qJ,qA,qT,Nat.succ_mul];lia
theorem YG:∀(k:Nat) (L:List Int),∀c∈Zc k L,List.Sublist c L/\c.length=k
 | 0,L,c,h=>by rw [List.mem_singleton.mp h]; exact ⟨List.nil_sublist _,rfl⟩
 | k+1,[],c,h=>nomatch h
 | k+1,x::L,c,h=>by
  rcases List.mem_append.mp h with z | z
  .obtain ⟨c',hc',rfl⟩:=List.mem_map.mp z
   obtain ⟨a,b⟩:=YG k L c' hc';exact ⟨a.cons_cons x,by rw [qT,b]⟩
  .obtain ⟨a,b⟩:=YG (k+1) L c z
   exact ⟨a.cons x,b⟩
noncomputable def zBe (ss L:List Int):Nat:=open Classical in if h:∃rs,YA ss L rs then (choose h).length else 0
theorem Jk {rs:List (List Int)} (h:YA ss L rs):zBe ss L=rs.length:=by
 unfold zBe;have hx:∃rs,YA ss L rs:=⟨rs,h⟩;rw [dif_pos hx,(Classical.choose_spec hx).uniq h]
noncomputable def Jm (ns ss cs:List Int):Bool:=decide (cs.length<ns.length)&&decide (cs.length+2<=zBe ss (ns.filter λx=> !cs.contains x))
noncomputable def zEB (ns ss:List Int):Option (List Int):=((List.range 4).flatMap λk=>Zc k ns).find? (Jm ns ss)
inductive zDq (m:Nat) (vs:List V) (H:Hp) (Q:VK) (E:XK):Prop
 | mk (p:Addr) (L:List Int) (k:Nat):vs=[.ref p, .int k]->H p=some (.lst (L.map V.int))->L.length<=10->k<m->k<=3->(∀(l:Addr) (as:List Addr) (H':Hp),zE H H'->H l=none->(∀a∈as,H a=none)->H' l=some (.lst (as.map V.ref))->ZB H' as (Zc k L)->Q (.ref l) H')->zDq m vs H Q E
inductive zFO (vs:List V) (H:Hp) (Q:VK) (E:XK):Prop
 | mk (t a b p:Addr) (ns ss cs:List Int):vs=[.ref t, .ref p]->zi H t a b ns ss->H p=some (.lst (cs.map V.int))->zAP cs->cs.length<=10->(∀x∈cs,x∈ns)->(∀H',zE H H'->Q (.bl (Jm ns ss cs)) H')->zFO vs H Q E
inductive zJE (vs:List V) (H:Hp) (Q:VK) (E:XK):Prop
 | mk (t a b:Addr) (ns ss:List Int):vs=[.ref t]->zi H t a b ns ss->(∀H',zE H H'->zEB ns ss=none->Q .non H')->(∀(o:Addr) (c:List Int) (H':Hp),zE H H'->H o=none->H' o=some (.lst (c.map V.int))->zEB ns ss=some c->Q (.ref o) H')->zJE vs H Q E
theorem zFU:FS 2 ["numbers","size","found","place","number"] zFu:=zm
theorem zOK (F:Fu K "rising_lists" zFu f fd) (B:Bt3 mg)
  (GR:FnOk P w K mg base zU (m+1) f fd ["numbers","size"] (zDq m)) (bR:zX K fd ["numbers","size"] []) (kR:Kee K f) (mR:mg "rising_lists"=some (.ref f)):FnOk P w K mg base zU (m+2) f fd ["numbers","size"] (zDq (m+1)):=by
 refine F.ok zFU (λvs H Q E h=>?_) (λcdv A outer s H vs Q E hr h=>?_)
 .obtain ⟨p,L,k,rfl,_⟩:=h
  rfl
 obtain ⟨p,L,k,rfl,hp,l10,km,k3,q⟩:=h;refine ⟨_,(@zD _ _ _ _ _ (zd (zT YQ (pv 1) zJ (zV _)) (@zG _ _ _ (zM (zv (zA (zv zB) zB)))) zW) (@zD _ _ _ _ _ (zJd (i:=2) zFU.nd rfl (Or.inl rfl) (zv zB)) (@zD _ _ _ _ _ (Zq qi rfl (zHm rfl B.enumerate (zA (pv 0) zB)) (zGp rfl (Yq (jw (i:=3) zFU.nd rfl (Or.inl rfl)) (Yq (jw (i:=4) zFU.nd rfl (Or.inr rfl)) zCE))) (@zG _ _ _ (zo (YF qk XG XH zAJ (pv 2) (zA (ZR ["rest"] rfl (zKA (Za zFu) ["numbers","size","found","place","number"] rfl rfl (by decide +kernel)) (zj (zHl GR hr rfl mR kR bR .nil ze (zA (j6 Ji (pv 0) (Je (zS ZA (pv 3) zJ)) Jd) (zA (zS yc (pv 1) zJ) zB)))) (λpA C fp s3 H3=>⟨(jw (i:=0) (show (zAQ ["rest"] ["numbers","size","found","place","number"]).Nodup by decide +kernel) rfl (Or.inl rfl)),yN,(zS Yt (zv (zA (pv 5) zB)) (pv 0))⟩)) zB))))) (@zG _ _ _ (zM (pv 2)))))),?_⟩;have lml:(L.map V.int).length=L.length:=qA _;refine ⟨_,rfl,rfl,_,rfl,zr (λc=>?_) (λc=>?_)⟩
 .have k0:k=0:=by
   have e:=V.int.inj (qZ c);lia
  subst k0;refine ⟨(by show 0<=sizeLine; decide),λe0 he0=>⟨(by show 1<=sizeLine; decide),λl hl=>?_⟩⟩;have g1:=zE.new he0 (.lst []);have g2:=zE.new hl (.lst [.ref e0]);exact q l [e0] _ (g1.trans g2) (zR g1 hl) (λa ha=>by rw [List.mem_singleton.mp ha]; exact he0) zC (.cons (g2 _ _ zC) .nil)
 .obtain ⟨k',rfl⟩:∃k',k=k'+1:=by
   cases k with
   | zero=>exact v6 (qK rfl) c
   | succ k'=>exact ⟨k',rfl⟩
  refine ⟨(by show 0<=sizeLine; decide),λfo hfo=>?_⟩;have g1:=zE.new hfo (.lst []);have e1:zH H fo (.lst []) fo=some (.lst (([]:List Addr).map V.ref)):=zC;have pf:p≠fo:=zF hp hfo;generalize zH H fo (.lst [])=H1 at g1 e1 ⊢;have hp1:=g1 _ _ hp;have tot:(Zc (k'+1) L).length<=1000:=by
   have h1:=(zHX (k'+1) L l10).2;have h2:10^(k'+1)<=10^3:=QX (by decide) k3;lia
  refine ⟨_,rfl,p,_,rfl,hp1,?_⟩;refine zMZ (xs:=L.map V.int) (λi U H'=>∃(x3 x4:Option V) (as:List Addr) (rs:List (List Int)),U=[some (.ref p),some (.int ((k'+1:Nat):Int)),some (.ref fo),x3,x4]/\Ex (·=fo) H1 H'/\H' fo=some (.lst (as.map V.ref))/\ZB H' as rs/\rs++Zc (k'+1) (L.drop i)=Zc (k'+1) L/\∀a∈as,H1 a=none)
   ⟨none,none,[],[],rfl,Ex.refl,e1, .nil,rfl,nofun⟩ (λi U H' _ ⟨_,_,_,_,_,ex,_⟩=>ex _ _ pf hp1) ?_ ?_
  .rintro i x U H3 T hx ⟨x3,x4,as,rs,rfl,ex,ef,rows,inv,fre⟩ hT
   have hi:i<L.length:=by rw [<-lml]; exact (List.getElem?_eq_some_iff.mp hx).1
   rw [qM,qB hi] at hx;cases hx;have gT:zE H3 (zH H3 T (.tup [.int (i:Int), .int L[i]])):=zE.new hT _;have exT':=ex.trans (Ex.same gT);have efT:=gT _ _ ef;have rowsT:=rows.same gT;have eT:(zH H3 T (.tup [.int (i:Int), .int L[i]])) T=some (.tup [.int (i:Int), .int L[i]]):=zC;generalize zH H3 T (.tup [.int (i:Int), .int L[i]])=H4 at exT' efT eT rowsT ⊢;have hp4:=exT' _ _ pf hp1;refine ⟨T,_,rfl,ZD.of eT,rfl,_,_,rfl,_,_,rfl,rfl,?_⟩;refine ⟨_,rfl, .inl ⟨rfl,_,zK.of efT⟩,_,rfl,_,rfl,_,_,rfl,rfl,_,rfl,p,_,rfl,zK.of hp4,λc hc=>?_⟩;rw [zDA L i];have g5:=zE.new hc (.lst ((L.drop (i+1)).map V.int));have ec5:zH H4 c (.lst ((L.drop (i+1)).map V.int)) c=some (.lst ((L.drop (i+1)).map V.int)):=zC;generalize zH H4 c (.lst ((L.drop (i+1)).map V.int))=H5 at g5 ec5 ⊢;have ek:((k'+1:Nat):Int) - 1=(k':Int):=by lia
   refine ⟨_,rfl,_,_,rfl,rfl,c,L.drop (i+1),k',?_,ec5,by rw [Qg]; lia,by lia,by lia,λl bs H6 g6 nl freB el rowsB=>?_⟩
   .show [V.ref c,V.int (((k'+1:Nat):Int) - 1)]=_
    rw [ek]
   have g46:=g5.trans g6;have bl:bs.length<=1000:=by
    rw [rowsB.len];have h1:=(zHX k' (L.drop (i+1)) (by rw [Qg]; lia)).2;have h2:10^k'<=10^3:=QX (by decide) (by lia);lia
   have r10:∀r∈Zc k' (L.drop (i+1)),r.length<=10:=λr hr=>by
    rw [(YG _ _ r hr).2];lia
   refine ⟨l,rfl,⟨_,zK.of el⟩,λD hD=>?_⟩;refine zJw (U:=[some (.ref p),some (.int ((k'+1:Nat):Int)),some (.ref fo),some (.int (i:Int)),some (.int L[i])]) (λr=>L[i]::r) (zK.of el) rowsB hD bl (λb r H' P hr' er g hP=>?_) λus H7 g7 freU ndU DU eD rowsU=>?_
   .refine ⟨_,rfl,(by show 1<=sizeLine; decide),λnl hnl=>?_⟩
    have g8:=zE.new hnl (.lst [.int L[i]]);refine ⟨_,rfl,nl,b,_,_,rfl,rfl,zC,g8 _ _ er,by rw [qA]; exact qQ (by have:=r10 r hr'; show 1+_<=1000; lia) (by decide),λo ho=>?_⟩;exact hP o _ (g8.trans (zE.new ho _)) (zR g8 ho) zC
   have g47:=g46.trans g7;have ef7:=g47 _ _ efT;have al:=rows.len;have ul:=rowsU.len;rw [qA] at ul;have dr:L.drop i=L[i]::L.drop (i+1):=xK hi;rw [dr] at inv;have inv2:(rs++(Zc k' (L.drop (i+1))).map (L[i]::·))++Zc (k'+1) (L.drop (i+1))=Zc (k'+1) L:=by
    rw [xS];exact inv
   have ll:rs.length+(Zc k' (L.drop (i+1))).length<=1000:=by
    have:=Qe List.length inv2;rw [qJ,qJ,qA] at this;lia
   have Dfo:D≠fo:=Ne.symm (zF (g46 _ _ efT) hD);refine ⟨fo,D,_,_,rfl,rfl,ef7,eD,by rw [qA,qA]; exact qQ (by lia:_<=1000) (by decide),?_⟩;have H1f:H1 fo≠none:=by rw [e1]; exact λz=>nomatch z
   have fn:∀c,H4 c=none->H1 c=none:=λc hc=>by
    cases e:H1 c with
    | none=>rfl
    | some u=>
     by_cases z:c=fo
     .rw [z,efT] at hc; cases hc
     .rw [exT' c u z e] at hc; cases hc
   refine ⟨_,_,as++us,rs++(Zc k' (L.drop (i+1))).map (L[i]::·),rfl,exT'.trans ((Ex.same g47).trans (Ex.put _ rfl)),by rw [zC,qN],?_,inv2,λa ha=>?_⟩
   .refine ZB.append ((rowsT.same g47).by λc hc o h=>?_) (rowsU.by λc hc o h=>?_)
    .rw [zI (λz=>by rw [z] at hc; exact H1f (fre fo hc))]; exact h
    .rw [zI (λz=>by
      have h6:=freU c hc;rw [z,g46 _ _ efT] at h6;cases h6)]; exact h
   .rcases List.mem_append.mp ha with z | z
    .exact fre a z
    .exact fn a (zR g46 (freU a z))
  .rintro U H3 ⟨x3,x4,as,rs,rfl,ex,ef,rows,inv,fre⟩
   have inv':rs=Zc (k'+1) L:=by
    rw [lml,List.drop_length] at inv;have e:Zc (k'+1) []=[]:=rfl;rw [e,qv] at inv;exact inv
   rw [inv'] at rows;exact ⟨_,rfl,q fo as H3 (λc o h=>ex c o (λz=>by rw [z,hfo] at h; cases h) (g1 _ _ h)) hfo (λa ha=>zR g1 (fre a ha)) ef rows⟩
theorem zKy (F:Fu K "rising_lists" zFu f fd) (B:Bt3 mg) (bR:zX K fd ["numbers","size"] []) (kR:Kee K f) (mR:mg "rising_lists"=some (.ref f)):∀m:Nat,FnOk P w K mg base zU (m+1) f fd ["numbers","size"] (zDq m)
 | 0=>⟨λvs H Q E h=>by obtain ⟨p,L,k,rfl,_⟩:=h; rfl,λA outer s H args us vs Q E _ _ _ _ h=>by
   obtain ⟨p,L,k,_,_,_,hk,_⟩:=h;exact v6 hk (Qn _)⟩
 | m+1=>zOK F B (zKy F B bR kR mR m) bR kR mR
theorem zSS:FS 2 ["plan","thing"] zME:=zm
theorem zQT (F:Fu K "shows_no_row" zME f fd) (B:Bt3 mg)
  (GC:Gd P w K mg base 5 g1 pH ["plan"] yw "check_plan")
  (GI:Gd P w K mg base 5 g2 pI ["plan","thing"] zDl "is_cut")
  (GP:Gd P w K mg base 5 g3 pJ ["plan","cut"] zAp "parts_behind"):FnOk P w K mg base zU 6 f fd ["plan","thing"] zFO:=by
 refine F.ok zSS ?_ ?_
 .rintro _ _ _ _ ⟨t,a,b,p,ns,ss,cs,rfl,_⟩
  rfl
 rintro _ A _ s H _ Q E hr ⟨t,a,b,p,ns,ss,cs,rfl,pl,hp,ri,c10,sub,q⟩;refine ⟨_,(zD (zo (zL GC hr (zA (pv 0) zB))) (zG (zM (YL (zL GI hr (zA (pv 0) (zA (pv 1) zB))) (yf (ZT zCP (zP zQ rfl B.len qU (zA (zL GP hr (zA (pv 0) (zA (pv 1) zB))) zB)) (zS ZA (zP zQ rfl B.len qU (zA (pv 1) zB)) zJ) (zV _))))))),?_⟩;unfold Jm at q;refine ⟨_,rfl,t,a,b,ns,ss,rfl,pl,_,rfl,_,rfl,t,a,b,p,ns,ss,cs,rfl,pl,hp,ri,c10,sub,λH2 g2=>⟨_,rfl,zr (λc=>?_) (λc=>?_)⟩⟩
 .rw [c,QJ] at q
  refine ⟨_,rfl,_,rfl,t,a,b,p,ns,ss,cs,rfl,pl.same g2,g2 _ _ hp,c10,λl as rs H3 g3 nl fre nd lo el rows parts=>?_⟩;refine ⟨l,_,rfl, .inl (zK.of el),_,rfl,p,_,rfl, .inl (zK.of (g3 _ _ (g2 _ _ hp))),_,_,rfl,rfl,_,_,rfl,rfl,?_⟩;rw [Jk parts] at q;have e:decide ((((cs.map V.int).length:Nat):Int)+2<=((as.map V.ref).length:Nat))=decide (cs.length+2<=rs.length):=by
   rw [qA,qA,rows.len];exact decide_eq_decide.mpr ⟨λh=>by lia,λh=>by lia⟩
  show Q (.bl (decide ((((cs.map V.int).length:Nat):Int)+2<=((as.map V.ref).length:Nat)))) H3;rw [e];exact q _ (g2.trans g3)
 .rw [Bool.eq_false_iff.mpr c,xG] at q
  exact q _ g2
theorem zIq:FS 1 ["plan","size","cut"] zMI:=zm
theorem zQd (F:Fu K "short_cut" zMI f fd) (B:Bt3 mg) (m3:mg "MOST_IN_SHORT_CUT"=some (.int 3 t3))
  (GC:Gd P w K mg base 6 g1 pH ["plan"] yw "check_plan")
  (GR:Gd P w K mg base 6 g2 pI ["numbers","size"] (zDq 4) "rising_lists")
  (GS:Gd P w K mg base 6 g3 pJ ["plan","thing"] zFO "shows_no_row"):FnOk P w K mg base zU 7 f fd ["plan"] zJE:=by
 refine F.ok zIq ?_ ?_
 .rintro _ _ _ _ ⟨t,a,b,ns,ss,rfl,_⟩
  rfl
 rintro _ A _ s H _ Q E hr ⟨t,a,b,ns,ss,rfl,pl,q0,q1⟩;have n10:=pl.ok.n2;refine ⟨_,(zD (zo (zL GC hr (zA (pv 0) zB))) (zD (Zq qi rfl (yx rfl B.range (zA (zS ZA (jR (v:= .int 3) rfl m3 ⟨_,rfl⟩) zJ) zB)) (Yk 1 zIq.nd) (zG (Zq qi rfl (zj (zL GR hr (zA (zz zh (pv 0) zJ) (zA (pv 1) zB)))) (Yk 2 zIq.nd) (zG (zd (ZN (zL GS hr (zA (pv 0) (zA (pv 2) zB)))) (zG (zM (pv 2))) zW))))) (zG (zM Y4)))),?_⟩;refine ⟨_,rfl,t,a,b,ns,ss,rfl,pl,?_⟩;refine ⟨_,_,rfl,rfl,_,rfl,by decide,by decide,?_⟩;refine yv (lo:=0) (n:=4) (λi U H'=>∃(x1 x2:Option V),U=[some (.ref t),x1,x2]/\zE H H'/\∀c∈(List.range i).flatMap (λk=>Zc k ns),Jm ns ss c=false) ⟨_,_,rfl,zE.rfl',nofun⟩ ?_ ?_
 .rintro i U HA hi ⟨x1,x2,rfl,gA,no⟩
  have plA:=pl.same gA;have ei:(0:Int)+(i:Int)=((i:Nat):Int):=xP _;refine ⟨_,rfl,t,_,0,_,rfl,rfl,ZD.of plA.t,rfl,_,rfl,a,ns,i,?_,plA.a,n10,hi,by lia,λl as HB gB nl fre el rows=>?_⟩
  .rw [ei]
   rfl
  refine ⟨l,rfl,⟨_,zK.of el⟩,?_⟩;have aml:(as.map V.ref).length=as.length:=qA _;have al:=rows.len;have gAB:=gA.trans gB;refine yz (xs:=as.map V.ref) (λj U H'=>∃x2:Option V,U=[some (.ref t),some (.int (0+(i:Int))),x2]/\zE HB H'/\∀c∈(Zc i ns).take j,Jm ns ss c=false) ⟨_,rfl,zE.rfl',λ_ h=>by rw [vY] at h; cases h⟩ (λj U H' _ ⟨_,_,g,_⟩=>zK.of (g _ _ el)) ?_ ?_
  .rintro j v U HC hv ⟨x2,rfl,gC,no2⟩
   have hj:j<as.length:=by
    have:=(List.getElem?_eq_some_iff.mp hv).1
    rwa [aml] at this
   have hj':j<(Zc i ns).length:=by lia
   rw [qM,qB hj] at hv;cases hv;obtain ⟨er,am,rm⟩:=rows.get hj;have ga:as.getD j 0=as[j]:=by rw [qC,qB hj]; rfl
   have gr:(Zc i ns).getD j []=(Zc i ns)[j]:=by rw [qC,qB hj']; rfl
   rw [gr] at er rm;rw [ga] at er am;obtain ⟨sl,cl⟩:=YG i ns _ rm;have ri:zAP (Zc i ns)[j]:=⟨pl.ok.n.up.sublist sl,λx hx=>pl.ok.n.bd x (sl.subset hx)⟩;have gAC:=gAB.trans gC;refine ⟨_,rfl,_,rfl,t,a,b,as[j],ns,ss,(Zc i ns)[j],rfl,pl.same gAC,gC _ _ er,ri,by rw [cl]; lia,λx hx=>sl.subset hx,λHD gD=>⟨_,rfl,zr (λc=>?_) (λc=>?_)⟩⟩
   .refine ⟨_,rfl,q1 _ (Zc i ns)[j] HD (gAC.trans gD) (zR gA (fre _ am)) (gD _ _ (gC _ _ er)) ?_⟩
    unfold zEB;have e4:(List.range 4).flatMap (λk=>Zc k ns)=(List.range i).flatMap (λk=>Zc k ns)++(Zc i ns++((List.range 4).drop (i+1)).flatMap λk=>Zc k ns):=by
     have hr4:List.range 4=List.range i++(i::(List.range 4).drop (i+1)):=by
      have hi4:i<(List.range 4).length:=by rw [QB]; exact hi
      conv=>lhs; rw [<-XV i (List.range 4),xK hi4]
      rw [List.take_range,xa,vU (by lia)]
     conv=>lhs; rw [hr4]
     rw [XJ,QH]
    rw [e4,Q6,List.find?_eq_none.mpr (λc hc z=>by rw [no c hc] at z; cases z),Option.none_or,Q6];have e5:(Zc i ns).find? (Jm ns ss)=some (Zc i ns)[j]:=by
     conv=>lhs; rw [<-XV j (Zc i ns),xK hj']
     rw [Q6,List.find?_eq_none.mpr (λc hc z=>by rw [no2 c hc] at z; cases z),Option.none_or,List.find?_cons_of_pos c]
    rw [e5];rfl
   .refine ⟨_,rfl,gC.trans gD,λc' hc'=>?_⟩
    rw [List.take_succ,qB hj'] at hc';rcases List.mem_append.mp hc' with z | z
    .exact no2 c' z
    .rw [List.mem_singleton.mp (show c'∈[(Zc i ns)[j]] from z)]
     exact Bool.eq_false_iff.mpr c
  .rintro U HC ⟨x2,rfl,gC,no2⟩
   rw [aml,al,xF] at no2;refine ⟨_,_,rfl,gAB.trans gC,λc hc=>?_⟩;rw [xO,XJ,List.flatMap_singleton] at hc;rcases List.mem_append.mp hc with z | z
   .exact no c z
   .exact no2 c z
 .rintro U HA ⟨x1,x2,rfl,gA,no⟩
  refine q0 _ gA ?_;unfold zEB;exact List.find?_eq_none.mpr λc hc z=>by rw [no c hc] at z; cases z
end Ct
abbrev zHu:Stmt:=top 74
abbrev zLl:Stmt:=top 75
abbrev sMp:Stmt:=top 76
inductive zFr (K:W.Frag) (vs:List V) (H:Hp) (Q:VK) (E:XK):Prop
 | mk (a:Addr) (ns:List Int) (k:Int):vs=[.ref a, .int k]->zK K H a (ns.map V.int)->0<=k->k<100->(∀r:Int,Q (.int r) H)->zFr K vs H Q E
def jA (H:Hp) (sd:Addr) (n:Nat):Prop:=∃(pB:List (zZ×V)) (ks:List Int),H sd=some (.dK pB)/\pB.map (·.1)=ks.map Sum.inl/\ks.Nodup/\(∀x∈ks,0<=x)/\ks.length<=n
theorem jA.stay (h:jA H sd n) (e:∀{o},H sd=some o->H' sd=some o):jA H' sd n:=by
 obtain ⟨pB,ks,h1,h2⟩:=h;exact ⟨pB,ks,e h1,h2⟩
theorem jA.more (h:jA H sd n):jA H sd (n+1):=by
 obtain ⟨pB,ks,h1,h2,h3,h4,h5⟩:=h;exact ⟨pB,ks,h1,h2,h3,h4,Xy h5⟩
theorem jA.put (h:jA H sd n) (x0:0<=x):∃pB,H sd=some (.dK pB)/\pB.length<=n/\jA (zH H sd (.dK (Zd pB (Sum.inl x) (.bl true)))) sd (n+1):=by
 obtain ⟨pB,ks,h1,h2,h3,h4,h5⟩:=h;have hl:pB.length=ks.length:=by have:=Qe List.length h2; simpa using this
 refine ⟨pB,h1,by lia,_,_,zC,zJy h2,?_,?_,?_⟩ <;> split
 .exact h3
 .rename_i hx
  exact List.nodup_append.mpr ⟨h3,by simp,λa ha b hb e=>hx (List.mem_singleton.mp hb▸e▸ha)⟩
 .exact h4
 .intro y hy
  rcases List.mem_append.mp hy with z | z
  .exact h4 y z
  .rw [List.mem_singleton.mp z]; exact x0
 .exact Xy h5
 .rw [qJ]; exact Nat.succ_le_succ h5
inductive zFT (vs:List V) (H:Hp) (Q:VK) (E:XK):Prop
 | mk (cell k:Int):vs=[.int cell, .int k]->0<=k->k<100->(∀(r:Int) (H':Hp),zE H H'->0<=r->Q (.int r) H')->zFT vs H Q E
inductive zMd (vs:List V) (H:Hp) (Q:VK) (E:XK):Prop
 | mk (cell:Int):vs=[.int cell, .int 6]->0<=cell->(∀(t a b:Addr) (ns ss:List Int) (H':Hp),zE H H'->zi H' t a b ns ss->ns.length<=6->Q (.ref t) H')->zMd vs H Q E
theorem zPa:FS 2 ["script","k"] zHu:=zm
theorem zOu (F:Fu K "_law_cell" zHu f fd) (B:Bt3 mg):FnOk P w K mg base zU 1 f fd ["script","k"] (zFr K):=by
 refine F.ok zPa ?_ ?_
 .rintro _ _ _ _ ⟨a,ns,k,rfl,_⟩
  rfl
 rintro _ A _ s H _ Q E hr ⟨a,ns,k,rfl,hS,k0,k1,q⟩;refine ⟨_,(zD (zd (zT ji (pv 1) (zP zQ rfl B.len qU (zA (pv 0) zB)) (zV _)) (zG (zM (zz zx (pv 0) (pv 1)))) zW) (zG (zM (zS ZA (zS ZA (zS YZ (zS YZ zJ (pv 1)) (pv 1)) (zS YZ zJ (pv 1))) zJ)))),?_⟩;have nml:(ns.map V.int).length=ns.length:=qA _;refine ⟨_,rfl,_,rfl,a,_,rfl, .inl hS,_,_,rfl,rfl,_,rfl,zr (λc=>?_) (λc=>?_)⟩
 .have h1:k<((ns.map V.int).length:Nat):=qZ c
  rw [nml] at h1;obtain ⟨v,hv,_⟩:=Jo ns k0 h1;exact ⟨_,rfl,_,rfl,a,_,_,_,rfl,rfl,hS,hv,q _⟩
 .exact ⟨_,rfl,_,_,rfl,rfl, .inl ⟨by decide,by decide⟩,_,rfl,_,_,rfl,rfl, .inr ⟨by lia,by lia⟩,_,rfl,_,_,rfl,rfl, .inl ⟨by decide,by decide⟩,_,_,rfl,rfl,_,_,rfl,rfl,q _⟩
theorem zFJ:FS 2 ["cell","k","number","some"] zLl:=zm
theorem zPf (F:Fu K "_law_mixed" zLl f fd):FnOk P w K mg base zU 1 f fd ["cell","k"] zFT:=by
 refine F.ok zFJ ?_ ?_
 .rintro _ _ _ _ ⟨cell,k,rfl,_⟩
  rfl
 rintro _ A _ s H _ Q E hr ⟨cell,k,rfl,k0,k1,q⟩;refine ⟨_,(@zD _ _ _ _ _ (zt 2 zFJ.nd (zS yq (zS ZA (zS ZA (zS ZA (zS YZ (pv 0) zJ) (zS YZ (zS YZ zJ (pv 1)) (pv 1))) (zS YZ zJ (pv 1))) zJ) zJ)) (@zD _ _ _ _ _ (zt 3 zFJ.nd (zv (zA zJ (zA zJ (zA zJ (zA zJ (zA zJ (zA zJ (zA zJ zB))))))))) (@zD _ _ _ _ _ (zt 2 zFJ.nd (zS yq (zS YZ (pv 2) (pv 2)) (zz zx (pv 3) (zS yq (pv 1) zJ)))) (@zG _ _ _ (zM (zS zAZ (zS ZA (zS YZ (pv 2) zJ) (zS yq (pv 0) zJ)) zJ)))))),?_⟩;refine ⟨_,rfl,_,_,rfl,rfl, .inr ⟨by decide,by decide⟩,_,rfl,_,_,rfl,rfl, .inl ⟨by decide,by decide⟩,_,rfl,_,_,rfl,rfl, .inr ⟨by lia,by lia⟩,_,_,rfl,rfl,_,rfl,_,_,rfl,rfl, .inl ⟨by decide,by decide⟩,_,_,rfl,rfl,_,_,rfl,rfl,_,_,rfl,rfl,(by show (0:Int)<2147483647; decide),?_⟩;have n0:0<=(cell*48271+7919*k*k+104729*k+11) % 2147483647:=XO _ (by decide);have n1:(cell*48271+7919*k*k+104729*k+11) % 2147483647<2147483647:=Xn _ (by decide);refine ⟨(by show 7<=sizeLine; decide),λl hl=>?_⟩;have g1:=zE.new hl (.lst ([2147483629,2147483587,2147483579,2147483563,2147483549,2147483543,2147483497].map V.int));have e1:zH H l (.lst ([2147483629,2147483587,2147483579,2147483563,2147483549,2147483543,2147483497].map V.int)) l=some (.lst ([2147483629,2147483587,2147483579,2147483563,2147483549,2147483543,2147483497].map V.int)):=zC;obtain ⟨m,hm,mm⟩:=Jo [2147483629,2147483587,2147483579,2147483563,2147483549,2147483543,2147483497] (r:=k % 7) (by lia) (by show k % 7<7; lia);have mb:0<m/\m<2147483648:=by
  simp only [Q2,Q1,or_false] at mm;lia
 refine ⟨_,rfl,_,rfl,_,_,rfl,rfl, .inl ⟨by lia,by lia⟩,_,rfl,_,rfl,_,_,rfl,rfl,(by show (0:Int)<7; decide),l,_,_,_,rfl,rfl,zK.of e1,hm,_,_,rfl,rfl,mb.1,?_⟩;have p0:0<=((cell*48271+7919*k*k+104729*k+11) % 2147483647)*((cell*48271+7919*k*k+104729*k+11) % 2147483647) % m:=XO _ (by lia);exact ⟨_,rfl,_,_,rfl,rfl, .inr ⟨by decide,by decide⟩,_,rfl,_,_,rfl,rfl,(by show (0:Int)<5; decide),_,_,rfl,rfl,_,_,rfl,rfl,⟨by decide,by decide⟩,q _ _ g1 (by lia)⟩
theorem jH:FS 2 ["cell","most","many","kind","numbers","one","k","sums","a","b"] sMp:=zm
theorem zRl (F:Fu K "_law_plan" sMp f fd) (B:Bt2 mg) (zset:mg "set"=none)
  (GX:Gd P w K mg base 1 g1 pH ["cell","k"] zFT "_law_mixed"):FnOk P w K mg base zU 2 f fd ["cell","most"] zMd:=by
 refine F.ok jH ?_ ?_
 .rintro _ _ _ _ ⟨cell,rfl,_⟩
  rfl
 rintro _ A _ s H _ Q E hr ⟨cell,rfl,c0,q⟩;have hu:=zAD hr;refine ⟨_,(@zD _ _ _ _ _ (zt 2 jH.nd (zS ZA zJ (zS yq (pv 0) (pv 1)))) (@zD _ _ _ _ _ (zt 3 jH.nd (zS yq (zS zAZ (pv 0) (pv 1)) zJ)) (@zD _ _ _ _ _ (jS ["k"] rfl (bk jH) (yx rfl B.range (zA (pv 2) zB)) (λpA C fp s3 H3=>⟨(yI jH),yN,(zS ZA zJ (pv 0))⟩) (j:=4) jH.nd rfl (Or.inl rfl) rfl) (@zD _ _ _ _ _ (zd (zT zFI (pv 3) zJ (zV _)) (@zD _ _ _ _ _ (zt 5 jH.nd (YR zx (zv (zA zJ (zA zJ (zA zJ (zA (zS YZ zJ (zS zPK zJ zJ)) zB))))) (pv 3) (λ_ _=>rfl))) (@zD _ _ _ _ _ (zt 4 jH.nd (zv zB)) (@zG _ _ _ (Zq qi rfl (yx rfl B.range (zA (pv 2) zB)) (Yk 6 jH.nd) (@zD _ _ _ _ _ (zt 5 jH.nd (zS ZA (zS ZA (pv 5) (zS yq (zL GX hr (zA (pv 0) (zA (pv 6) zB))) (YR zx (zv (zA zJ (zA zJ (zA zJ (zA zJ zB))))) (pv 3) (λ_ _=>rfl)))) zJ)) (@zG _ _ _ (zo (YF qk QT QU yY (pv 4) (zA (zS yc (pv 5) (ZE zAI rfl B.int xj (zA (YL (ZT YQ (pv 3) zJ (zV _)) (yf (ZT YQ (pv 6) zJ (zV _)))) zB))) zB))))))))) zW) (@zD _ _ _ _ _ (zt 4 jH.nd (zAS rfl rfl B.sorted rfl zset (pv 4))) (@zD _ _ _ _ _ (zt 7 jH.nd zGS) (@zD _ _ _ _ _ (Zq qi rfl (yx rfl B.range (zA (zS ZA (zS yq (zL GX hr (zA (pv 0) (zA zJ zB))) zJ) (zS YZ zJ (ZE zAI rfl B.int xj (zA (ZT YQ (pv 3) zJ (zV _)) zB)))) zB)) (Yk 6 jH.nd) (@zD _ _ _ _ _ (zt 8 jH.nd (YR zx (pv 4) (zS yq (zL GX hr (zA (pv 0) (zA (zS ZA zJ (pv 6)) zB))) (zP zQ rfl B.len qU (zA (pv 4) zB))) (λ_ _=>rfl))) (@zD _ _ _ _ _ (zt 9 jH.nd (YR zx (pv 4) (zS yq (zL GX hr (zA (pv 0) (zA (zS ZA zJ (pv 6)) zB))) (zP zQ rfl B.len qU (zA (pv 4) zB))) (λ_ _=>rfl))) (@zG _ _ _ (zd (zT ji (zP zKq rfl B.len qU (zA (pv 7) zB)) zJ (zV _)) (@zG _ _ _ (j8 hu (pv 7) (zS ZA (zS ZA (pv 8) (pv 9)) (ZE zAI rfl B.int xj (zA (ZT YQ (zS yq (zL GX hr (zA (pv 0) (zA (zS ZA zJ (pv 6)) zB))) zJ) zJ (zV _)) zB))) ZU rfl)) zW))))) (@zG _ _ _ (zM (ya (zA (pv 4) (zA (zP (J7 rfl) rfl B.sorted xx (zA (pv 7) zB)) zB)))))))))))),?_⟩;refine ⟨_,rfl,_,rfl,_,_,rfl,rfl,(by show (0:Int)<6; decide),_,_,rfl,rfl,?_⟩;refine ⟨_,rfl,_,rfl,_,_,rfl,rfl,⟨by decide,by decide⟩,_,_,rfl,rfl,(by show (0:Int)<4; decide),?_⟩;have m0:1<=1+cell % 6:=by lia
 have m1:1+cell % 6<=6:=by lia
 have k0:0<=cell / 6 % 4:=by lia
 have k1:cell / 6 % 4<4:=by lia
 refine ⟨_,rfl,(1+cell % 6),rfl,by lia,by lia,λnu0 hnu0=>?_⟩;refine zCY (lo:=0) (n:=(1+cell % 6).toNat) (U:=[some (.int cell),some (.int 6),some (.int (1+cell % 6)),some (.int (cell / 6 % 4)),none,none,none,none,none,none]) (λ_=>true) (λk=> .int (1+(k:Int))) hnu0 (by lia) (λi H' hi g=>zAm) (λi H' hi _ g P hP=>?_) λH1 g1 e1=>?_
 .have e:1+(0+(i:Int))=1+(i:Int):=by rw [xP]
  rw [<-e] at hP;exact ⟨_,rfl,_,_,rfl,rfl,hP _ zE.rfl'⟩
 have e1':H1 nu0=some (.lst (((List.range (1+cell % 6).toNat).map λk:Nat=>1+(k:Int)).map V.int)):=by rw [e1,zBQ,qo]; rfl
 clear e1;dsimp only [ZW];refine jQ (λU' H'=>∃(nu:Addr) (xs:List Int) (x5 x6:Option V),U'=[some (.int cell),some (.int 6),some (.int (1+cell % 6)),some (.int (cell / 6 % 4)),some (.ref nu),x5,x6,none,none,none]/\zE H H'/\H' nu=some (.lst (xs.map V.int))/\1<=xs.length/\xs.length<=6/\∀x∈xs,0<=x) (λN hN=>?_) ?_
 .refine ⟨_,rfl,_,_,rfl,rfl,_,rfl,zr (λc=>?_) (λc=>?_)⟩
  .obtain ⟨on,hon,mon⟩:=Jo [0,0,3,9*10^(24:Int).toNat] k0 (by show (cell / 6 % 4)<4; lia)
   have onb:0<=on:=by
    have h:∀x∈([0,0,3,9*10^(24:Int).toNat]:List Int),0<=x:=by decide
    exact h on mon
   refine ⟨_,_,rfl,rfl,⟨by decide,by decide,by decide⟩,_,_,rfl,rfl, .inl ⟨by decide,by decide⟩,(by show 4<=sizeLine; decide),λl0 hl0=>?_⟩;have gl:=zE.new hl0 (.lst [.int 0, .int 0, .int 3, .int (9*10^(24:Int).toNat)]);have el:zH H1 l0 (.lst [.int 0, .int 0, .int 3, .int (9*10^(24:Int).toNat)]) l0=some (.lst [.int 0, .int 0, .int 3, .int (9*10^(24:Int).toNat)]):=zC;refine ⟨_,rfl,l0,_,_,_,rfl,rfl,zK.of el,hon,?_⟩;generalize zH H1 l0 (.lst [.int 0, .int 0, .int 3, .int (9*10^(24:Int).toNat)])=H2 at gl el ⊢;have g2:=g1.trans gl;refine ⟨(by show 0<=sizeLine; decide),λnu hnu=>?_⟩;have g3:=zE.new hnu (.lst []);have e3:zH H2 nu (.lst []) nu=some (.lst (([]:List Int).map V.int)):=zC;have nuH:H nu=none:=zR g2 hnu;have E3:zE H (zH H2 nu (.lst [])):=g2.trans g3;generalize zH H2 nu (.lst [])=H3 at g3 e3 E3 ⊢;refine ⟨_,rfl,(1+cell % 6),rfl,by lia,by lia,?_⟩;refine yv (lo:=0) (n:=(1+cell % 6).toNat) (λi U H'=>∃(v:Int) (x6:Option V) (xs:List Int),U=[some (.int cell),some (.int 6),some (.int (1+cell % 6)),some (.int (cell / 6 % 4)),some (.ref nu),some (.int v),x6,none,none,none]/\zE H H'/\H' nu=some (.lst (xs.map V.int))/\xs.length=i/\0<=v/\∀x∈xs,0<=x)
    ⟨on,_,[],rfl,E3,e3,rfl,onb,λx hx=>nomatch hx⟩ ?_ ?_
   .rintro i U H4 hi ⟨v,x6,xs,rfl,g4,e4,xl,v0,xb⟩
    have hi':i<10:=by lia
    obtain ⟨mo,hmo,mmo⟩:=Jo [1,2,5,9] k0 (by show (cell / 6 % 4)<4; lia);have mob:0<mo:=by
     have h:∀x∈([1,2,5,9]:List Int),0<x:=by decide
     exact h mo mmo
    refine ⟨_,rfl,_,rfl,_,rfl,cell,_,rfl,by lia,by lia,λr H5 g5 r0=>⟨(by show 4<=sizeLine; decide),λl hl=>?_⟩⟩;have g6:=zE.new hl (.lst [.int 1, .int 2, .int 5, .int 9]);have e6:zH H5 l (.lst [.int 1, .int 2, .int 5, .int 9]) l=some (.lst [.int 1, .int 2, .int 5, .int 9]):=zC;refine ⟨_,rfl,l,_,_,_,rfl,rfl,zK.of e6,hmo,_,_,rfl,rfl,mob,_,_,rfl,rfl,_,_,rfl,rfl,?_⟩;have g56:=g5.trans g6;have e46:=g56 _ _ e4;have G6:=g4.trans g56;generalize zH H5 l (.lst [.int 1, .int 2, .int 5, .int 9])=H6 at g6 e6 g56 e46 G6 ⊢;have p0:0<=r % mo:=XO _ (Int.ne_of_gt mob);generalize r % mo=p at p0 ⊢;have gw:∀y:Int,zE H (zH H6 nu (.lst (xs.map V.int++[.int y]))):=λy c o hc=>by
     rw [zI (zF hc nuH)];exact G6 _ _ hc
    have inb:∀y:Int,0<=y->∀x∈xs++[y],0<=x:=λy y0 x hx=>by
     rcases List.mem_append.mp hx with z | z
     .exact xb x z
     .rw [List.mem_singleton.mp z]; exact y0
    have fin:∀y:Int,0<=y->∃l xs0 y0,V.ref nu= .ref l/\[V.int y]=[y0]/\H6 l=some (.lst xs0)/\xs0.length<sizeLine/\(λ(_:V) (H':Hp)=>∃(v':Int) (x6:Option V) (xs:List Int),[some (V.int cell),some (.int 6),some (.int (1+cell % 6)),some (.int (cell / 6 % 4)),some (.ref nu),some (.int (v+p+1)),some (.int (0+(i:Int))),none,none,none]=[some (V.int cell),some (.int 6),some (.int (1+cell % 6)),some (.int (cell / 6 % 4)),some (.ref nu),some (.int v'),x6,none,none,none]/\zE H H'/\H' nu=some (.lst (xs.map V.int))/\xs.length=i+1/\0<=v'/\∀x∈xs,0<=x) .non (zH H6 l (.lst (xs0++[y0]))):=λy y0=>
     ⟨nu,_,_,rfl,rfl,e46,by rw [qA]; exact Zb (by lia),v+p+1,_,xs++[y],rfl,gw y,by rw [zC,qN]; rfl,by rw [qJ,xl]; rfl,by lia,inb y y0⟩
    refine ⟨_,rfl, .inl ⟨rfl,_,zK.of e46⟩,_,rfl,_,rfl,rfl,_,rfl,zr (λc1=>?_) (λc1=>?_)⟩
    .refine ⟨_,rfl,rfl, .inr ⟨_,rfl,_,_,rfl,rfl,?_⟩⟩
     exact fin _ (by split <;> lia)
    .refine .inr ⟨_,rfl,_,_,rfl,rfl,?_⟩
     exact fin _ (by show 0<=v+p+1 - 0; lia)
   .rintro U H4 ⟨v,x6,xs,rfl,g4,e4,xl,v0,xb⟩
    exact hN _ _ ⟨nu,xs,_,_,rfl,g4,e4,by lia,by lia,xb⟩
  .refine hN _ _ ⟨nu0,_,_,_,rfl,g1,e1',?_,?_,λx hx=>?_⟩
   .rw [qA,QB]; lia
   .rw [qA,QB]; lia
   .obtain ⟨k,hk,rfl⟩:=List.mem_map.mp hx
    have:=List.mem_range.mp hk;lia
 rintro U H2 ⟨nu,xs,x5,x6,rfl,g2,e2,xl1,xl2,xb⟩;refine ⟨_,rfl,nu,xs,xs,rfl,zK.of e2,λ_ h=>h,by lia,λna ns hna up mem=>?_⟩;have g3:=zE.new hna (.lst (ns.map V.int));have e3:zH H2 na (.lst (ns.map V.int)) na=some (.lst (ns.map V.int)):=zC;have naH:H na=none:=zR g2 hna;have G3:=g2.trans g3;generalize zH H2 na (.lst (ns.map V.int))=H3 at g3 e3 G3 ⊢;have ns25:∀x∈ns,0<=x:=λx hx=>xb x ((mem x).mp hx);have nl2:ns.length<=6:=qQ (yE (up.imp λh=>xB h) λx hx=>(mem x).mp hx) xl2;have nl1:1<=ns.length:=by
  cases xs with
  | nil=>exact v6 xl1 (by decide)
  | cons x r=>exact xA ((mem x).mpr qE)
 have nml:(ns.map V.int).length=ns.length:=qA _;intro sd hsd;have g4:=zE.new hsd (.dK []);have e4:zH H3 sd (.dK []) sd=some (.dK []):=zC;have e34:=g4 _ _ e3;have sdH:H sd=none:=zR G3 hsd;have G4:=G3.trans g4;have ns_:na≠sd:=zF e3 hsd;generalize zH H3 sd (.dK [])=H4 at g4 e4 e34 G4 ⊢;refine ⟨_,rfl,cell,40,rfl,by decide,by decide,λr H5 g5 r0=>⟨_,_,rfl,rfl,(by show (0:Int)<9; decide),_,rfl,rfl, .inr ⟨_,rfl,_,_,rfl,rfl, .inl ⟨by decide,by decide⟩,_,_,rfl,rfl,?_⟩⟩⟩;obtain ⟨ZV,ec⟩:∃ZV:Int,ZV=r % 9+2*(if decide (V.int (cell / 6 % 4)=V.int 0)=true then 1 else 0:Int):=⟨_,rfl⟩;have cb:0<=ZV/\ZV<=10:=by rw [ec]; split <;> lia
 refine ⟨_,rfl,by rw [<-ec]; lia,by rw [<-ec]; lia,?_⟩;rw [<-ec];have pickN:∀{r:Int} {H':Hp},0<=r->H' na=some (.lst (ns.map V.int))->∃x:Int,YH (ns.map V.int) (r % ((ns.map V.int).length:Nat))=some (.int x)/\x∈ns:=λ{r H'} h0 _=>by
  rw [nml];exact Jo ns (XO _ (by lia)) (Xn _ (by lia))
 refine yv (lo:=0) (n:=ZV.toNat) (λi U H'=>∃(x6 x8 x9:Option V),U=[some (.int cell),some (.int 6),some (.int (1+cell % 6)),some (.int (cell / 6 % 4)),some (.ref na),x5,x6,some (.ref sd),x8,x9]/\Ex (·=sd) H4 H'/\jA H' sd i)
  ⟨_,_,_,rfl,Ex.same g5,⟨[],[],g5 _ _ e4,rfl,qr,nofun,qG _⟩⟩ ?_ ?_
 .rintro i U H6 hi ⟨y6,y8,y9,rfl,E6,so6⟩
  have hi':i<10:=by lia
  have eN6:=E6 _ _ ns_ e34;refine ⟨_,rfl,_,rfl,_,rfl,_,_,rfl,rfl,cell,_,rfl,by lia,by lia,λra H7 g7 a0=>?_⟩;have eN7:=g7 _ _ eN6;obtain ⟨va,hva,mva⟩:=pickN (r:=ra) a0 eN7;refine ⟨_,rfl,na,_,rfl, .inl (zK.of eN7),_,_,rfl,rfl,by rw [nml]; lia,na,_,_,_,rfl,rfl,zK.of eN7,hva,?_⟩;refine ⟨_,rfl,_,rfl,_,rfl,_,_,rfl,rfl,cell,_,rfl,by lia,by lia,λrb H8 g8 b0=>?_⟩;have eN8:=g8 _ _ eN7;obtain ⟨vb,hvb,mvb⟩:=pickN (r:=rb) b0 eN8;refine ⟨_,rfl,na,_,rfl, .inl (zK.of eN8),_,_,rfl,rfl,by rw [nml]; lia,na,_,_,_,rfl,rfl,zK.of eN8,hvb,?_⟩;have E8:=E6.trans (Ex.same (S:=(·=sd)) (g7.trans g8));have so8:jA H8 sd i:=(so6.stay (λh=>g7 _ _ h)).stay (λh=>g8 _ _ h);obtain ⟨pB,ks,k1',_⟩:=id so8;refine ⟨_,rfl,sd,pB,rfl,k1',_,_,rfl,rfl,_,rfl,zr (λc=>?_) (λc=>?_)⟩
  .refine ⟨_,rfl,_,rfl,_,rfl,_,_,rfl,rfl,_,rfl,_,rfl,_,_,rfl,rfl,cell,_,rfl,by lia,by lia,λrc H9 g9 d0=>?_⟩
   have so9:jA H9 sd i:=so8.stay (λh=>g9 _ _ h);refine ⟨_,_,rfl,rfl,(by show (0:Int)<6; decide),rfl, .inr ⟨_,rfl,_,_,rfl,rfl,?_⟩⟩;have ba:=ns25 va mva;have bb:=ns25 vb mvb;obtain ⟨pC,h1,h2,h3⟩:=so9.put (x:=(va+vb+(if decide (V.int (rc % 6)=V.int 0)=true then 1 else 0:Int))) (by split <;> lia);exact ⟨sd,_,rfl,jp.k (k:=Sum.inl (va+vb+(if decide (V.int (rc % 6)=V.int 0)=true then 1 else 0:Int))) h1 (by rw [Ql]; lia),_,_,_,rfl,(E8.trans (Ex.same g9)).trans (Ex.put _ rfl),h3⟩
  .exact ⟨_,_,_,rfl,E8,so8.more⟩
 .rintro U H6 ⟨y6,y8,y9,rfl,E6,so6⟩
  have eN6:=E6 _ _ ns_ e34;obtain ⟨pB,ks,k1',k2',k3',k4',k5'⟩:=so6;refine ⟨_,rfl,_,rfl,sd,pB,ks,rfl,k1',k2',by lia,λb ss hb ps ssl=>⟨yU,λt ht=>?_⟩⟩;have g7:=zE.new hb (.lst (ss.map V.int));have g8:=zE.new ht (.tup [.ref na, .ref b]);have G6:zE H H6:=λc o hc=>E6 _ _ (zF hc sdH) (G4 _ _ hc);have GG:=G6.trans (g7.trans g8);exact q t na b ns ss _ GG ⟨zC,g8 _ _ (g7 _ _ eN6),g8 _ _ zC,⟨⟨up,ns25⟩,⟨zAY ssl (ps.nodup_iff.mpr k3'),λx hx=>k4' x ((ps.mem_iff).mp hx)⟩,nl1,qQ nl2 (by decide),by rw [ps.length_eq]; lia⟩⟩ nl2
abbrev zIW:Stmt:=top 55
abbrev zNb:Stmt:=top 56
abbrev zMQ:Stmt:=top 57
abbrev sWi:Stmt:=top 58
abbrev sWo:Stmt:=top 59
abbrev zLJ:Stmt:=ZL (top 60) 0
abbrev zMb:Stmt:=ZL (top 60) 1
abbrev zLn:Stmt:=ZL (top 60) 2
abbrev zMH:Stmt:=ZL (top 60) 3
abbrev zLA:Stmt:=ZL (top 60) 4
abbrev zMP:Stmt:=ZL (top 60) 5
abbrev zNO:Stmt:=ZL (top 60) 6
abbrev zNZ:Stmt:=ZL (top 60) 7
abbrev zLp:Stmt:=ZL (top 60) 8
def Zj (x:Int):List Int->List Int
 | []=>[x]
 | y::r=>if x<y then x::y::r else y::Zj x r
def je (x:Int) (l:List Int):List Int:=l.filter λy=>decide (y≠x)
theorem js (x z:Int):∀l:List Int,z∈Zj x l↔z=x\/z∈l
 | []=>by simp [Zj]
 | y::r=>by
  unfold Zj;split
  .simp
  .rw [Q2,js x z r,Q2]
   constructor
   .rintro (h | h | h)
    .exact .inr (.inl h)
    .exact .inl h
    .exact .inr (.inr h)
   .rintro (h | h | h)
    .exact .inr (.inl h)
    .exact .inl h
    .exact .inr (.inr h)
theorem zAv (x:Int):∀l:List Int,(Zj x l).length=l.length+1
 | []=>rfl
 | y::r=>by
  unfold Zj;split
  .rfl
  .rw [qT,zAv x r,qT]
theorem zAF {x:Int}:∀{l:List Int},l.Pairwise (·<·)->x∉l->(Zj x l).Pairwise (·<·)
 | [],_,_=>QP _ _
 | y::r,h,n=>by
  obtain ⟨h1,h2⟩:=List.pairwise_cons.mp h;unfold Zj;split
  .rename_i c
   refine List.pairwise_cons.mpr ⟨λz hz=>?_,h⟩;rcases List.mem_cons.mp hz with e | e
   .rw [e]; exact c
   .exact Int.lt_trans c (h1 z e)
  .rename_i c
   refine List.pairwise_cons.mpr ⟨λz hz=>?_,zAF h2 λq=>n (qF _ q)⟩;rcases (js x z r).mp hz with e | e
   .have:x≠y:=λq=>n (by rw [q]; exact qE)
    lia
   .exact h1 z e
theorem zAe:∀{l m:List Int},l.Pairwise (·<·)->m.Pairwise (·<·)->(∀z,z∈l↔z∈m)->l=m
 | [],[],_,_,_=>rfl
 | [],y::r,_,_,h=>v6 ((h y).mpr qE) Q1
 | x::l,[],_,_,h=>v6 ((h x).mp qE) Q1
 | x::l,y::m,h1,h2,h=>by
  obtain ⟨a1,a2⟩:=List.pairwise_cons.mp h1;obtain ⟨b1,b2⟩:=List.pairwise_cons.mp h2;have e:x=y:=by
   rcases List.mem_cons.mp ((h x).mp qE) with e | e
   .exact e
   .rcases List.mem_cons.mp ((h y).mpr qE) with e2 | e2
    .exact e2.symm
    .have:=b1 x e; have:=a1 y e2; lia
  subst e;congr 1;refine zAe a2 b2 λz=>⟨λhz=>?_,λhz=>?_⟩
  .rcases List.mem_cons.mp ((h z).mp (qF _ hz)) with e | e
   .have:=a1 z hz; lia
   .exact e
  .rcases List.mem_cons.mp ((h z).mpr (qF _ hz)) with e | e
   .have:=b1 z hz; lia
   .exact e
theorem zDY {l m:List Int} (p:m.Perm (l++[x])) (s:m.Pairwise (·<=·)) (h:l.Pairwise (·<·)) (n:x∉l):m=Zj x l:=by
 have nd:m.Nodup:=by
  refine p.nodup_iff.mpr (List.nodup_append.mpr ⟨h.imp λq=>xB q,QP _ _,λa ha b hb=>?_⟩);rw [List.mem_singleton.mp hb];exact λq=>n (by rw [<-q]; exact ha)
 refine zAe (zAY s nd) (zAF h n) λz=>?_;rw [p.mem_iff,vx,xc,js];exact Or.comm
theorem zKU (p:zf ns ss) (n:x∉ns) (x0:0<=x) (l:ns.length<10):zf (Zj x ns) ss:=
 ⟨⟨zAF p.n.up n,λz hz=>by rcases (js x z ns).mp hz with e | e; (rw [e]; exact x0); exact p.n.bd z e⟩,p.s,by rw [zAv]; lia,by rw [zAv]; lia,p.s2⟩
theorem zHT (p:zf ns ss) (n:x∉ss) (x0:0<=x) (l:ss.length<10):zf ns (Zj x ss):=
 ⟨p.n,⟨zAF p.s.up n,λz hz=>by rcases (js x z ss).mp hz with e | e; (rw [e]; exact x0); exact p.s.bd z e⟩,p.n1,p.n2,by rw [zAv]; lia⟩
theorem zEQ {x:Int}:∀{l:List Int},l.Nodup->x∈l->(je x l).length+1=l.length
 | [],_,h=>v6 h Q1
 | y::r,nd,h=>by
  obtain ⟨n1,n2⟩:=List.nodup_cons.mp nd;unfold je;by_cases e:y=x
  .rw [qh,qP (by simp [e]),qT]
   congr 1;have k:r.filter (λy=>decide (y≠x))=r:=List.filter_eq_self.mpr λz hz=>qK λ(q:z=x)=>n1 (by rw [e,<-q]; exact hz);rw [k]
  .rw [qh,qO (by simp [e]),qT,qT]
   congr 1;rcases List.mem_cons.mp h with q | q
   .exact v6 q.symm e
   .exact zEQ n2 q
theorem zQQ (p:zf ns ss) (n:x∈ns) (l:ns.length≠1):zf (je x ns) ss:=by
 have e:=zEQ (p.n.up.imp λq=>xB q) n;have:=p.n1; have:=p.n2;exact ⟨⟨p.n.up.filter _,λz hz=>p.n.bd z (List.mem_filter.mp hz).1⟩,p.s,by lia,by lia,p.s2⟩
theorem zOr (p:zf ns ss) (n:x∈ss):zf ns (je x ss):=by
 have e:=zEQ (p.s.up.imp λq=>xB q) n;have:=p.s2;exact ⟨p.n,⟨p.s.up.filter _,λz hz=>p.s.bd z (List.mem_filter.mp hz).1⟩,p.n1,p.n2,by lia⟩
structure KpT (K:W.Frag) (C:Addr):Prop where
 cl:Cls K C
 nN:ZM K C "numbers"
 nS:ZM K C "sums"
structure Kp (H:Hp) (C k dx a b:Addr) (ns ss:List Int):Prop where
 k:H k=some (.ins C dx [("numbers", .ref a),("sums", .ref b)])
 a:H a=some (.lst (ns.map V.int))
 b:H b=some (.lst (ss.map V.int))
 ok:zf ns ss
theorem Kp.same {k:Addr} (h:Kp H C k dx a b ns ss) (g:zE H H'):Kp H' C k dx a b ns ss:=⟨g _ _ h.k,g _ _ h.a,g _ _ h.b,h.ok⟩
inductive zIh (vs:List V) (H:Hp) (Q:VK) (E:XK):Prop
 | mk (a:Addr) (ns:List Int) (x:Int):vs=[.ref a, .int x]->H a=some (.lst (ns.map V.int))->ns.length<=20->ns.Pairwise (·<·)->x∉ns->(∀(l:Addr) (H':Hp),zE H H'->H l=none->H' l=some (.lst ((Zj x ns).map V.int))->Q (.ref l) H')->zIh vs H Q E
inductive zII (vs:List V) (H:Hp) (Q:VK) (E:XK):Prop
 | mk (a:Addr) (ns:List Int) (x:Int):vs=[.ref a, .int x]->H a=some (.lst (ns.map V.int))->ns.length<=20->(∀(l:Addr) (H':Hp),zE H H'->H l=none->H' l=some (.lst ((je x ns).map V.int))->Q (.ref l) H')->zII vs H Q E
inductive zIN (C:Addr) (vs:List V) (H:Hp) (Q:VK) (E:XK):Prop
 | mk (k dx t a b:Addr) (ns ss:List Int):vs=[.ref k, .ref t]->H k=some (.ins C dx [])->zi H t a b ns ss->(∀(a' b':Addr) (H':Hp),Ex (·=k) H H'->Kp H' C k dx a' b' ns ss->H a'=none->H b'=none->Q .non H')->zIN C vs H Q E
inductive zDh (C:Addr) (vs:List V) (H:Hp) (Q:VK) (E:XK):Prop
 | mk (k dx a b:Addr) (ns ss:List Int):vs=[.ref k]->Kp H C k dx a b ns ss->(∀(t a' b':Addr) (H':Hp),zE H H'->H t=none->H a'=none->H b'=none->a'≠b'->zi H' t a' b' ns ss->Q (.ref t) H')->zDh C vs H Q E
inductive zFL (C:Addr) (vs:List V) (H:Hp) (Q:VK) (E:XK):Prop
 | mk (k dx a b:Addr) (ns ss:List Int):vs=[.ref k]->Kp H C k dx a b ns ss->(∀H',zE H H'->Q (.int (ZF ns ss false:Nat)) H')->zFL C vs H Q E
inductive zFK (C:Addr) (vs:List V) (H:Hp) (Q:VK) (E:XK):Prop
 | mk (k dx a b:Addr) (ns ss:List Int):vs=[.ref k]->Kp H C k dx a b ns ss->(yG ns ss false=false->∀H',zE H H'->Q .non H')->((yG ns ss false=true->∀(l:Addr) (H':Hp),zE H H'->H l=none->H' l=some (.lst ((zAA ns ss false).map V.int))->Q (.ref l) H'))->zFK C vs H Q E
inductive zCM (C:Addr) (vs:List V) (H:Hp) (Q:VK) (E:XK):Prop
 | mk (k dx a b a' b':Addr) (ns ss ns' ss':List Int):vs=[.ref k, .ref a', .ref b']->Kp H C k dx a b ns ss->H a'=some (.lst (ns'.map V.int))->H b'=some (.lst (ss'.map V.int))->zf ns' ss'->(∀(t:Addr) (H':Hp),Ex (·=k) H H'->H t=none->H' t=some (.tup [.int (ZF ns ss false:Nat), .int (ZF ns' ss' false:Nat)])->Kp H' C k dx a' b' ns' ss'->Q (.ref t) H')->zCM C vs H Q E
inductive zCH (vs:List V) (H:Hp) (Q:VK) (E:XK):Prop
 | mk (a:Addr) (ns:List Int):vs=[.ref a]->H a=some (.lst (ns.map V.int))->ns.length<10->Q .non H->zCH vs H Q E
inductive j9 (f:List Int->Int->Bool) (vs:List V) (H:Hp) (Q:VK) (E:XK):Prop
 | mk (a:Addr) (ns:List Int) (x:Int):vs=[.ref a, .int x]->H a=some (.lst (ns.map V.int))->Q (.bl (f ns x)) H->j9 f vs H Q E
def zGB (ns:List Int) (x:Int):Bool:=ns.contains x
def zAo (ns:List Int) (x:Int):Bool:=decide (0<=x)&& !ns.contains x
inductive Yy (C:Addr) (pre:List Int->List Int->Int->Prop) (aft:List Int->List Int->Int->List Int×List Int) (vs:List V) (H:Hp) (Q:VK) (E:XK):Prop
 | mk (k dx a b:Addr) (ns ss:List Int) (x:Int):vs=[.ref k, .int x]->Kp H C k dx a b ns ss->pre ns ss x->(∀(t a' b':Addr) (H':Hp),Ex (·=k) H H'->H t=none->H' t=some (.tup [.int (ZF ns ss false:Nat), .int (ZF (aft ns ss x).1 (aft ns ss x).2 false:Nat)])->Kp H' C k dx a' b' (aft ns ss x).1 (aft ns ss x).2->Q (.ref t) H')->Yy C pre aft vs H Q E
def zNw (ns _ss:List Int) (x:Int):Prop:=ns.length<10/\0<=x/\x∉ns
def zNu (ns _ss:List Int) (x:Int):Prop:=x∈ns/\ns.length≠1
def zNk (_ns ss:List Int) (x:Int):Prop:=ss.length<10/\0<=x/\x∉ss
def zOD (_ns ss:List Int) (x:Int):Prop:=x∈ss
def zJM:List Int->List Int->Int->List Int×List Int:=λns ss x=>(Zj x ns,ss)
def zJP:List Int->List Int->Int->List Int×List Int:=λns ss x=>(je x ns,ss)
def zOB:List Int->List Int->Int->List Int×List Int:=λns ss x=>(ns,Zj x ss)
def zIw:List Int->List Int->Int->List Int×List Int:=λns ss x=>(ns,je x ss)
theorem zHd (h:0<=x) (n:x∉ns):zAo ns x=true:=by
 unfold zAo;rw [qK h,QJ,Xz];cases e:ns.contains x with
 | true=>exact v6 (List.contains_iff_mem.mp e) n
 | false=>rfl
theorem zQO:FS 1 ["numbers"] zIW:=zm
theorem zOP (F:Fu K "check_room" zIW f fd) (B:Bt3 mg) (m10:mg "MOST"=some (.int 10 t10)):FnOk P w K mg base zU 1 f fd ["numbers"] zCH:=by
 refine F.ok zQO ?_ ?_
 .rintro _ _ _ _ ⟨a,ns,rfl,_⟩
  rfl
 rintro _ A _ s H _ Q E hr ⟨a,ns,rfl,ha,hl,q⟩;refine ⟨_,(zG (zd (zT zCP (zP zQ rfl B.len qU (zA (pv 0) zB)) (jR (v:= .int 10) rfl m10 ⟨_,rfl⟩) (zV _)) (zG yS) zW)),?_⟩;refine ⟨_,rfl,a,_,rfl, .inl (zK.of ha),_,_,rfl,rfl,_,rfl,zr (λc=>?_) (λc=>q)⟩;have c':=qZ c;rw [qA] at c';lia
theorem zRC:FS 2 ["numbers","thing"] zNb:=zm
theorem zQz (F:Fu K "stands_in" zNb f fd) (GW:Gd P w K mg base 1 g1 pH ["thing"] Yw "is_whole"):FnOk P w K mg base zU 2 f fd ["numbers","thing"] (j9 zGB):=by
 refine F.ok zRC ?_ ?_
 .rintro _ _ _ _ ⟨a,ns,x,rfl,_⟩
  rfl
 rintro _ A _ s H _ Q E hr ⟨a,ns,x,rfl,ha,q⟩;refine ⟨_,(zG (zM (YL (zL GW hr (zA (pv 1) zB)) (yf (ZT (Y3 K) (pv 1) (pv 0) rfl))))),?_⟩;exact ⟨_,rfl,x,rfl,_,rfl,Yu ⟨_,rfl,_,rfl,a,x,ns,rfl,rfl,zK.of ha,q⟩⟩
theorem zRR:FS 2 ["numbers","thing"] zMQ:=zm
theorem zPe (F:Fu K "is_new" zMQ f fd) (GW:Gd P w K mg base 1 g1 pH ["thing"] Yw "is_whole"):FnOk P w K mg base zU 2 f fd ["numbers","thing"] (j9 zAo):=by
 refine F.ok zRR ?_ ?_
 .rintro _ _ _ _ ⟨a,ns,x,rfl,_⟩
  rfl
 rintro _ A _ s H _ Q E hr ⟨a,ns,x,rfl,ha,q⟩;refine ⟨_,(zG (zM (YL (zL GW hr (zA (pv 1) zB)) (YL (ZT zCP (pv 1) zJ (zV _)) (yf (ZT (yK K) (pv 1) (pv 0) rfl)))))),?_⟩;refine ⟨_,rfl,x,rfl,_,rfl,Yu ⟨_,rfl,_,_,rfl,rfl,_,rfl,zr (λc=>?_) (λc=>?_)⟩⟩
 .have e:zAo ns x= !ns.contains x:=by unfold zAo; rw [show decide (0<=x)=true from c,QJ]
  rw [e] at q;exact ⟨_,rfl,_,rfl,a,x,ns,rfl,rfl,zK.of ha,q⟩
 .have c3:decide (0<=x)=false:=by cases h:decide (0<=x) with | true=>exact v6 h c | false=>rfl
  have e:zAo ns x=false:=by unfold zAo; rw [c3,xG]
  rw [e] at q;exact q
section
variable {XT:Addr}
theorem zTD:FS 2 ["numbers","number"] sWi:=zm
theorem zRn (F:Fu K "with_one" sWi f fd) (B:Bt3 mg):FnOk P w K mg base zU 1 f fd ["numbers","number"] zIh:=by
 refine F.ok zTD ?_ ?_
 .rintro _ _ _ _ ⟨a,ns,x,rfl,_⟩
  rfl
 rintro _ A _ s H _ Q E hr ⟨a,ns,x,rfl,ha,hl,up,nx,q⟩;refine ⟨_,(zG (zM (zP Ye rfl B.sorted xx (zA (zS Yt (pv 0) (zv (zA (pv 1) zB))) zB)))),?_⟩;have hml:(ns.map V.int).length=ns.length:=qA _;refine ⟨_,rfl,_,rfl,(by show 1<=sizeLine; decide),?_⟩;intro l1 hl1;have g1:zE H (zH H l1 (.lst [.int x])):=zE.new hl1 _;refine ⟨a,l1,_,_,rfl,rfl,g1 _ _ ha,zC,by rw [hml]; show ns.length+1<=sizeLine; exact small (by lia),λl2 pK=>?_⟩;have g2:=g1.trans (zE.new pK (.lst (ns.map V.int++[.int x])));have e2:ns.map V.int++[.int x]=(ns++[x]).map V.int:=by rw [qN]; rfl
 refine ⟨l2,ns++[x],rfl,zK.of (by rw [zC,e2]),by rw [qJ,xH]; lia,λl ns' hl3 p st=>?_⟩;rw [zDY p st up nx];exact q l _ (g2.trans (zE.new hl3 _)) (zR g2 hl3) zC
theorem zNM:FS 2 ["numbers","number"] sWo:=zm
theorem zRk (F:Fu K "without_one" sWo f fd):FnOk P w K mg base zU 1 f fd ["numbers","number"] zII:=by
 refine F.ok zNM ?_ ?_
 .rintro _ _ _ _ ⟨a,ns,x,rfl,_⟩
  rfl
 rintro _ A _ s H _ Q E hr ⟨a,ns,x,rfl,ha,hl,q⟩;refine ⟨_,(zG (zM (ZR ["other"] rfl (bk zNM) (zj (pv 0)) (λpA C fp s3 H3=>⟨(yI zNM),(Zg (zT Yl (pv 0) (pv 2) (zV _))),(pv 0)⟩)))),?_⟩;have hml:(ns.map V.int).length=ns.length:=qA _;refine ⟨_,rfl,a,rfl,⟨_,zK.of ha⟩,λD hD=>?_⟩;refine yt (U:=[some (.ref a),some (.int x)]) (xs:=ns.map V.int) (λi=>decide (ns.getD i 0≠x)) (λi=> .int (ns.getD i 0)) (zK.of ha) hD (by lia) (λi H' hi g P hP=>?_) (λi H' hi _ g P hP=>?_) λH2 g2 e2=>?_
 .rw [yJ _ (by rw [hml] at hi; exact hi)]
  have e:(!decide (V.int (ns.getD i 0)=V.int x))=decide (ns.getD i 0≠x):=by simp
  refine ⟨_,rfl,_,rfl,rfl,_,rfl,?_⟩;rw [e];exact hP _ zE.rfl'
 .rw [yJ _ (by rw [hml] at hi; exact hi)]
  exact ⟨_,rfl,hP _ zE.rfl'⟩
 .refine q D H2 g2 hD ?_
  rw [e2,hml];unfold je;rw [<-Z5 (λv=>decide (v≠x)) 0 ns,qo];rfl
theorem zRF:FS 2 ["self","plan"] zLJ:=zm
theorem zOl (F:Zv K "__init__" "Keeper.__init__" zLJ f fd) (B:Bt3 mg) (T:KpT K C) (GC:Gd P w K mg base 4 g1 pH ["plan"] yw "check_plan"):FnOk P w K mg base zU 5 f fd ["self","plan"] (zIN C):=by
 refine F.ok zRF ?_ ?_
 .rintro _ _ _ _ ⟨k,dx,t,a,b,ns,ss,rfl,_⟩
  rfl
 rintro _ A _ s H _ Q E hr ⟨k,dx,t,a,b,ns,ss,rfl,hk,pl,q⟩;refine ⟨_,(zD (zo (zL GC hr (zA (pv 1) zB))) (zD (Ya (pv 0) (ZE ZP rfl B.list qq (zA (zz zh (pv 1) zJ) zB)) rfl) (zG (Ya (pv 0) (ZE ZP rfl B.list qq (zA (zz zh (pv 1) zJ) zB)) rfl)))),?_⟩;have tk:t≠k:=zw pl.t hk (by intro z; cases z);have ak:a≠k:=zw pl.a hk (by intro z; cases z);have bk:b≠k:=zw pl.b hk (by intro z; cases z);refine ⟨_,rfl,t,a,b,ns,ss,rfl,pl,?_⟩;refine ⟨_,rfl,t,_,0,_,rfl,rfl,ZD.of pl.t,rfl,a,_,rfl, .inl (zK.of pl.a),λl1 hl1=>?_⟩;have kl1:k≠l1:=zF hk hl1;have g1:zE H (zH H l1 (.lst (ns.map V.int))):=zE.new hl1 _;refine ⟨_,rfl,k,C,dx,_,rfl,g1 _ _ hk,T.cl,T.nN,(by show 0<1000; decide),?_⟩;have st:∀{c:Addr} {o:HO},c≠k->H c=some o->∀{o1},(zH (zH H l1 (.lst (ns.map V.int))) k o1) c=some o:=λ{c o} hc h {o1}=>by rw [zI hc]; exact g1 _ _ h
 refine ⟨_,rfl,t,_,1,_,rfl,rfl,ZD.of (st tk pl.t),rfl,b,_,rfl, .inl (zK.of (st bk pl.b)),λl2 pK=>?_⟩;have kl2:l2≠k:=λz=>by rw [z,zC] at pK; cases pK
 have l12:l2≠l1:=λz=>by rw [z,zI (Ne.symm kl1),zC] at pK; cases pK
 have hl2':H l2=none:=by rwa [zI kl2,zI l12] at pK
 refine ⟨_,rfl,k,C,dx,_,rfl,by rw [zI (Ne.symm kl2)]; exact zC,T.cl,T.nS,(by show 1<1000; decide),?_⟩;refine q l1 l2 _ (λc o hc h=>?_) ⟨?_,?_,?_,pl.ok⟩ hl1 hl2'
 .rw [zI hc,zI (zF h hl2'),zI hc]
  exact g1 _ _ h
 .rw [zC]
  rfl
 .rw [zI (Ne.symm kl1),zI (Ne.symm l12),zI (Ne.symm kl1),zC]
 .rw [zI kl2,zC]
theorem zRs:FS 1 ["self"] zMb:=zm
theorem zQo (F:Zv K "plan" "Keeper.plan" zMb f fd) (B:Bt3 mg) (T:KpT K C):FnOk P w K mg base zU 1 f fd ["self"] (zDh C):=by
 refine F.ok zRs ?_ ?_
 .rintro _ _ _ _ ⟨k,dx,a,b,ns,ss,rfl,_⟩
  rfl
 rintro _ A _ s H _ Q E hr ⟨k,dx,a,b,ns,ss,rfl,kp,q⟩;refine ⟨_,(zG (zM (ya (zA (ZE ZP rfl B.list qq (zA (zk (pv 0) rfl) zB)) (zA (ZE ZP rfl B.list qq (zA (zk (pv 0) rfl) zB)) zB))))),?_⟩;refine ⟨_,rfl,k,C,dx,_,_,rfl,kp.k,T.cl,T.nN,rfl,a,_,rfl, .inl (zK.of kp.a),λl1 hl1=>?_⟩;have g1:=zE.new hl1 (.lst (ns.map V.int));have k1:=kp.same g1;refine ⟨_,rfl,k,C,dx,_,_,rfl,k1.k,T.cl,T.nS,rfl,b,_,rfl, .inl (zK.of k1.b),λl2 pK=>?_⟩;have g2:=zE.new pK (.lst (ss.map V.int));refine ⟨yU,λt ht=>?_⟩;have g3:=zE.new ht (.tup [.ref l1, .ref l2]);have n2:H l2=none:=zR g1 pK;have n3:H t=none:=zR (g1.trans g2) ht;refine q t l1 l2 _ (g1.trans (g2.trans g3)) n3 hl1 n2 (λz=>by rw [<-z,zC] at pK; cases pK) ⟨zC,g3 _ _ (g2 _ _ zC),g3 _ _ zC,kp.ok⟩
theorem zSI:FS 1 ["self"] zLn:=zm
theorem zPl (F:Zv K "count" "Keeper.count" zLn f fd) (T:KpT K C) (mP:ZC K C "plan" g2) (GP:FnOk P w K mg base zU 24 g2 pI ["self"] (zDh C)) (bP:zX K pI ["self"] [])
  (GR:Gd P w K mg base 24 g1 pH ["plan"] (Jb λns ss=>ZF ns ss false) "count_rows"):FnOk P w K mg base zU 25 f fd ["self"] (zFL C):=by
 refine F.ok zSI ?_ ?_
 .rintro _ _ _ _ ⟨k,dx,a,b,ns,ss,rfl,_⟩
  rfl
 rintro _ A _ s H _ Q E hr ⟨k,dx,a,b,ns,ss,rfl,kp,q⟩;refine ⟨_,(zG (zM (zL GR hr (zA (Zs (pv 0) T.cl mP GP hr bP .nil ze) zB)))),?_⟩;exact ⟨_,rfl,k,dx,_,rfl,kp.k,rfl,k,dx,a,b,ns,ss,rfl,kp,λt a' b' H1 g1 _ _ _ _ pl=>⟨t,a',b',ns,ss,rfl,pl,λH2 g2=>q _ (g1.trans g2)⟩⟩
theorem zRg:FS 1 ["self"] zMH:=zm
theorem zQm (F:Zv K "first" "Keeper.first" zMH f fd) (T:KpT K C) (mP:ZC K C "plan" g2) (GP:FnOk P w K mg base zU 24 g2 pI ["self"] (zDh C)) (bP:zX K pI ["self"] [])
  (GR:Gd P w K mg base 24 g1 pH ["plan"] (Jw false) "first_row"):FnOk P w K mg base zU 25 f fd ["self"] (zFK C):=by
 refine F.ok zRg ?_ ?_
 .rintro _ _ _ _ ⟨k,dx,a,b,ns,ss,rfl,_⟩
  rfl
 rintro _ A _ s H _ Q E hr ⟨k,dx,a,b,ns,ss,rfl,kp,qn,qs⟩;refine ⟨_,(zG (zM (zL GR hr (zA (Zs (pv 0) T.cl mP GP hr bP .nil ze) zB)))),?_⟩;exact ⟨_,rfl,k,dx,_,rfl,kp.k,rfl,k,dx,a,b,ns,ss,rfl,kp,λt a' b' H1 g1 _ _ _ _ pl=>⟨t,a',b',ns,ss,rfl,pl,λhw H2 g2=>qn hw _ (g1.trans g2),λhw l H2 g2 hl el=>qs hw l _ (g1.trans g2) (zR g1 hl) el⟩⟩
theorem zNm:FS 3 ["self","numbers","sums","before"] zLA:=zm
theorem zPS (F:Zv K "change_to" "Keeper.change_to" zLA f fd) (T:KpT K C) (mT:ZC K C "count" g2) (GT:FnOk P w K mg base zU 25 g2 pI ["self"] (zFL C)) (bT:zX K pI ["self"] []):FnOk P w K mg base zU 26 f fd ["self","numbers","sums"] (zCM C):=by
 refine F.ok zNm ?_ ?_
 .rintro _ _ _ _ ⟨k,dx,a,b,a',b',ns,ss,ns',ss',rfl,_⟩
  rfl
 rintro _ A _ s H _ Q E hr ⟨k,dx,a,b,a',b',ns,ss,ns',ss',rfl,kp,ha',hb',ok',q⟩;refine ⟨_,(zD (zt 3 zNm.nd (Zs (pv 0) T.cl mT GT hr bT .nil ze)) (zD (Ya (pv 0) (pv 1) rfl) (zD (Ya (pv 0) (pv 2) rfl) (zG (zM (ya (zA (pv 3) (zA (Zs (pv 0) T.cl mT GT hr bT .nil ze) zB)))))))),?_⟩;refine ⟨_,rfl,k,dx,_,rfl,kp.k,rfl,k,dx,a,b,ns,ss,rfl,kp,λH1 g1=>?_⟩;have ak:a'≠k:=zw ha' kp.k (by intro z; cases z);have bk:b'≠k:=zw hb' kp.k (by intro z; cases z);refine ⟨_,rfl,_,rfl,k,C,dx,_,rfl,g1 _ _ kp.k,T.cl,T.nN,(by show 2<1000; decide),?_⟩;refine ⟨_,rfl,_,rfl,k,C,dx,_,rfl,zC,T.cl,T.nS,(by show 2<1000; decide),?_⟩;have kp2:Kp (zH (zH H1 k (.ins C dx [("numbers", .ref a'),("sums", .ref b)])) k (.ins C dx [("numbers", .ref a'),("sums", .ref b')])) C k dx a' b' ns' ss':=⟨zC,by rw [zI ak,zI ak]; exact g1 _ _ ha',by rw [zI bk,zI bk]; exact g1 _ _ hb',ok'⟩;refine ⟨_,rfl,_,rfl,k,dx,_,rfl,kp2.k,rfl,k,dx,a',b',ns',ss',rfl,kp2,λH2 g2=>?_⟩;refine ⟨yU,λt ht=>?_⟩;have g3:=zE.new ht (.tup [.int (ZF ns ss false:Nat), .int (ZF ns' ss' false:Nat)]);have ex:Ex (·=k) H H2:=λc o hc h=>g2 _ _ (by rw [zI hc,zI hc]; exact g1 _ _ h);refine q t _ (ex.trans (Ex.same g3)) ?_ zC ((kp2.same g2).same g3);cases e:H t with
 | none=>rfl
 | some o=>
  by_cases z:t=k
  .rw [z,g2 _ _ kp2.k] at ht; cases ht
  .rw [ex _ _ z e] at ht; cases ht
end
theorem zRp:FS 2 ["self","number"] zMP:=zm
theorem zQK (F:Zv K "come" "Keeper.come" zMP f fd) (T:KpT K C)
  (GR:Gd P w K mg base 26 g1 pH ["numbers"] zCH "check_room")
  (GI:Gd P w K mg base 26 g2 pI ["numbers","thing"] (j9 zAo) "is_new")
  (GW:Gd P w K mg base 26 g3 pJ ["numbers","number"] zIh "with_one")
  (mC:ZC K C "change_to" g4) (GC:FnOk P w K mg base zU 26 g4 gd4 ["self","numbers","sums"] (zCM C)) (bC:zX K gd4 ["self","numbers","sums"] []):FnOk P w K mg base zU 27 f fd ["self","number"] (Yy C zNw zJM):=by
 refine F.ok zRp ?_ ?_
 .rintro _ _ _ _ ⟨k,dx,a,b,ns,ss,x,rfl,_⟩
  rfl
 rintro _ A _ s H _ Q E hr ⟨k,dx,a,b,ns,ss,x,rfl,kp,⟨r1,x0,nx⟩,q⟩;refine ⟨_,(zD (zo (zL GR hr (zA (zk (pv 0) rfl) zB))) (zD (zd (Zi (ZN (zL GI hr (zA (zk (pv 0) rfl) (zA (pv 1) zB))))) (zG yS) zW) (zG (zM (zy (pv 0) T.cl mC GC hr bC .nil ze (zA (zL GW hr (zA (zk (pv 0) rfl) (zA (pv 1) zB))) (zA (zk (pv 0) rfl) zB))))))),?_⟩;refine ⟨_,rfl,k,C,dx,_,_,rfl,kp.k,T.cl,T.nN,rfl,a,ns,rfl,kp.a,r1,?_⟩;refine ⟨_,rfl,k,C,dx,_,_,rfl,kp.k,T.cl,T.nN,rfl,_,rfl,a,ns,x,rfl,kp.a,_,rfl,?_⟩;rw [zHd x0 nx];refine ZG ⟨_,rfl,k,dx,_,rfl,kp.k,rfl,_,rfl,k,C,dx,_,_,rfl,kp.k,T.cl,T.nN,rfl,_,rfl,a,ns,x,rfl,kp.a,by have:=kp.ok.n2; lia,kp.ok.n.up,nx,λl H1 g1 hl el=>?_⟩;have k1:=kp.same g1;refine ⟨_,rfl,k,C,dx,_,_,rfl,k1.k,T.cl,T.nS,rfl,k,dx,a,b,l,b,ns,ss,_,ss,rfl,k1,el,k1.b,(zKU kp.ok nx x0 r1),λt H2 ex ht et k2=>?_⟩;exact q t l b H2 ((Ex.same g1).trans ex) (zR g1 ht) et k2
theorem zSD:FS 2 ["self","number"] zNO:=zm
theorem zQA (F:Zv K "go" "Keeper.go" zNO f fd) (B:Bt3 mg) (T:KpT K C)
  (GI:Gd P w K mg base 26 g2 pI ["numbers","thing"] (j9 zGB) "stands_in")
  (GW:Gd P w K mg base 26 g3 pJ ["numbers","number"] zII "without_one")
  (mC:ZC K C "change_to" g4) (GC:FnOk P w K mg base zU 26 g4 gd4 ["self","numbers","sums"] (zCM C)) (bC:zX K gd4 ["self","numbers","sums"] []):FnOk P w K mg base zU 27 f fd ["self","number"] (Yy C zNu zJP):=by
 refine F.ok zSD ?_ ?_
 .rintro _ _ _ _ ⟨k,dx,a,b,ns,ss,x,rfl,_⟩
  rfl
 rintro _ A _ s H _ Q E hr ⟨k,dx,a,b,ns,ss,x,rfl,kp,⟨nx,l1⟩,q⟩;refine ⟨_,(zD (zd (PW.pt (yi (Zi (ZN (zL GI hr (zA (zk (pv 0) rfl) (zA (pv 1) zB))))) (yA (zT YQ (zP zQ rfl B.len qU (zA (zk (pv 0) rfl) zB)) zJ (zV _))))) (zG yS) zW) (zG (zM (zy (pv 0) T.cl mC GC hr bC .nil ze (zA (zL GW hr (zA (zk (pv 0) rfl) (zA (pv 1) zB))) (zA (zk (pv 0) rfl) zB)))))),?_⟩;refine ⟨_,rfl,k,C,dx,_,_,rfl,kp.k,T.cl,T.nN,rfl,_,rfl,a,ns,x,rfl,kp.a,_,rfl,?_⟩;have hn:zGB ns x=true:=List.contains_iff_mem.mpr nx;have hml:(ns.map V.int).length=ns.length:=qA _;rw [hn];refine ZG ⟨_,rfl,k,C,dx,_,_,rfl,kp.k,T.cl,T.nN,rfl,a,_,rfl, .inl (zK.of kp.a),rfl,_,rfl,zr (λc=>?_) (λc=>?_)⟩
 .have c':((((ns.map V.int).length:Nat):Int))=1:=V.int.inj (qZ c)
  rw [hml] at c';lia
 refine ⟨_,rfl,k,dx,_,rfl,kp.k,rfl,_,rfl,k,C,dx,_,_,rfl,kp.k,T.cl,T.nN,rfl,_,rfl,a,ns,x,rfl,kp.a,by have:=kp.ok.n2; lia,λl H1 g1 hl el=>?_⟩;have k1:=kp.same g1;refine ⟨_,rfl,k,C,dx,_,_,rfl,k1.k,T.cl,T.nS,rfl,k,dx,a,b,l,b,ns,ss,_,ss,rfl,k1,el,k1.b,(zQQ kp.ok nx l1),λt H2 ex ht et k2=>?_⟩;exact q t l b H2 ((Ex.same g1).trans ex) (zR g1 ht) et k2
theorem zSP:FS 2 ["self","number"] zNZ:=zm
theorem zPH (F:Zv K "sum_comes" "Keeper.sum_comes" zNZ f fd) (T:KpT K C)
  (GR:Gd P w K mg base 26 g1 pH ["numbers"] zCH "check_room")
  (GI:Gd P w K mg base 26 g2 pI ["numbers","thing"] (j9 zAo) "is_new")
  (GW:Gd P w K mg base 26 g3 pJ ["numbers","number"] zIh "with_one")
  (mC:ZC K C "change_to" g4) (GC:FnOk P w K mg base zU 26 g4 gd4 ["self","numbers","sums"] (zCM C)) (bC:zX K gd4 ["self","numbers","sums"] []):FnOk P w K mg base zU 27 f fd ["self","number"] (Yy C zNk zOB):=by
 refine F.ok zSP ?_ ?_
 .rintro _ _ _ _ ⟨k,dx,a,b,ns,ss,x,rfl,_⟩
  rfl
 rintro _ A _ s H _ Q E hr ⟨k,dx,a,b,ns,ss,x,rfl,kp,⟨r1,x0,nx⟩,q⟩;refine ⟨_,(zD (zo (zL GR hr (zA (zk (pv 0) rfl) zB))) (zD (zd (Zi (ZN (zL GI hr (zA (zk (pv 0) rfl) (zA (pv 1) zB))))) (zG yS) zW) (zG (zM (zy (pv 0) T.cl mC GC hr bC .nil ze (zA (zk (pv 0) rfl) (zA (zL GW hr (zA (zk (pv 0) rfl) (zA (pv 1) zB))) zB))))))),?_⟩;refine ⟨_,rfl,k,C,dx,_,_,rfl,kp.k,T.cl,T.nS,rfl,b,ss,rfl,kp.b,r1,?_⟩;refine ⟨_,rfl,k,C,dx,_,_,rfl,kp.k,T.cl,T.nS,rfl,_,rfl,b,ss,x,rfl,kp.b,_,rfl,?_⟩;rw [zHd x0 nx];refine ZG ⟨_,rfl,k,dx,_,rfl,kp.k,rfl,_,rfl,k,C,dx,_,_,rfl,kp.k,T.cl,T.nN,rfl,_,rfl,k,C,dx,_,_,rfl,kp.k,T.cl,T.nS,rfl,_,rfl,b,ss,x,rfl,kp.b,by lia,kp.ok.s.up,nx,λl H1 g1 hl el=>?_⟩;have k1:=kp.same g1;refine ⟨k,dx,a,b,a,l,ns,ss,ns,_,rfl,k1,k1.a,el,(zHT kp.ok nx x0 r1),λt H2 ex ht et k2=>?_⟩;exact q t a l H2 ((Ex.same g1).trans ex) (zR g1 ht) et k2
theorem zRZ:FS 2 ["self","number"] zLp:=zm
theorem zQx (F:Zv K "sum_goes" "Keeper.sum_goes" zLp f fd) (T:KpT K C)
  (GI:Gd P w K mg base 26 g2 pI ["numbers","thing"] (j9 zGB) "stands_in")
  (GW:Gd P w K mg base 26 g3 pJ ["numbers","number"] zII "without_one")
  (mC:ZC K C "change_to" g4) (GC:FnOk P w K mg base zU 26 g4 gd4 ["self","numbers","sums"] (zCM C)) (bC:zX K gd4 ["self","numbers","sums"] []):FnOk P w K mg base zU 27 f fd ["self","number"] (Yy C zOD zIw):=by
 refine F.ok zRZ ?_ ?_
 .rintro _ _ _ _ ⟨k,dx,a,b,ns,ss,x,rfl,_⟩
  rfl
 rintro _ A _ s H _ Q E hr ⟨k,dx,a,b,ns,ss,x,rfl,kp,nx,q⟩;refine ⟨_,(zD (zd (Zi (ZN (zL GI hr (zA (zk (pv 0) rfl) (zA (pv 1) zB))))) (zG yS) zW) (zG (zM (zy (pv 0) T.cl mC GC hr bC .nil ze (zA (zk (pv 0) rfl) (zA (zL GW hr (zA (zk (pv 0) rfl) (zA (pv 1) zB))) zB)))))),?_⟩;refine ⟨_,rfl,k,C,dx,_,_,rfl,kp.k,T.cl,T.nS,rfl,_,rfl,b,ss,x,rfl,kp.b,_,rfl,?_⟩;have hn:zGB ss x=true:=List.contains_iff_mem.mpr nx;rw [hn];refine ZG ⟨_,rfl,k,dx,_,rfl,kp.k,rfl,_,rfl,k,C,dx,_,_,rfl,kp.k,T.cl,T.nN,rfl,_,rfl,k,C,dx,_,_,rfl,kp.k,T.cl,T.nS,rfl,_,rfl,b,ss,x,rfl,kp.b,by have:=kp.ok.s2; lia,λl H1 g1 hl el=>?_⟩;have k1:=kp.same g1;refine ⟨k,dx,a,b,a,l,ns,ss,ns,_,rfl,k1,k1.a,el,(zOr kp.ok nx),λt H2 ex ht et k2=>?_⟩;exact q t a l H2 ((Ex.same g1).trans ex) (zR g1 ht) et k2
def Y2 (n:Nat) (o:List Nat):List (List Nat):=((List.range n).filter λj=> !o.contains j).map λj=>o++[j]
def YU (n:Nat):Nat->List (List Nat)
 | 0=>[[]]
 | k+1=>(YU n k).flatMap (Y2 n)
def J6 (ns o:List Int):List (List Int):=(ns.filter λx=> !o.contains x).map λx=>o++[x]
def Zr (ns:List Int):Nat->List (List Int)
 | 0=>[[]]
 | k+1=>(Zr ns k).flatMap (J6 ns)
structure YE (n k:Nat) (o:List Nat):Prop where
 len:o.length=k
 nd:o.Nodup
 lt:∀j∈o,j<n
theorem yO {n:Nat}:∀{k:Nat} {o:List Nat},o∈YU n k->YE n k o
 | 0,o,h=>by
  have:o=[]:=by simpa [YU] using h
  subst this;exact ⟨rfl,qr,nofun⟩
 | k+1,o,h=>by
  obtain ⟨p,hp,ho⟩:=List.mem_flatMap.mp h;have ih:=yO hp;obtain ⟨j,hj,rfl⟩:=List.mem_map.mp ho;have hj':=List.mem_filter.mp hj;have hn:j∉p:=λz=>by
   have:=List.contains_iff_mem.mpr z;rw [this] at hj';exact v6 hj'.2 (by decide)
  refine ⟨by rw [qJ,ih.len]; rfl,List.nodup_append.mpr ⟨ih.nd,List.nodup_cons.mpr ⟨nofun,qr⟩,λa ha b hb e=>?_⟩,λx hx=>?_⟩
  .rw [List.mem_singleton.mp hb] at e
   exact hn (e▸ha)
  .rcases List.mem_append.mp hx with z | z
   .exact ih.lt x z
   .rw [List.mem_singleton.mp z]; exact List.mem_range.mp hj'.1
theorem zAg {n:Nat}:∀(k:Nat) (o:List Nat),YE n k o->o∈YU n k
 | 0,o,h=>by
  have:o=[]:=Qy h.len;rw [this];exact List.mem_singleton.mpr rfl
 | k+1,o,h=>by
  have hne:o≠[]:=λz=>by have:=h.len; rw [z] at this; cases this
  have e:=(QL hne).symm;generalize o.dropLast=p at e;generalize o.getLast hne=j at e;subst e;have nd:=List.nodup_append.mp h.nd;have hp:YE n k p:=⟨by have:=h.len; rw [qJ] at this; simpa using this,nd.1,λx hx=>h.lt x (qX _ hx)⟩;refine List.mem_flatMap.mpr ⟨p,zAg k p hp,List.mem_map.mpr ⟨j,List.mem_filter.mpr ⟨List.mem_range.mpr (h.lt j (qS _ qE)),?_⟩,rfl⟩⟩;cases hc:p.contains j with
  | false=>rfl
  | true=>exact v6 rfl (nd.2.2 j (List.contains_iff_mem.mp hc) j qE)
theorem zLM:∀m<1024,∀k<10,m.testBit k=true->∀j<10,(m - 2^k).testBit j=(decide (j≠k)&&m.testBit j):=by decide +kernel
def YB (n:Nat) (o:List Nat):Nat:=o.foldl (λm k=>m - 2^k) (2^n - 1)
theorem zAs (n:Nat) (o:List Nat) (k:Nat):YB n (o++[k])=YB n o - 2^k:=by
 unfold YB;rw [List.foldl_append];rfl
theorem JB (hn:n<=10) (o:List Nat):YB n o<1024:=by
 have key:∀(o:List Nat) (m:Nat),m<1024->o.foldl (λm k=>m - 2^k) m<1024:=by
  intro o
  induction o with
  | nil=>exact λm h=>h
  | cons a r ih=>exact λm h=>ih _ (Qq (vn _ _) h)
 refine key o _ ?_;have:=Y5 n (by lia);have:=QO n;lia
theorem zAx (hn:n<=10):∀{k:Nat} {o:List Nat},YE n k o->ZV (YB n o)+k=n/\∀j<n,(YB n o).testBit j= !o.contains j:=by
 intro k
 induction k with
 | zero=>
  intro o h;have:o=[]:=Qy h.len;subst this;exact ⟨zKz n (by lia),λj hj=>yM hj⟩
 | succ k ih=>
  intro o h;have hne:o≠[]:=λz=>by have:=h.len; rw [z] at this; cases this
  have e:=(QL hne).symm;generalize o.dropLast=p at e;generalize o.getLast hne=j at e;subst e;have nd:=List.nodup_append.mp h.nd;have hp:YE n k p:=⟨by have:=h.len; rw [qJ] at this; simpa using this,nd.1,λx hx=>h.lt x (qX _ hx)⟩;have hj:j<n:=h.lt j (qS _ qE);have hjp:p.contains j=false:=by
   cases hc:p.contains j with
   | false=>rfl
   | true=>exact v6 rfl (nd.2.2 j (List.contains_iff_mem.mp hc) j qE)
  obtain ⟨i1,i2⟩:=ih hp;have hb:(YB n p).testBit j=true:=by rw [i2 j hj,hjp]; rfl
  rw [zAs];have d:=ZQ _ (JB hn p) j (by lia) hb;refine ⟨by lia,λi hi=>?_⟩;rw [zLM _ (JB hn p) j (by lia) hb i (by lia),i2 i hi];rw [qu];simp only [QV,X0,Xz,List.contains_eq_mem,decide_eq_false_iff_not,vx,xc,not_or];exact ⟨λh=>⟨h.2,h.1⟩,λh=>⟨h.2,h.1⟩⟩
def yH (e:Nat) (o:List Nat):Nat:=o.getLast?.getD e
theorem zDg (e:Nat) (o:List Nat) (k:Nat):yH e (o++[k])=k:=by
 unfold yH;rw [xv];rfl
theorem zAi {k:Nat} (h:YE n k o):yH n o<=n:=by
 unfold yH;cases e:o.getLast? with
 | none=>exact qG _
 | some x=>exact qf (h.lt x (vV e))
theorem zBl {α β:Type} {p:β->Bool} {q:α->Bool} {f:α->List β}:∀{l:List α},(∀a∈l,q a=((f a).find? p).isSome)->(l.flatMap f).find? p=(l.find? q).bind λa=>(f a).find? p
 | [],_=>rfl
 | a::r,h=>by
  have ih:=zBl (p:=p) (q:=q) (f:=f) (l:=r) λb hb=>h b (qF _ hb);rw [QH,Q6,ih,QD];have ha:=h a qE;cases hf:(f a).find? p with
  | none=>
   rw [hf] at ha;rw [show q a=false from ha];rfl
  | some b=>
   rw [hf] at ha;rw [show q a=true from ha];show some b=(f a).find? p;exact hf.symm
section
variable (near:Nat->List Nat) (ends:Nat->Bool)
def YW (e:Nat):List Nat->Bool
 | []=>true
 | k::r=>(near e).contains k&&YW k r
variable {near ends}
theorem zEn:∀{e:Nat} {o:List Nat} {k:Nat},YW near e (o++[k])=(YW near e o&&(near (yH e o)).contains k)
 | e,[],k=>by
  show ((near e).contains k&&true)=(true&&(near e).contains k);rw [xn,QJ]
 | e,a::r,k=>by
  have ih:=zEn (e:=a) (o:=r) (k:=k);show ((near e).contains a&&YW near a (r++[k]))=(((near e).contains a&&YW near a r)&&(near (yH e (a::r))).contains k);have el:yH e (a::r)=yH a r:=by
   unfold yH;rw [XQ];rfl
  rw [ih,el,vZ]
def Yn (near:Nat->List Nat) (ends:Nat->Bool) (n:Nat) (o:List Nat):Bool:=YW near n o&&yj near ends (YB n o) (yH n o)
theorem jh {p:Nat->Bool}:∀{l:List Nat} {q:Nat->Bool},(l.filter q).find? p=l.find? λx=>q x&&p x
 | [],_=>rfl
 | a::r,q=>by
  have ih:=jh (p:=p) (l:=r) (q:=q);rw [qh,QD];cases hq:q a with
  | true=>
   rw [qO rfl,QD,ih];rfl
  | false=>
   rw [qP qR,ih];rfl
theorem yX {α:Type} {p q:α->Bool}:∀{l:List α},(∀a∈l,p a=q a)->l.find? p=l.find? q
 | [],_=>rfl
 | a::r,h=>by
  rw [QD,QD,h a qE,yX λb hb=>h b (qF _ hb)]
theorem zHo:∀{n:Nat} {l:List Nat},l.Pairwise (·<·)->(∀k∈l,k<n)->l=(List.range n).filter λk=>l.contains k:=by
 intro n l hp hl;have h1:((List.range n).filter λk=>l.contains k).Pairwise (·<·):=vS _ QY;have key:∀{a b:List Nat},a.Pairwise (·<·)->b.Pairwise (·<·)->(∀x,x∈a↔x∈b)->a=b:=by
  intro a
  induction a with
  | nil=>
   intro b _ _ h;cases b with
   | nil=>rfl
   | cons y r=>exact v6 ((h y).mpr qE) nofun
  | cons x r ih=>
   intro b ha hb h;cases b with
   | nil=>exact v6 ((h x).mp qE) nofun
   | cons y q=>
    have ha':=List.pairwise_cons.mp ha;have hb':=List.pairwise_cons.mp hb;have e:x=y:=by
     have m1:=(h x).mp qE;have m2:=(h y).mpr qE;rcases List.mem_cons.mp m1 with z | z
     .exact z
     .rcases List.mem_cons.mp m2 with z' | z'
      .exact z'.symm
      .have:=ha'.1 y z'
       have:=hb'.1 x z;lia
    subst e;rw [ih ha'.2 hb'.2 λz=>?_];constructor
    .intro hz
     rcases List.mem_cons.mp ((h z).mp (qF _ hz)) with e | e
     .have:=ha'.1 z hz; lia
     .exact e
    .intro hz
     rcases List.mem_cons.mp ((h z).mpr (qF _ hz)) with e | e
     .have:=hb'.1 z hz; lia
     .exact e
 refine key hp h1 λx=>?_;rw [QZ,xz];exact ⟨λh=>⟨hl x h,List.contains_iff_mem.mpr h⟩,λh=>List.contains_iff_mem.mp h.2⟩
theorem zCp {k:Nat} (N:zu near n) (h:YE n k o):(Y2 n o).find? (Yn near ends n)=if YW near n o=true then (fst near ends (YB n o) (yH n o)).map (λj=>o++[j]) else none:=by
 unfold Y2;rw [v5,jh];have e:∀j∈List.range n,((!o.contains j)&&(Yn near ends n ∘ λj=>o++[j]) j)=(YW near n o&&((near (yH n o)).contains j&&((YB n o).testBit j&&yj near ends (YB n o - 2^j) j))):=λj hj=>by
  rw [(zAx N.n10 h).2 j (List.mem_range.mp hj)];show ((!o.contains j)&&(YW near n (o++[j])&&yj near ends (YB n (o++[j])) (yH n (o++[j]))))=_;rw [zEn,zAs,zDg];cases (o.contains j) <;> cases YW near n o <;> simp
 rw [yX e];by_cases hg:YW near n o=true
 .rw [qO hg]
  congr 1;unfold fst;have hr:=zHo (N.up _ (zAi h)) (N.lt _ (zAi h))
  conv=>rhs; rw [hr,jh]
  refine yX λj _=>?_;rw [hg,QJ]
 .rw [qP hg]
  have:((List.range n).find? λj=>(YW near n o&&((near (yH n o)).contains j&&((YB n o).testBit j&&yj near ends (YB n o - 2^j) j))))=none:=by
   refine List.find?_eq_none.mpr λj _=>?_;rw [Bool.eq_false_iff.mpr hg,xG];exact qR
  rw [this];rfl
theorem zGC {k:Nat} (N:zu near n) (h:YE n k o) (hk:k<n):Yn near ends n o=((Y2 n o).find? (Yn near ends n)).isSome:=by
 rw [zCp N h];have c:=(zAx N.n10 h).1;have h0:YB n o≠0:=λz=>by
  rw [z] at c;have:ZV 0=0:=by decide
  lia
 unfold Yn;rw [zCO N (JB N.n10 o) h0 (zAi h)];by_cases hg:YW near n o=true
 .rw [qO hg,hg,QJ,Xx]
 .rw [qP hg,Bool.eq_false_iff.mpr hg]
  rfl
theorem zFc {n:Nat} (N:zu near n) (hc:yj near ends (2^n - 1) n=true):∀k,k<=n->∃pre,(YU n k).find? (Yn near ends n)=some pre/\jx near ends (2^n - 1) n=pre++jx near ends (YB n pre) (yH n pre)
 | 0,_=>by
  refine ⟨[],?_,rfl⟩;have e:Yn near ends n []=true:=by show (true&&yj near ends (2^n - 1) n)=true; rw [hc]; rfl
  show [[]].find? (Yn near ends n)=some [];rw [QD,e]
 | k+1,hk=>by
  obtain ⟨pre,h1,h2⟩:=zFc N hc k (by lia);have hm:=Qv h1;have ho:=yO hm;have hok:Yn near ends n pre=true:=vR h1;have he:=zGC (ends:=ends) N ho (by lia);have hf:(YU n (k+1)).find? (Yn near ends n)=(Y2 n pre).find? (Yn near ends n):=by
   show ((YU n k).flatMap (Y2 n)).find? _=_;rw [zBl (q:=Yn near ends n) (λa ha=>zGC N (yO ha) (by lia)),h1];rfl
  have hg:YW near n pre=true:=by
   unfold Yn at hok;exact (Bool.and_eq_true_iff.mp hok).1
  rw [hok,zCp N ho,qO hg,Xx] at he;obtain ⟨j,hj⟩:=Option.isSome_iff_exists.mp he.symm;refine ⟨pre++[j],by rw [hf,zCp N ho,qO hg,hj]; rfl,?_⟩;rw [zAs,zDg,h2,zEg N (JB N.n10 _) (zAi ho) hj,xS];rfl
theorem zFX (N:zu near n):(YU n n).find? (Yn near ends n)=if yj near ends (2^n - 1) n=true then some (jx near ends (2^n - 1) n) else none:=by
 by_cases hc:yj near ends (2^n - 1) n=true
 .rw [qO hc]
  obtain ⟨pre,h1,h2⟩:=zFc N hc n (qG _);have ho:=yO (Qv h1);have c:=(zAx N.n10 ho).1;have z:=yC _ (JB N.n10 pre) (by lia);rw [h1,h2,z,zEw,qv]
 .rw [qP hc]
  have key:∀k≤n,(YU n k).find? (Yn near ends n)=none:=by
   intro k
   induction k with
   | zero=>
    intro _;have e:Yn near ends n []=false:=by show (true&&yj near ends (2^n - 1) n)=false; rw [Bool.eq_false_iff.mpr hc]; rfl
    show [[]].find? (Yn near ends n)=none;rw [QD,e];rfl
   | succ k ih=>
    intro hk;show ((YU n k).flatMap (Y2 n)).find? _=_;rw [zBl (q:=Yn near ends n) (λa ha=>zGC N (yO ha) (by lia)),ih (by lia)];rfl
  exact key n (qG _)
theorem zEm (hn:n<=10) (h:YE n n o):Yn near ends n o=(YW near n o&&ends (yH n o)):=by
 have c:=(zAx hn h).1;have z:=yC _ (JB hn o) (by lia);unfold Yn;rw [z,zFl]
end
def yB (ss:List Int):List Int->Bool
 | []=>true
 | [_]=>true
 | x::y::r=>zY ss x y&&yB ss (y::r)
theorem yp (ss:List Int):∀zs:List Int,nbB ss zs=yB ss zs
 | []=>rfl
 | [_]=>rfl
 | x::y::r=>by
  have ih:=yp ss (y::r);unfold nbB at ih ⊢;show (List.range (r.length+1)).all (λi=>zY ss ((x::y::r).getD i 0) ((x::y::r).getD (i+1) 0))=(zY ss x y&&yB ss (y::r));rw [XR,X2,vq,<-ih];rfl
def Z0 (x:Int) (r:List Int):Int:=r.getLast?.getD x
theorem JY (ss:List Int) (y:Int) (q:List Int):∀(x:Int) (r:List Int),yB ss (x::r++y::q)=(yB ss (x::r)&&zY ss (Z0 x r) y&&yB ss (y::q))
 | x,[]=>by
  show (zY ss x y&&yB ss (y::q))=(true&&zY ss x y&&yB ss (y::q));rw [QJ]
 | x,z::r=>by
  have ih:=JY ss y q z r;show (zY ss x z&&yB ss (z::r++y::q))=(zY ss x z&&yB ss (z::r)&&zY ss (Z0 x (z::r)) y&&yB ss (y::q));have e:Z0 x (z::r)=Z0 z r:=by
   unfold Z0;rw [XQ];rfl
  rw [ih,e,vZ,vZ,vZ]
theorem zBP (x y:Int) (r q:List Int):Z0 x (r++y::q)=Z0 y q:=by
 unfold Z0;rw [xv,XQ];rfl
def clL (ss:List Int):List Int->Bool
 | []=>false
 | x::r=>yB ss (x::r)&&zY ss (Z0 x r) x
theorem zFa (ss:List Int) (x y:Int) (r q:List Int):clL ss (x::r++y::q)=clL ss (y::q++x::r):=by
 show (yB ss (x::r++y::q)&&zY ss (Z0 x (r++y::q)) x)=(yB ss (y::q++x::r)&&zY ss (Z0 y (q++x::r)) y);rw [JY,JY,zBP,zBP];cases yB ss (x::r) <;> cases yB ss (y::q) <;> cases zY ss (Z0 x r) y <;> cases zY ss (Z0 y q) x <;> rfl
theorem zJx (x:Int) (r:List Int):(x::r).getD ((x::r).length - 1) 0=Z0 x r:=by
 unfold Z0;rw [qC,show (x::r).length - 1=r.length by rw [qT]; lia];cases r with
 | nil=>rfl
 | cons y q=>
  rw [List.getLast?_eq_getElem?];show ((x::y::q)[(y::q).length]?).getD 0=_;rw [qT,List.getElem?_cons_succ,Xi,qB (by rw [qT]; lia)];rfl
theorem zBu (h:zs≠[]):ZK ns ss zs=(zs.isPerm ns&& !decide (zs.length<3)&&clL ss zs):=by
 cases zs with
 | nil=>exact v6 rfl h
 | cons x r=>
  unfold ZK Zh;rw [yp,zJx];show (((x::r).isPerm ns&&yB ss (x::r))&& !decide ((x::r).length<3)&&zY ss (Z0 x r) x)=((x::r).isPerm ns&& !decide ((x::r).length<3)&&(yB ss (x::r)&&zY ss (Z0 x r) x));cases (x::r).isPerm ns <;> cases yB ss (x::r) <;> cases decide ((x::r).length<3) <;> simp
theorem zDj {α β:Type} {f g:α->List β}:∀{l:List α},(∀a∈l,f a=g a)->l.flatMap f=l.flatMap g
 | [],_=>rfl
 | a::r,h=>by rw [QH,QH,h a qE,zDj λb hb=>h b (qF _ hb)]
def ZO (ns:List Int) (k:Nat):Int:=ns.getD k 0
theorem zOJ (up:ns.Pairwise (·<·)) (hi:i<ns.length) (hj:j<ns.length) (h:ZO ns i=ZO ns j):i=j:=by
 unfold ZO at h;rw [qC,qC,qB hi,qB hj] at h;have h':ns[i]=ns[j]:=h;have nd:ns.Nodup:=up.imp λh=>xB h;exact (vo nd).mp h'
theorem zBs:(List.range ns.length).map (ZO ns)=ns:=by
 refine XW (by rw [qA,QB]) λi h1 h2=>?_;rw [XC,xa];unfold ZO;rw [qC,qB h2];rfl
theorem zFn (up:ns.Pairwise (·<·)) (ho:∀j∈o,j<ns.length) (hj:j<ns.length):(o.map (ZO ns)).contains (ZO ns j)=o.contains j:=by
 rw [qu,qw,qw,XE];constructor
 .rintro ⟨i,hi,e⟩
  exact zOJ up (ho i hi) hj e▸hi
 .exact λh=>⟨j,h,rfl⟩
theorem zNJ (up:ns.Pairwise (·<·)) (ho:∀j∈o,j<ns.length):J6 ns (o.map (ZO ns))=(Y2 ns.length o).map λp=>p.map (ZO ns):=by
 unfold J6 Y2;have e:(ns.filter λx=> !(o.map (ZO ns)).contains x)=((List.range ns.length).filter λj=> !o.contains j).map (ZO ns):=by
  conv=>lhs; rw [<-zBs (ns:=ns),Q7]
  congr 1;refine xT λj hj=>?_;show (!(((o.map (ZO ((List.range ns.length).map (ZO ns))))).contains (ZO ns j)))=_;rw [zBs,zFn up ho (List.mem_range.mp hj)]
 rw [e,qo,qo];refine QK λj _=>?_;show o.map (ZO ns)++[ZO ns j]=(o++[j]).map (ZO ns);rw [qN];rfl
theorem jI (up:ns.Pairwise (·<·)):∀k,Zr ns k=(YU ns.length k).map λo=>o.map (ZO ns)
 | 0=>rfl
 | k+1=>by
  show (Zr ns k).flatMap (J6 ns)=((YU ns.length k).flatMap (Y2 ns.length)).map _;rw [jI up k,List.map_flatMap,List.flatMap_map];refine zDj λo ho=>?_;exact zNJ up (yO ho).lt
theorem Js (h:YE ns.length ns.length o):(o.map (ZO ns)).Perm ns:=by
 have hp:o.Perm (List.range ns.length):=by
  refine (List.perm_ext_iff_of_nodup h.nd List.nodup_range).mpr λj=>?_;rw [xz];refine ⟨h.lt j,λhj=>?_⟩;refine Decidable.byContradiction λhn=>?_;have:=zAa ns.length (j::o) (List.nodup_cons.mpr ⟨hn,h.nd⟩) λx hx=>by
   rcases List.mem_cons.mp hx with z | z
   .rw [z]; exact hj
   .exact h.lt x z
  rw [qT,h.len] at this;lia
 have:=hp.map (ZO ns);rw [zBs] at this;exact this
theorem zBL {fs:List Nat} (he:e<ns.length) (hj:j<ns.length):(zO ns ss fs e).contains j=zY ss (ZO ns e) (ZO ns j):=by
 unfold zO yu;rw [qO he,qu,qw,QZ,xz];exact ⟨λh=>h.2,λh=>⟨hj,h⟩⟩
theorem zGj {fs:List Nat}:∀{e:Nat} {o:List Nat},e<ns.length->(∀j∈o,j<ns.length)->YW (zO ns ss fs) e o=yB ss (ZO ns e::o.map (ZO ns))
 | e,[],_,_=>rfl
 | e,j::r,he,ho=>by
  have hj:=ho j qE;show ((zO ns ss fs e).contains j&&YW (zO ns ss fs) j r)=(zY ss (ZO ns e) (ZO ns j)&&yB ss (ZO ns j::r.map (ZO ns)));rw [zBL he hj,zGj hj λx hx=>ho x (qF _ hx)]
theorem zGr {fs:List Nat} {r:List Nat} (ho:∀x∈j::r,x<ns.length):YW (zO ns ss fs) ns.length (j::r)=(fs.contains j&&yB ss ((j::r).map (ZO ns))):=by
 show ((zO ns ss fs ns.length).contains j&&YW (zO ns ss fs) j r)=_;rw [zGj (ho j qE) λx hx=>ho x (qF _ hx)];unfold zO;rw [qP (QQ _)];rfl
theorem zKX:∀(j:Nat) (r:List Nat) (n:Nat),ZO ns (yH n (j::r))=Z0 (ZO ns j) (r.map (ZO ns)):=by
 intro j r n;unfold yH Z0;rw [XQ,List.getLast?_map];cases r.getLast? <;> rfl
theorem zFv (h:YE n n o) (hn:1<=n):∃j r,o=j::r:=by
 cases o with
 | nil=>have:=h.len; simp at this; lia
 | cons j r=>exact ⟨j,r,rfl⟩
theorem zPo (ok:zf ns ss) (h:YE ns.length ns.length o):Yn (zO ns ss (List.range ns.length)) (Zo ns ss false) ns.length o=Zh ns ss (o.map (ZO ns)):=by
 rw [zEm ok.n2 h];obtain ⟨j,r,rfl⟩:=zFv h ok.n1;rw [zGr h.lt];unfold Zh;rw [List.isPerm_iff.mpr (Js h),yp,List.contains_iff_mem.mpr (List.mem_range.mpr (h.lt j qE))];show (true&&yB ss _&&true)=(true&&yB ss _);rw [xn]
theorem zOW (ok:zf ns ss) (h3:¬ns.length<3) (h:YE ns.length ns.length o):Yn (zO ns ss [0]) (Zo ns ss true) ns.length o=(ZK ns ss (o.map (ZO ns))&&(o.head?==some 0)):=by
 rw [zEm ok.n2 h];obtain ⟨j,r,rfl⟩:=zFv h ok.n1;have hl:yH ns.length (j::r)<ns.length:=by
  unfold yH;rw [XQ];show r.getLast?.getD j<_;cases e:r.getLast? with
  | none=>exact h.lt j qE
  | some x=>exact h.lt x (qF _ (vV e))
 rw [zGr h.lt,zBu (by rw [qe]; exact vA _ _),List.isPerm_iff.mpr (Js h)];have pF:((j::r).map (ZO ns)).length=ns.length:=by rw [qA,h.len]
 rw [pF,qa h3];have he:Zo ns ss true (yH ns.length (j::r))=zY ss (Z0 (ZO ns j) (r.map (ZO ns))) (ZO ns 0):=by
  unfold Zo;have:=zBL (ns:=ns) (ss:=ss) (fs:=[]) hl (show 0<ns.length by lia);unfold zO at this;rw [qO hl,zKX] at this;rw [this];rfl
 rw [he];show ([0].contains j&&yB ss (ZO ns j::r.map (ZO ns))&&zY ss (Z0 (ZO ns j) (r.map (ZO ns))) (ZO ns 0))=(true&& !false&&(yB ss (ZO ns j::r.map (ZO ns))&&zY ss (Z0 (ZO ns j) (r.map (ZO ns))) (ZO ns j))&&(some j==some 0));by_cases z:j=0
 .subst z
  simp
 .have e1:[0].contains j=false:=by simp [z]
  have e2:(some j==some 0)=false:=by simp [z]
  rw [e1,e2];simp
theorem zNK (ok:zf ns ss):(Zr ns ns.length).find? (Zh ns ss)=if yG ns ss false=true then some (zAA ns ss false) else none:=by
 have N:=Yz (fs:=List.range ns.length) ok (λk hk=>List.mem_range.mp hk) QY;have e:=zFX (ends:=Zo ns ss false) N;rw [jI ok.n.up,v5];have e2:(YU ns.length ns.length).find? (Zh ns ss ∘ λo=>o.map (ZO ns))=(YU ns.length ns.length).find? (Yn (zO ns ss (List.range ns.length)) (Zo ns ss false) ns.length):=yX λo ho=>(zPo ok (yO ho)).symm;rw [e2,e];have eh:yG ns ss false=yj (zO ns ss (List.range ns.length)) (Zo ns ss false) (2^ns.length - 1) ns.length:=by
  unfold yG zDF J4;simp
 rw [<-eh];by_cases hc:yG ns ss false=true
 .rw [qO hc,qO hc]
  rfl
 .rw [qP hc,qP hc]
  rfl
theorem zDr {n:Nat} (hn:0<n):∀k,∃A B,YU n (k+1)=A++B/\(∀o∈A,o.head?=some 0)/\∀o∈B,o.head?≠some 0
 | 0=>by
  obtain ⟨m,rfl⟩:∃m,n=m+1:=⟨n - 1,by lia⟩;refine ⟨[[0]],((List.range m).map Nat.succ).map λj=>[j],?_,λo ho=>?_,λo ho=>?_⟩
  .show [[]].flatMap (Y2 (m+1))=_
   rw [QH,vw,qv];unfold Y2;have:((List.range (m+1)).filter λj=> !([]:List Nat).contains j)=List.range (m+1):=List.filter_eq_self.mpr λ_ _=>rfl;rw [this,XR,qe];rfl
  .rw [List.mem_singleton.mp ho]; rfl
  .obtain ⟨j,hj,rfl⟩:=List.mem_map.mp ho
   obtain ⟨i,hi,rfl⟩:=List.mem_map.mp hj;intro z;cases z
 | k+1=>by
  obtain ⟨A,B,h1,h2,h3⟩:=zDr hn k;have hne:∀o∈YU n (k+1),o≠[]:=λo ho z=>by have:=(yO ho).len; rw [z] at this; cases this
  have hd:∀(o p:List Nat),o≠[]->p∈Y2 n o->p.head?=o.head?:=λo p ho hp=>by
   obtain ⟨j,_,rfl⟩:=List.mem_map.mp hp;cases o with
   | nil=>exact v6 rfl ho
   | cons a r=>rfl
  refine ⟨A.flatMap (Y2 n),B.flatMap (Y2 n),?_,λo ho=>?_,λo ho=>?_⟩
  .show (YU n (k+1)).flatMap (Y2 n)=_
   rw [h1,XJ]
  .obtain ⟨p,hp,hq⟩:=List.mem_flatMap.mp ho
   rw [hd p o (hne p (by rw [h1]; exact qX _ hp)) hq];exact h2 p hp
  .obtain ⟨p,hp,hq⟩:=List.mem_flatMap.mp ho
   rw [hd p o (hne p (by rw [h1]; exact qS _ hp)) hq];exact h3 p hp
theorem zKR (ok:zf ns ss):(Zr ns ns.length).find? (ZK ns ss)=if yG ns ss true=true then some (zAA ns ss true) else none:=by
 by_cases h3:ns.length<3
 .have eh:yG ns ss true=false:=by
   unfold yG;rw [qK h3];cases zDF ns ss true <;> rfl
  rw [eh,qP qR];refine List.find?_eq_none.mpr λzs hz=>?_;rw [jI ok.n.up] at hz;obtain ⟨o,ho,rfl⟩:=List.mem_map.mp hz;have hl:(o.map (ZO ns)).length=ns.length:=by rw [qA,(yO ho).len]
  unfold ZK;rw [hl,qK h3];simp
 have N:=Yz (ss:=ss) (fs:=[0]) ok (λk hk=>by rw [List.mem_singleton.mp hk]; lia) (QP _ _);have e:=zFX (ends:=Zo ns ss true) N;rw [jI ok.n.up,v5];have e2:(YU ns.length ns.length).find? (ZK ns ss ∘ λo=>o.map (ZO ns))=(YU ns.length ns.length).find? (Yn (zO ns ss [0]) (Zo ns ss true) ns.length):=by
  rw [yX (λo ho=>zOW ok h3 (yO ho))];obtain ⟨m,em⟩:∃m,ns.length=m+1:=⟨ns.length - 1,by lia⟩;obtain ⟨A,B,h1,h2,hB⟩:=zDr (n:=ns.length) (by lia) m;rw [<-em] at h1;have hA:∀o∈A,YE ns.length ns.length o:=λo ho=>yO (by rw [h1]; exact qX _ ho);have hBo:∀o∈B,YE ns.length ns.length o:=λo ho=>yO (by rw [h1]; exact qS _ ho);rw [h1,Q6,Q6];have ea:A.find? (ZK ns ss ∘ λo=>o.map (ZO ns))=A.find? λo=>ZK ns ss (o.map (ZO ns))&&(o.head?==some 0):=yX λo ho=>by
   rw [h2 o ho];show ZK ns ss (o.map (ZO ns))=(ZK ns ss (o.map (ZO ns))&&true);rw [xn]
  have eb:(B.find? λo=>ZK ns ss (o.map (ZO ns))&&(o.head?==some 0))=none:=List.find?_eq_none.mpr λo ho=>by
   have:(o.head?==some 0)=false:=by
    cases hc:o.head?==some 0 with
    | false=>rfl
    | true=>exact v6 (beq_iff_eq.mp hc) (hB o ho)
   rw [this,v3];exact qR
  rw [<-ea,eb];cases hf:A.find? (ZK ns ss ∘ λo=>o.map (ZO ns)) with
  | some o=>rfl
  | none=>
   show B.find? (ZK ns ss ∘ λo=>o.map (ZO ns))=none;refine List.find?_eq_none.mpr λo ho hr=>?_;have hr':ZK ns ss (o.map (ZO ns))=true:=hr;have oo:=hBo o ho;have m0:0∈o:=by
    refine Decidable.byContradiction λhn=>?_;have:=zAa ns.length (0::o) (List.nodup_cons.mpr ⟨hn,oo.nd⟩) λx hx=>by
     rcases List.mem_cons.mp hx with z | z
     .rw [z]; lia
     .exact oo.lt x z
    rw [qT,oo.len] at this;lia
   obtain ⟨a,b,rfl⟩:=XN m0;have hp:(0::b++a).Perm (a++0::b):=vG;have oo':YE ns.length ns.length (0::b++a):=⟨hp.length_eq.trans oo.len,hp.nodup_iff.mpr oo.nd,λj hj=>oo.lt j (hp.mem_iff.mp hj)⟩;have hr2:ZK ns ss ((0::b++a).map (ZO ns))=true:=by
    rw [zBu (by simp)] at hr' ⊢;have hl1:((a++0::b).map (ZO ns)).length=ns.length:=by rw [qA,oo.len]
    have pK:((0::b++a).map (ZO ns)).length=ns.length:=by rw [qA,oo'.len]
    rw [hl1,List.isPerm_iff.mpr (Js oo)] at hr';rw [pK,List.isPerm_iff.mpr (Js oo')];have:clL ss ((0::b++a).map (ZO ns))=clL ss ((a++0::b).map (ZO ns)):=by
     cases a with
     | nil=>rw [qv]; rfl
     | cons x r=>
      rw [qN,qN,qe,qe];exact (zFa ss _ _ _ _).symm
    rw [this];exact hr'
   have mem:(0::b++a)∈A++B:=by rw [<-h1]; exact zAg _ _ oo'
   rcases List.mem_append.mp mem with z | z
   .exact List.find?_eq_none.mp hf _ z hr2
   .exact hB _ z rfl
 rw [e2,e];have eh:yG ns ss true=yj (zO ns ss [0]) (Zo ns ss true) (2^ns.length - 1) ns.length:=by
  unfold yG zDF J4;rw [qa h3];simp
 rw [<-eh];by_cases hc:yG ns ss true=true
 .rw [qO hc,qO hc]
  rfl
 .rw [qP hc,qP hc]
  rfl
theorem zHM:∀{a b:List Int} (r q:List Int),a.length=b.length->HT.Z9 a b=true->HT.Z9 (a++r) (b++q)=true
 | [],[],_,_,_,h=>by cases h
 | [],_::_,_,_,hl,_=>by cases hl
 | _::_,[],_,_,hl,_=>by cases hl
 | x::a,y::b,r,q,hl,h=>by
  have hl':a.length=b.length:=by simpa using hl
  have h':(if x=y then HT.Z9 a b else decide (x<y))=true:=h;show (if x=y then HT.Z9 (a++r) (b++q) else decide (x<y))=true;by_cases e:x=y
  .rw [qO e] at h' ⊢
   exact zHM r q hl' h'
  .rw [qP e] at h' ⊢
   exact h'
theorem zGq:∀(o r q:List Int),HT.Z9 (o++r) (o++q)=HT.Z9 r q
 | [],_,_=>rfl
 | x::o,r,q=>by
  show (if x=x then HT.Z9 (o++r) (o++q) else decide (x<x))=_;rw [qO rfl,zGq o r q]
theorem zGK:∀{a b:List Int},HT.Z9 a b=true->HT.Z9 b a=false
 | [],[],h=>by cases h
 | [],_::_,_=>rfl
 | _::_,[],h=>by cases h
 | x::a,y::b,h=>by
  have h':(if x=y then HT.Z9 a b else decide (x<y))=true:=h;show (if y=x then HT.Z9 b a else decide (y<x))=false;by_cases e:x=y
  .rw [qO e] at h'
   rw [qO e.symm];exact zGK h'
  .rw [qP e] at h'
   rw [qP (Ne.symm e)];have:=qZ h';exact qa (by lia)
theorem zBV {ns:List Int}:∀{k:Nat} {o:List Int},o∈Zr ns k->o.length=k
 | 0,o,h=>by rw [List.mem_singleton.mp h]; rfl
 | k+1,o,h=>by
  obtain ⟨p,hp,ho⟩:=List.mem_flatMap.mp h;obtain ⟨x,_,rfl⟩:=List.mem_map.mp ho;rw [qJ,zBV hp];rfl
theorem zHI {α β:Type} {R:β->β->Prop} {S:α->α->Prop} {f:α->List β}:∀{l:List α},l.Pairwise S->(∀a∈l,(f a).Pairwise R)->(∀a∈l,∀b∈l,S a b->∀x∈f a,∀y∈f b,R x y)->(l.flatMap f).Pairwise R
 | [],_,_,_=> .nil
 | a::r,hs,h1,h2=>by
  have hs':=List.pairwise_cons.mp hs;rw [QH,vQ];refine ⟨h1 a qE,zHI hs'.2 (λb hb=>h1 b (qF _ hb)) (λb hb c hc=>h2 b (qF _ hb) c (qF _ hc)),λx hx y hy=>?_⟩;obtain ⟨b,hb,hy'⟩:=List.mem_flatMap.mp hy;exact h2 a qE b (qF _ hb) (hs'.1 b hb) x hx y hy'
theorem zCI {ns:List Int} (up:ns.Pairwise (·<·)):∀k,(Zr ns k).Pairwise λa b=>HT.Z9 a b=true
 | 0=>QP _ _
 | k+1=>by
  refine zHI (zCI up k) (λo ho=>?_) (λa ha b hb hab x hx y hy=>?_)
  .unfold J6
   rw [List.pairwise_map];refine (vS _ up).imp λ{x y} h=>?_;rw [zGq];show (if x=y then HT.Z9 [] [] else decide (x<y))=true;rw [qP (xB h)];exact qK h
  .obtain ⟨u,_,rfl⟩:=List.mem_map.mp hx
   obtain ⟨v,_,rfl⟩:=List.mem_map.mp hy;exact zHM _ _ ((zBV ha).trans (zBV hb).symm) hab
theorem zDM {α:Type} {R:α->α->Prop} {p:α->Bool}:∀{l:List α} {a b:α},l.Pairwise R->l.find? p=some a->b∈l->p b=true->a=b\/R a b
 | [],_,_,_,h,_,_=>by cases h
 | x::r,a,b,hR,h,hb,hp=>by
  have hR':=List.pairwise_cons.mp hR;rw [QD] at h;cases hx:p x with
  | true=>
   rw [hx] at h;cases h;rcases List.mem_cons.mp hb with z | z
   .exact .inl z.symm
   .exact .inr (hR'.1 b z)
  | false=>
   rw [hx] at h;rcases List.mem_cons.mp hb with z | z
   .rw [z,hx] at hp; cases hp
   .exact zDM hR'.2 h z hp
theorem zLb (up:ns.Pairwise (·<·)) (h:zs.Perm ns):zs∈Zr ns ns.length:=by
 rw [jI up];have nd:ns.Nodup:=up.imp λh=>xB h;have e:(zs.map λx=>ns.idxOf x).map (ZO ns)=zs:=by
  rw [qo]
  conv=>rhs; rw [<-vy zs]
  refine QK λx hx=>?_;have hm:x∈ns:=h.mem_iff.mp hx;have hi:ns.idxOf x<ns.length:=List.idxOf_lt_length_iff.mpr hm;show ZO ns (ns.idxOf x)=x;unfold ZO;rw [qC,qB hi];exact xI hi
 refine List.mem_map.mpr ⟨zs.map λx=>ns.idxOf x,zAg _ _ ⟨?_,?_,λj hj=>?_⟩,e⟩
 .rw [qA,h.length_eq]
 .have hz:zs.Nodup:=h.nodup_iff.mpr nd
  rw [<-e] at hz;exact (List.pairwise_map.mp hz).imp λhne z=>hne (by rw [z])
 .obtain ⟨x,hx,rfl⟩:=List.mem_map.mp hj
  exact List.idxOf_lt_length_iff.mpr (h.mem_iff.mp hx)
theorem zGh (h:ZK ns ss zs=true):Zh ns ss zs=true:=by
 unfold ZK at h;exact (Bool.and_eq_true_iff.mp (Bool.and_eq_true_iff.mp h).1).1
theorem zAh (h:Zh ns ss zs=true):zs.Perm ns:=by
 unfold Zh at h;exact List.isPerm_iff.mp (Bool.and_eq_true_iff.mp h).1
abbrev zNU:Stmt:=top 77
structure zq (H:Hp) (rs:List Addr) (os:List (List Int)):Prop where
 len:rs.length=os.length
 at_:∀(i:Nat) (r:Addr),rs[i]?=some r->∃o,os[i]?=some o/\H r=some (.lst (o.map V.int))
theorem zq.nil:zq H [] []:=⟨rfl,λi r h=>by simp at h⟩
theorem zq.same (h:zq H rs os) (g:zE H H'):zq H' rs os:=⟨h.len,λi r e=>let ⟨o,a,b⟩:=h.at_ i r e; ⟨o,a,g _ _ b⟩⟩
theorem zq.append {rs':List Addr} (h:zq H rs os) (h':zq H rs' os'):zq H (rs++rs') (os++os'):=by
 refine ⟨by rw [qJ,qJ,h.len,h'.len],λi r e=>?_⟩;by_cases hi:i<rs.length
 .rw [QM hi] at e
  rw [QM (by rw [<-h.len]; exact hi)];exact h.at_ i r e
 .rw [q8 (by lia)] at e
  rw [q8 (by rw [<-h.len]; lia),<-h.len];exact h'.at_ _ r e
theorem zq.one {r:Addr} {o:List Int} (h:H r=some (.lst (o.map V.int))):zq H [r] [o]:=by
 refine ⟨rfl,λi r' e=>?_⟩;cases i with
 | zero=>cases e; exact ⟨o,rfl,h⟩
 | succ i=>simp at e
theorem zq.put {p:Addr} (h:zq H rs os) (hp:p∉rs):zq (zH H p u) rs os:=
 ⟨h.len,λi r e=>let ⟨o,a,b⟩:=h.at_ i r e; ⟨o,a,by rw [zI (λz:r=p=>hp (by rw [<-z]; exact qp e))]; exact b⟩⟩
theorem zCd {α β:Type} {f:α->List β} {c:Nat}:∀{l:List α},(∀a∈l,(f a).length<=c)->(l.flatMap f).length<=l.length*c
 | [],_=>by simp
 | a::r,h=>by
  have ih:=zCd (f:=f) (c:=c) (l:=r) λb hb=>h b (qF _ hb);have:=h a qE;rw [QH,qJ,qT,Nat.succ_mul];lia
theorem zCv {o:List Int} (h:ns.length<=7):(J6 ns o).length<=7:=by
 unfold J6;rw [qA];exact qQ (qY _ _) h
theorem zFy {ns:List Int} (h:ns.length<=7):∀k,(Zr ns k).length<=7^k
 | 0=>qG _
 | k+1=>by
  have ih:=zFy h k;have:=zCd (f:=J6 ns) (c:=7) (l:=Zr ns k) λo _=>zCv h;show ((Zr ns k).flatMap (J6 ns)).length<=_;rw [Nat.pow_succ];lia
theorem YO (h:ns.length<=7) {k:Nat} (hk:k<=7):(Zr ns k).length<=823543:=
 qQ (zFy h k) (qQ (QX (by decide) hk) (by decide))
theorem jW {ns:List Int}:∀{k:Nat} {o:List Int},o∈Zr ns k->o.length=k
 | 0,o,h=>by rw [List.mem_singleton.mp h]; rfl
 | k+1,o,h=>by
  obtain ⟨p,hp,ho⟩:=List.mem_flatMap.mp h;obtain ⟨x,_,rfl⟩:=List.mem_map.mp ho;rw [qJ,jW hp];rfl
theorem zCo (h:n<=10000000):n<sizeLine:=by rw [Ql]; lia
inductive zDf (vs:List V) (H:Hp) (Q:VK) (E:XK):Prop
 | mk (a:Addr) (ns:List Int) (m:Nat):vs=[.ref a, .int m]->H a=some (.lst (ns.map V.int))->ns.length<=7->m<=ns.length->(∀(l:Addr) (rs:List Addr) (H':Hp),zE H H'->H' l=some (.lst (rs.map V.ref))->zq H' rs (Zr ns m)->Q (.ref l) H')->zDf vs H Q E
theorem zAM:FS 2 ["numbers","many","found","k","longer","row"] zNU:=zm
theorem zQL (F:Fu K "_law_orders" zNU f fd) (B:Bt3 mg):FnOk P w K mg base zU 1 f fd ["numbers","many"] zDf:=by
 refine F.ok zAM ?_ ?_
 .rintro _ _ _ _ ⟨a,ns,m,rfl,_⟩
  rfl
 rintro _ A _ s H _ Q E hr ⟨a,ns,m,rfl,ha,h6,hm,q⟩;refine ⟨_,(zD (zt 2 zAM.nd (zv (zA (zv zB) zB))) (zD (Zq qi rfl (yx rfl B.range (zA (pv 1) zB)) (Yk 3 zAM.nd) (zD (zt 4 zAM.nd (zv zB)) (zD (Zq qi rfl (zj (pv 2)) (Yk 5 zAM.nd) (zG (zo (YF qk XG XH zAJ (pv 4) (zA (ZR ["one"] rfl (bk zAM) (zj (pv 0)) (λpA C fp s3 H3=>⟨(yI zAM),(Zg (zT (yK K) (pv 0) (pv 6) rfl)),(zS Yt (pv 6) (zv (zA (pv 0) zB)))⟩)) zB))))) (zG (zt 2 zAM.nd (pv 4)))))) (zG (zM (pv 2))))),?_⟩;have nml:(ns.map V.int).length=ns.length:=qA _;refine ⟨(by show 0<=sizeLine; decide),λl0 hl0=>⟨(by show 1<=sizeLine; decide),λf0 hf0=>?_⟩⟩;have g0:zE H (zH (zH H l0 (.lst [])) f0 (.lst [.ref l0])):=(zE.new hl0 _).trans (zE.new hf0 _);have el0:(zH (zH H l0 (.lst [])) f0 (.lst [.ref l0])) l0=some (.lst (([]:List Int).map V.int)):=(zE.new hf0 _) _ _ zC;have ef0:(zH (zH H l0 (.lst [])) f0 (.lst [.ref l0])) f0=some (.lst ([l0].map V.ref)):=zC;generalize zH (zH H l0 (.lst [])) f0 (.lst [.ref l0])=H0 at g0 el0 ef0 ⊢;refine ⟨_,rfl,_,rfl,by lia,by lia,?_⟩;refine yv (lo:=0) (n:=((m:Nat):Int).toNat) (λk U H'=>∃(fo:Addr) (rs:List Addr) (x2 x3 x4:Option V),U=[some (.ref a),some (.int m),some (.ref fo),x2,x3,x4]/\zE H H'/\H' fo=some (.lst (rs.map V.ref))/\zq H' rs (Zr ns k))
  ⟨f0,[l0],_,_,_,rfl,g0,ef0,zq.one el0⟩ ?_ ?_
 .rintro k U H1 hk ⟨fo,rs,x2,x3,x4,rfl,g1,efo,R1⟩
  have pO:k<m:=by rw [qy] at hk; exact hk
  refine ⟨(by show 0<=sizeLine; decide),λlg hlg=>?_⟩;have gl:zE H1 (zH H1 lg (.lst [])):=zE.new hlg _;have elg:(zH H1 lg (.lst [])) lg=some (.lst (([]:List Addr).map V.ref)):=zC;generalize zH H1 lg (.lst [])=H2 at gl elg ⊢;refine ⟨_,rfl,fo,rfl,⟨_,zK.of (gl _ _ efo)⟩,?_⟩;have rml:(rs.map V.ref).length=rs.length:=qA _;have most:=YO h6 (k:=k) (by lia);refine yz (xs:=rs.map V.ref) (λj U H'=>∃(x4:Option V) (rs':List Addr),U=[some (.ref a),some (.int m),some (.ref fo),some (.int (0+(k:Int))),some (.ref lg),x4]/\zE H1 H'/\H' lg=some (.lst (rs'.map V.ref))/\lg∉rs'/\zq H' rs' (((Zr ns k).take j).flatMap (J6 ns)))
   ⟨_,[],rfl,gl,elg,nofun,zq.nil⟩ (λj U H' _ ⟨_,_,_,g,_⟩=>zK.of (g _ _ efo)) ?_ ?_
  .rintro j x U H3 hx ⟨y4,rs',rfl,g3,elg3,nlg,R3⟩
   rw [qM] at hx;cases hr:rs[j]? with
   | none=>rw [hr] at hx; cases hx
   | some r=>
   rw [hr] at hx;cases hx;obtain ⟨o,eo,er⟩:=R1.at_ j r hr;have hj:j<(Zr ns k).length:=(List.getElem?_eq_some_iff.mp eo).1;have ea3:=g3 _ _ (g1 _ _ ha);have er3:=g3 _ _ er;have bnd:rs'.length<=823543*7:=by
    rw [R3.len];refine qQ (zCd (c:=7) λo _=>zCv h6) ?_;rw [QC];exact vW 7 (by lia)
   refine ⟨_,rfl, .inl ⟨rfl,_,zK.of elg3⟩,_,rfl,a,rfl,⟨_,zK.of ea3⟩,λD hD=>?_⟩;refine Zy (n:=ns.length) (λi U' H'=>∃(x:Option V) (pM:List Addr),U'=x::[some (.ref a),some (.int m),some (.ref fo),some (.int (0+(k:Int))),some (.ref lg),some (.ref r)]/\zE H3 H'/\H' D=some (.lst (pM.map V.ref))/\(∀r∈pM,H3 r=none/\r≠D)/\zq H' pM (((ns.take i).filter λx=> !o.contains x).map λx=>o++[x]))
    ⟨none,[],rfl,zE.new hD _,zC,nofun,zq.nil⟩ ?_ ?_
   .rintro i U' H4 hi ⟨x,pM,rfl,g4,e4,nD,R4⟩
    have ea4:=g4 _ _ ea3;have hin:(ns.map V.int)[i]?=some (.int ns[i]):=by rw [qM,qB hi]; rfl
    refine ⟨⟨_,_,zK.of ea4,hin⟩,λz H5 hz=>?_⟩;obtain ⟨rfl,hz2⟩:=hz;have ez:=hz2 _ (zK.of ea4);rw [hin] at ez;cases ez;have tk:ns.take (i+1)=ns.take i++[ns[i]]:=by rw [QR,qB hi]; rfl
    have zFb:pM.length<=i:=by
     rw [R4.len,qA];refine qQ (qY _ _) ?_;rw [QC];lia
    refine ⟨_,rfl,_,rfl,r,_,o,rfl,rfl,zK.of (g4 _ _ er3),_,rfl,zr (λc=>?_) (λc=>?_)⟩
    .have c':(!o.contains ns[i])=true:=c
     refine ⟨_,rfl,_,rfl,(by show 1<=sizeLine; decide),λl1 hl1=>?_⟩;have s1:=zE.new hl1 (.lst [.int ns[i]]);have er4:=s1 _ _ (g4 _ _ er3);have hol:o.length<=1000:=by
      rw [jW (qp eo)];lia
     refine ⟨r,l1,_,_,rfl,rfl,er4,zC,qf (zCo (by rw [qA]; show o.length+1<=_; lia)),λl2 pK=>?_⟩;have s2:=zE.new pK (.lst (o.map V.int++[.int ns[i]]));have s12:=s1.trans s2;have el2:(zH (zH H5 l1 (.lst [.int ns[i]])) l2 (.lst (o.map V.int++[.int ns[i]]))) l2=some (.lst ((o++[ns[i]]).map V.int)):=by rw [zC,qN]; rfl
     generalize zH (zH H5 l1 (.lst [.int ns[i]])) l2 (.lst (o.map V.int++[.int ns[i]]))=H6 at s12 el2 ⊢;have eD6:=s12 _ _ e4;have hl2D:l2≠D:=λz=>by
      have:=zR s1 pK;rw [z,e4] at this;cases this
     refine ⟨_,eD6,zCo (by rw [qA]; lia),_,pM++[l2],rfl,λb u hb=>?_,by rw [zC,qN]; rfl,λr' hr'=>?_,?_⟩
     .rw [zI (zF hb hD)]
      exact s12 _ _ (g4 _ _ hb)
     .rcases List.mem_append.mp hr' with y | y
      .exact nD r' y
      .rw [List.mem_singleton.mp y]
       exact ⟨zR (g4.trans s1) pK,hl2D⟩
     .rw [tk,qz,qN]
      have ef:([ns[i]].filter λx=> !o.contains x)=[ns[i]]:=by rw [qh,qO c']; rfl
      rw [ef];refine zq.append ((R4.same s12).put λz=>(nD D z).2 rfl) (zq.one ?_);rw [zI hl2D];exact el2
    .have ef:([ns[i]].filter λx=> !o.contains x)=[]:=by rw [qh,qP (show ¬(!o.contains ns[i])=true from c)]; rfl
     refine ⟨_,pM,rfl,g4,e4,nD,?_⟩;rw [tk,qz,ef,qv];exact R4
   .rintro U' H4 ⟨x,pM,rfl,g4,e4,nD,R4⟩
    refine ⟨⟨_,zK.of (g4 _ _ ea3),by rw [nml]; exact qG _⟩,?_⟩;rw [xF] at R4;have zFb:pM.length<=7:=by rw [R4.len]; exact zCv h6
    refine ⟨lg,D,_,_,rfl,rfl,g4 _ _ elg3,e4,qf (zCo (by rw [qA,qA]; lia)),?_⟩;have nlg2:lg∉pM:=λz=>by
     have:=(nD lg z).1;rw [elg3] at this;cases this
    refine ⟨_,rs'++pM,rfl,λb u hb=>?_,by rw [zC,qN],λz=>(List.mem_append.mp z).elim nlg nlg2,?_⟩
    .rw [zI (zF hb hlg)]
     exact g4 _ _ (g3 _ _ hb)
    .rw [QR,eo,XJ]
     show zq _ _ (_++[o].flatMap (J6 ns));rw [QH,vw,qv];exact zq.append ((R3.same g4).put nlg) (R4.put nlg2)
  .rintro U H3 ⟨y4,rs',rfl,g3,elg3,_,R3⟩
   rw [rml,R1.len,xF] at R3;exact ⟨_,rfl,lg,rs',_,_,_,rfl,g1.trans g3,elg3,R3⟩
 .rintro U H1 ⟨fo,rs,x2,x3,x4,rfl,g1,efo,R1⟩
  rw [qy] at R1;exact ⟨_,rfl,q fo rs H1 g1 efo R1⟩
abbrev zIZ:Stmt:=top 78
abbrev zMh:Stmt:=top 79
abbrev zNH:Stmt:=top 85
def zDy (ns ss:List Int) (ring:Bool) (H:Hp) (rv:V):Prop:=(rv= .non/\yG ns ss ring=false)\/∃l,rv= .ref l/\H l=some (.lst ((zAA ns ss ring).map V.int))/\yG ns ss ring=true
theorem zFi {t:Addr} (pl:zi H t a b ns ss) (q:∀(rv:V) (H':Hp),zE H H'->zDy ns ss ring H' rv->Q rv H'):Jw ring [.ref t] H Q E:=
 ⟨t,a,b,ns,ss,rfl,pl,λhw H' g=>q _ H' g (.inl ⟨rfl,hw⟩),λhw l H' g _ el=>q _ H' g (.inr ⟨l,rfl,el,hw⟩)⟩
theorem zFQ (zs:List Int) (h:zs≠[]):YH (zs.map V.int) (-1)=some (.int (zs.getD (zs.length - 1) 0)):=by
 have e1:=(QL h).symm;have hl:0<zs.length:=by cases zs with | nil=>exact v6 rfl h | cons x r=>rw [qT]; lia
 have e2:zs.getD (zs.length - 1) 0=zs.getLast h:=by
  rw [qC,qB (by lia:zs.length - 1<zs.length),Xs];rfl
 rw [<-e2] at e1;have e3:zs.map V.int=zs.dropLast.map V.int++[.int (zs.getD (zs.length - 1) 0)]:=by
  conv=>lhs; rw [e1,qN]
  rfl
 rw [e3];exact Jr _ _
theorem zAX (zs:List Int) (h:i<zs.length):YH (zs.map V.int) (i:Int)=some (.int (zs.getD i 0)):=
 Zx (by rw [qM,qC,qB h]; rfl)
theorem zDy.same (h:zDy ns ss ring H rv) (g:zE H H'):zDy ns ss ring H' rv:=h.elim (λz=> .inl z) (λ⟨l,a,b,c⟩=> .inr ⟨l,a,g _ _ b,c⟩)
theorem zBC {t u:TS} (R:L2.St->Hp->Prop) (ht:∀N:L2.St->Hp->Prop,(∀U' H',R U' H'->N U' H')->t {D with nx:=N} U H) (hu:∀U' H',R U' H'->u D U' H'):JL t u D U H:=ht _ hu
def yo (ss zs:List Int):Bool:=(List.range (zs.length - 1)).all λi=>ss.contains (zs.getD i 0+zs.getD (i+1) 0)
def jD (ss zs:List Int):Bool:=decide (2<zs.length)&&ss.contains (zs.getD 0 0+zs.getD (zs.length - 1) 0)
inductive zDi (vs:List V) (H:Hp) (Q:VK) (E:XK):Prop
 | mk (t a b r:Addr) (ns ss zs:List Int):vs=[.ref t, .ref r]->zi H t a b ns ss->H r=some (.lst (zs.map V.int))->zs.length<=100->Q (.bl (yo ss zs)) H->zDi vs H Q E
inductive zIX (vs:List V) (H:Hp) (Q:VK) (E:XK):Prop
 | mk (t a b l:Addr) (ns ss:List Int) (rs:List Addr) (os:List (List Int)):vs=[.ref t, .ref l]->zi H t a b ns ss->H l=some (.lst (rs.map V.ref))->zq H rs os->os.length<=1000000->(∀o∈os,o≠[])->(∀(l':Addr) (rs':List Addr) (H':Hp),zE H H'->H' l'=some (.lst (rs'.map V.ref))->zq H' rs' (os.filter (jD ss))->Q (.ref l') H')->zIX vs H Q E
inductive zFM (vs:List V) (H:Hp) (Q:VK) (E:XK):Prop
 | mk (t a b:Addr) (ns ss:List Int):vs=[.ref t]->zi H t a b ns ss->ns.length<=7->(∀(l:Addr) (rs:List Addr) (H':Hp),zE H H'->H' l=some (.lst (rs.map V.ref))->zq H' rs ((Zr ns ns.length).filter (yo ss))->Q (.ref l) H')->zFM vs H Q E
theorem zq.mem (h:zq H rs os) (hi:i<rs.length):∃o,os[i]?=some o/\o∈os/\H rs[i]=some (.lst (o.map V.int)):=by
 obtain ⟨o,e,x⟩:=h.at_ i rs[i] (qB hi);exact ⟨o,e,qp e,x⟩
theorem jm {D:Addr} {tc:TT} {Q:Hp->Prop} {H1:Hp} (p:List Int->Bool) (hS:zK K H1 a (rs.map V.ref)) (R:zq H1 rs os) (hD:H1 D=none) (hn:rs.length<=1000000)
  (ht:∀(r:Addr) (o:List Int) (H':Hp),o∈os->zE H1 H'->H' r=some (.lst (o.map V.int))->JW tc (some (.ref r)::U) H' (p o))
  (hq:∀(rs':List Addr) (H':Hp),zE H1 H'->H' D=some (.lst (rs'.map V.ref))->zq H' rs' (os.filter p)->Q H'):YM (Itl K a) (ZW 0) tc (zNQ 0) D Q (none::U) (zH H1 D (.lst [])):=by
 have ml:(rs.map V.ref).length=rs.length:=qA _;refine Zy (n:=rs.length) (λi U' H'=>∃(x:Option V) (pM:List Addr),U'=x::U/\zE H1 H'/\H' D=some (.lst (pM.map V.ref))/\pM.length<=i/\(∀r∈pM,r≠D)/\zq H' pM ((os.take i).filter p))
  ⟨none,[],rfl,zE.new hD _,zC,qG _,nofun,zq.nil⟩ ?_ ?_
 .rintro i U' H' hi ⟨x,pM,rfl,g,e,l2,nD,R2⟩
  have ex:(rs.map V.ref)[i]?=some (.ref rs[i]):=by rw [qM,qB hi]; rfl
  refine ⟨⟨_,_,g.seq hS,ex⟩,λy H5 hy=>?_⟩;obtain ⟨rfl,hy⟩:=hy;have ey:=hy _ (g.seq hS);rw [ex] at ey;cases ey;obtain ⟨o,eo,mo,er⟩:=R.mem hi;have tk:os.take (i+1)=os.take i++[o]:=by rw [QR,eo]; rfl
  have rD:rs[i]≠D:=λz=>by rw [z,hD] at er; cases er
  refine ht rs[i] o H5 mo g (g _ _ er) _ λH6 g6=>?_;cases c:p o with
  | true=>
   refine Yu ⟨_,rfl,_,g6 _ _ e,zCo (by rw [qA]; lia),_,pM++[rs[i]],rfl,λb u hb=>?_,by rw [zC,qN]; rfl,by rw [qJ,xH]; lia,λr hr=>?_,?_⟩
   .rw [zI (zF hb hD)]
    exact g6 _ _ (g _ _ hb)
   .rcases List.mem_append.mp hr with z | z
    .exact nD r z
    .rw [List.mem_singleton.mp z]
     exact rD
   .rw [tk,qz,qh,qO c]
    refine zq.append ((R2.same g6).put λz=>nD D z rfl) (zq.one ?_);rw [zI rD];exact g6 _ _ (g _ _ er)
  | false=>
   refine ZG ⟨_,pM,rfl,g.trans g6,g6 _ _ e,by lia,nD,?_⟩;rw [tk,qz,qh,qP (by rw [c]; exact qR),Qo,qv];exact R2.same g6
 .rintro U' H' ⟨x,pM,rfl,g,e,l2,nD,R2⟩
  rw [R.len,xF] at R2;exact ⟨⟨_,g.seq hS,by rw [ml]; exact qG _⟩,hq pM H' g e R2⟩
theorem zJg:FS 2 ["plan","row","k"] zIZ:=zm
theorem zOS (F:Fu K "_law_fits" zIZ f fd) (B:Bt3 mg):FnOk P w K mg base zU 1 f fd ["plan","row"] zDi:=by
 refine F.ok zJg ?_ ?_
 .rintro _ _ _ _ ⟨t,a,b,r,ns,ss,zs,rfl,_⟩
  rfl
 rintro _ A _ s H _ Q E hr ⟨t,a,b,r,ns,ss,zs,rfl,pl,er,hz,q⟩;refine ⟨_,(zD (Zq qi rfl (zEk rfl B.range (zA zJ (zA (zP zQ rfl B.len qU (zA (pv 1) zB)) zB))) (Yk 2 zJg.nd) (zG (zd (zT (yK K) (zS ZA (zz zx (pv 1) (zS yc (pv 2) zJ)) (zz zx (pv 1) (pv 2))) (zz zh (pv 0) zJ) rfl) (zG (zM ZU)) zW))) (zG (zM ZU))),?_⟩;have zml:(zs.map V.int).length=zs.length:=qA _;refine ⟨_,rfl,r,_,rfl, .inl (zK.of er),1,((zs.length:Nat):Int),by rw [zml],⟨by decide,by decide,by lia,by lia⟩,?_⟩;refine yv (lo:=1) (n:=((zs.length:Int) - 1).toNat) (λi U H'=>∃y:Option V,U=[some (.ref t),some (.ref r),y]/\H'=H/\((List.range i).all λi=>ss.contains (zs.getD i 0+zs.getD (i+1) 0))=true) ⟨_,rfl,rfl,rfl⟩ ?_ ?_
 .rintro i U H4 hi ⟨y,rfl,rfl,hall⟩
  have hi1:i+1<zs.length:=by lia
  have x1:YH (zs.map V.int) (1+(i:Int) - 1)=some (.int (zs.getD i 0)):=by
   rw [show 1+(i:Int) - 1=((i:Nat):Int) by lia];exact zAX zs (by lia)
  have x2:YH (zs.map V.int) (1+(i:Int))=some (.int (zs.getD (i+1) 0)):=by
   rw [show 1+(i:Int)=((i+1:Nat):Int) by lia];exact zAX zs hi1
  have JI:((List.range (i+1)).all λi=>ss.contains (zs.getD i 0+zs.getD (i+1) 0))=ss.contains (zs.getD i 0+zs.getD (i+1) 0):=by
   rw [xO,List.all_append,hall,QJ,X2,List.all_nil,xn]
  refine ⟨_,rfl,_,rfl,_,_,rfl,rfl,r,_,_,_,rfl,rfl,zK.of er,x1,_,rfl,_,rfl,r,_,_,_,rfl,rfl,zK.of er,x2,_,_,rfl,rfl,_,rfl,t,_,1,_,rfl,rfl,ZD.of pl.t,rfl,b,_,ss,rfl,rfl,zK.of pl.b,_,rfl,?_⟩;cases ca:ss.contains (zs.getD i 0+zs.getD (i+1) 0) with
  | false=>
   refine Yu ?_;have e3:yo ss zs=false:=by
    cases hh:yo ss zs with
    | false=>rfl
    | true=>
     have h4:=List.all_eq_true.mp hh i (List.mem_range.mpr (by lia));rw [ca] at h4;cases h4
   rw [e3] at q;exact q
  | true=>exact ZG ⟨_,rfl,rfl,by rw [JI]; exact ca⟩
 .rintro U H4 ⟨y,rfl,rfl,hall⟩
  have e4:yo ss zs=true:=by
   unfold yo;rw [show zs.length - 1=((zs.length:Int) - 1).toNat by lia];exact hall
  rw [e4] at q;exact q
theorem zIl:FS 2 ["plan","rows"] zMh:=zm
theorem zPU (F:Fu K "_law_rings" zMh f fd) (B:Bt3 mg):FnOk P w K mg base zU 1 f fd ["plan","rows"] zIX:=by
 refine F.ok zIl ?_ ?_
 .rintro _ _ _ _ ⟨t,a,b,l,ns,ss,rs,os,rfl,_⟩
  rfl
 rintro _ A _ s H _ Q E hr ⟨t,a,b,l,ns,ss,rs,os,rfl,pl,el,R,hn,ne,q⟩;refine ⟨_,(zG (zM (ZR ["row"] rfl (bk zIl) (zj (pv 1)) (λpA C fp s3 H3=>⟨(yI zIl),(Zg (PW.pt (Jx (zT zFI (zP (zFE K) rfl B.len qU (zA (pv 0) zB)) zJ (zV _)) (Jj (zT (Y3 K) (zS ZA (zz (jL K) (pv 0) zJ) (zz (jL K) (pv 0) (Y9 Yc zJ))) (zz (j5 K) (pv 1) zJ) rfl))))),(pv 0)⟩)))),?_⟩;refine ⟨_,rfl,l,rfl,⟨_,zK.of el⟩,λD hD=>?_⟩;refine jm (U:=[some (.ref t),some (.ref l)]) (jD ss) (zK.of el) R hD (by rw [R.len]; exact hn) (λr o H' mo g er P hP=>?_) λrs' H' g e R'=>q D rs' H' g e R';have pl':=pl.same g;have oml:(o.map V.int).length=o.length:=qA _;refine ⟨_,rfl,r,_,rfl, .inl (zK.of er),_,_,rfl,rfl,_,rfl,zr (λc=>?_) (λc=>?_)⟩
 .have c':2<o.length:=by have z:=qZ c; rw [oml] at z; lia
  have e:jD ss o=ss.contains (o.getD 0 0+o.getD (o.length - 1) 0):=by unfold jD; rw [qK c',QJ]
  rw [e] at hP;exact ⟨_,rfl,r,_,_,_,rfl,rfl,zK.of er,zAX o (i:=0) (by lia),_,rfl,_,rfl,r,_,_,_,rfl,rfl,zK.of er,zFQ o (ne o mo),_,_,rfl,rfl,_,rfl,t,_,1,_,rfl,rfl,ZD.of pl'.t,rfl,b,_,ss,rfl,rfl,zK.of pl'.b,_,rfl,hP _ zE.rfl'⟩
 .have e:jD ss o=false:=by unfold jD; rw [qa λz=>c (qK (by rw [oml]; lia)),xG]
  rw [e] at hP;exact hP _ zE.rfl'
theorem zJI:FS 1 ["plan"] zNH:=zm
theorem zQu (F:Fu K "_law_all" zNH f fd) (B:Bt3 mg)
  (GO:Gd P w K mg base 1 g1 pH ["numbers","many"] zDf "_law_orders")
  (GF:Gd P w K mg base 1 g2 pI ["plan","row"] zDi "_law_fits"):FnOk P w K mg base zU 2 f fd ["plan"] zFM:=by
 refine F.ok zJI ?_ ?_
 .rintro _ _ _ _ ⟨t,a,b,ns,ss,rfl,_⟩
  rfl
 rintro _ A _ s H _ Q E hr ⟨t,a,b,ns,ss,rfl,pl,h7,q⟩;refine ⟨_,(zG (zM (ZR ["row"] rfl (bk zJI) (zj (zL GO hr (zA (zz zh (pv 0) zJ) (zA (zP zQ rfl B.len qU (zA (zz zh (pv 0) zJ) zB)) zB)))) (λpA C fp s3 H3=>⟨(yI zJI),(Zg (ZN (zL GF hr (zA (pv 1) (zA (pv 0) zB))))),(pv 0)⟩)))),?_⟩;have nml:(ns.map V.int).length=ns.length:=qA _;refine ⟨_,rfl,t,_,0,_,rfl,rfl,ZD.of pl.t,rfl,_,rfl,t,_,0,_,rfl,rfl,ZD.of pl.t,rfl,a,_,rfl, .inl (zK.of pl.a),a,ns,ns.length,by rw [nml]; rfl,pl.a,h7,qG _,λl rs H1 g1 el R=>?_⟩;refine ⟨l,rfl,⟨_,zK.of el⟩,λD hD=>?_⟩;have pl1:=pl.same g1;refine jm (U:=[some (.ref t)]) (yo ss) (zK.of el) R hD (by rw [R.len]; exact qQ (YO h7 (k:=ns.length) h7) (by decide)) (λr o H' mo g er P hP=>?_) λrs' H' g e R'=>q D rs' H' (g1.trans g) e R';refine ⟨_,rfl,_,rfl,t,a,b,r,ns,ss,o,rfl,pl1.same g,er,by rw [jW mo]; lia,_,rfl,hP _ zE.rfl'⟩
theorem zEN {o:List Int} (nd:o.Nodup) (hi:i<o.length) (hj:j<o.length) (h:i≠j):o.getD i 0≠o.getD j 0:=by
 rw [qC,qC,qB hi,qB hj];intro z;exact h ((vo nd).mp z)
theorem zKB (up:ns.Pairwise (·<·)) {o:List Int} (h:o∈Zr ns ns.length):o.Perm ns/\o.Nodup/\o.length=ns.length:=by
 rw [jI up] at h;obtain ⟨p,hp,rfl⟩:=List.mem_map.mp h;have q:=Js (ns:=ns) (yO hp);exact ⟨q,q.nodup_iff.mpr (up.imp λh=>xB h),q.length_eq⟩
theorem zFf {o:List Int} (nd:o.Nodup):yo ss o=nbB ss o:=by
 unfold yo nbB;rw [qu,xE,xE];refine forall_congr' λi=>forall_congr' λhi=>?_;have hi':=List.mem_range.mp hi;unfold zY;rw [qK (zEN nd (by lia) (by lia) (by lia)),QJ]
theorem zCD (up:ns.Pairwise (·<·)) {o:List Int} (h:o∈Zr ns ns.length):yo ss o=Zh ns ss o:=by
 obtain ⟨p,nd,_⟩:=zKB up h;unfold Zh;rw [List.isPerm_iff.mpr p,zFf nd,QJ]
theorem zGc:∀{ns ms:List Int},ns.length=ms.length->HT.zBB .lt ns ms=HT.Z9 ns ms
 | [],[],_=>rfl
 | x::xs,y::ys,h=>by
  show (if x=y then HT.zBB .lt xs ys else decide (x<y))=if x=y then HT.Z9 xs ys else decide (x<y);rw [zGc (Nat.succ.inj h)]
 | [],_::_,h=>nomatch h
 | _::_,[],h=>nomatch h
theorem zAT {α:Type} {R:α->α->Prop} (as:∀a b,R a b->¬R b a):∀{l m:List α},l.Pairwise R->m.Pairwise R->(∀z,z∈l↔z∈m)->l=m
 | [],[],_,_,_=>rfl
 | [],y::r,_,_,h=>v6 ((h y).mpr qE) Q1
 | x::l,[],_,_,h=>v6 ((h x).mp qE) Q1
 | x::l,y::m,h1,h2,h=>by
  obtain ⟨a1,a2⟩:=List.pairwise_cons.mp h1;obtain ⟨b1,b2⟩:=List.pairwise_cons.mp h2;have e:x=y:=by
   rcases List.mem_cons.mp ((h x).mp qE) with e | e
   .exact e
   .rcases List.mem_cons.mp ((h y).mpr qE) with e2 | e2
    .exact e2.symm
    .exact v6 (b1 x e) (as x y (a1 y e2))
  subst e;congr 1;refine zAT as a2 b2 λz=>⟨λhz=>?_,λhz=>?_⟩
  .rcases List.mem_cons.mp ((h z).mp (qF _ hz)) with e | e
   .rw [e] at hz
    exact v6 (a1 x hz) (as x x (a1 x hz))
   .exact e
  .rcases List.mem_cons.mp ((h z).mpr (qF _ hz)) with e | e
   .rw [e] at hz
    exact v6 (b1 x hz) (as x x (b1 x hz))
   .exact e
theorem zKI (a b:List Int) (h:HT.Z9 a b=true):¬HT.Z9 b a=true:=by rw [zGK h]; exact qR
theorem Yd (ok:zf ns ss):(Zr ns ns.length).filter (yo ss)=Z7 ns ss:=by
 refine zAT zKI ((zCI ok.n.up _).filter _) ?_ λz=>?_
 .unfold Z7
  refine List.pairwise_map.mpr (List.pairwise_lt_range.imp_of_mem λ{i j} _ hj hij=>?_);have hj':=List.mem_range.mp hj;rw [<-zGc ((zBJ ok (Xh hij hj')).trans (zBJ ok hj').symm)];exact zOo ok hij hj'
 .rw [jr ok,QZ]
  constructor
  .rintro ⟨h1,h2⟩
   rw [<-zCD ok.n.up h1];exact h2
  .intro h
   have m:=zLb ok.n.up (zAh h);exact ⟨m,by rw [zCD ok.n.up m]; exact h⟩
theorem zMy {z:List Int} (h:Zh ns ss z=true) (up:ns.Pairwise (·<·)):ZK ns ss z=jD ss z:=by
 have nd:z.Nodup:=(zAh h).nodup_iff.mpr (up.imp λh=>xB h);unfold ZK jD;rw [h,QJ];by_cases h3:z.length<3
 .rw [qK h3,qa (by lia:¬2<z.length)]
  rfl
 .rw [qa h3,qK (by lia:2<z.length)]
  unfold zY;rw [qK (zEN nd (by lia) (by lia) (by lia)),Int.add_comm];rfl
theorem zBj (ok:zf ns ss):(Z7 ns ss).filter (jD ss)=(Z7 ns ss).filter (ZK ns ss):=
 xT λz hz=>(zMy ((jr ok).mp hz) ok.n.up).symm
theorem zJq (ok:zf ns ss):((Z7 ns ss).filter (jD ss)).length=Ys ns ss:=by
 rw [zBj ok,<-zHD ok];unfold Z7;rw [Q7,qA];rfl
theorem zDn {z:List Int} (ok:zf ns ss):z∈(Z7 ns ss).filter (jD ss)↔ZK ns ss z=true:=by
 rw [zBj ok,QZ,jr ok];exact ⟨λh=>h.2,λh=>⟨zGh h,h⟩⟩
theorem zGD (ok:zf ns ss):(Z7 ns ss).head?=if yG ns ss false=true then some (zAA ns ss false) else none:=by
 rw [<-Yd ok,vm,<-zNK ok];exact yX λa ha=>zCD ok.n.up ha
theorem zKv (ok:zf ns ss):((Z7 ns ss).filter (jD ss)).head?=if yG ns ss true=true then some (zAA ns ss true) else none:=by
 rw [zBj ok,<-Yd ok,List.filter_filter,vm,<-zKR ok];refine yX λa ha=>?_;rw [zCD ok.n.up ha];cases e:ZK ns ss a with
 | true=>rw [zGh e]; rfl
 | false=>rfl
abbrev zLK:Stmt:=top 80
def JJ (H:Hp) (gs:List Addr) (x:Option (List Int)):Prop:=(x=none/\gs=[])\/∃o r q,x=some o/\gs=r::q/\H r=some (.lst (o.map V.int))
theorem JJ.same {x:Option (List Int)} (h:JJ H gs x) (g:zE H H'):JJ H' gs x:=h.elim .inl λ⟨o,r,q,a,b,c⟩=> .inr ⟨o,r,q,a,b,g _ _ c⟩
theorem zBM (gs:List Addr):∃v,YH (gs.map V.ref++[V.non]) 0=some v/\(gs=[]->v= .non)/\∀r q,gs=r::q->v= .ref r:=by
 cases gs with
 | nil=>exact ⟨.non,rfl,λ_=>rfl,λ_ _ z=>nomatch z⟩
 | cons r q=>exact ⟨.ref r,Zx (j:=0) rfl,(λz=>nomatch z),λr' q' z=>by cases z; rfl⟩
theorem zCu (h1:zDy ns ss ring H rv) (h2:JJ H gs (if yG ns ss ring=true then some (zAA ns ss ring) else none))
  (hv:(gs=[]->v= .non)/\∀r q,gs=r::q->v= .ref r) (q:Q (.bl false) H):zPh K rv v H Q:=by
 rcases h1 with ⟨rfl,e⟩ | ⟨l,rfl,el,e⟩
 .rw [e,qP qR] at h2
  rcases h2 with ⟨_,z⟩ | ⟨o,r,q',z,_⟩
  .rw [hv.1 z]
   exact .inl ⟨rfl,q⟩
  .cases z
 .rw [e,qO rfl] at h2
  rcases h2 with ⟨z,_⟩ | ⟨o,r,q',z,y,er⟩
  .cases z
  .cases z
   rw [hv.2 r q' y];refine .inr ⟨_,jF (zK.of el) (zK.of er),?_⟩;rw [QN];exact q
inductive zIm (vs:List V) (H:Hp) (Q:VK) (E:XK):Prop
 | mk (t a b le lr lg:Addr) (ns ss:List Int) (es rs gs:List Addr):vs=[.ref t, .ref le, .ref lr, .ref lg]->zi H t a b ns ss->ns.length<=6->H le=some (.lst (es.map V.ref))->zq H es (Zr ns ns.length)->H lr=some (.lst (rs.map V.ref))->zq H rs (Z7 ns ss)->H lg=some (.lst (gs.map V.ref))->zq H gs ((Z7 ns ss).filter (jD ss))->(∀H',zE H H'->Q (.bl true) H')->zIm vs H Q E
theorem zq.head (R:zq H gs os):JJ H gs os.head?:=by
 cases gs with
 | nil=>
  have:os=[]:=List.length_eq_zero_iff.mp R.len.symm;rw [this];exact .inl ⟨rfl,rfl⟩
 | cons r q=>
  obtain ⟨o,e,x⟩:=R.at_ 0 r rfl;cases os with
  | nil=>cases e
  | cons o' os'=>
   cases e;exact .inr ⟨o,r,q,rfl,rfl,x⟩
theorem zq.any (R:zq H rs os) (z:List Int):(rs.any λb=>zAt H b==z)=os.contains z:=by
 rw [qu,X7,qw];constructor
 .rintro ⟨b,hb,e⟩
  obtain ⟨i,hi,rfl⟩:=Xc hb;obtain ⟨o,_,mo,x⟩:=R.mem hi;rw [jJ x] at e;rw [<-beq_iff_eq.mp e];exact mo
 .intro h
  obtain ⟨i,hi,rfl⟩:=Xc h;have hi':i<rs.length:=by rw [R.len]; exact hi
  obtain ⟨o,eo,_,x⟩:=R.mem hi';rw [qB hi] at eo;cases eo;exact ⟨rs[i],qg hi',by rw [jJ x]; exact QN _⟩
theorem zq.lst {H:Hp} {rs:List Addr} {os:List (List Int)} (R:zq H rs os):∀b∈rs,∃rb:List Int,H b=some (.lst (rb.map V.int)):=λb hb=>by
 obtain ⟨i,hi,rfl⟩:=Xc hb;obtain ⟨o,_,_,x⟩:=R.mem hi;exact ⟨o,x⟩
theorem zGG (h:ns.length<=6):(Zr ns ns.length).length<=823543:=YO (by lia) (by lia)
theorem zGJ (ok:zf ns ss) (h:ns.length<=6):(Z7 ns ss).length<=823543:=by
 rw [<-Yd ok];exact qQ (qY _ _) (zGG h)
theorem atR (h:i<rs.length):YH (rs.map V.ref) (i:Int)=some (.ref rs[i]):=Zx (by rw [qM,qB h]; rfl)
theorem zOc (h:i<ZF ns ss false):(Z7 ns ss)[i]?=some (YY ns ss i):=by
 unfold Z7;rw [qM,List.getElem?_range h];rfl
section
variable {fe cr cg rb no ir ig cb:Addr} {fed crd cgd rbd nod ird igd cbd:FuncData}
theorem JU:FS 4 ["plan","every","rows","rings","k","order","one","other","here"] zLK:=zm
theorem zQs (F:Fu K "_law_rows_good" zLK f fd) (B:jP mg)
  (GF:Gd P w K mg base 27 fr frd ["plan"] (Jw false) "first_row")
  (GE:Gd P w K mg base 27 fe fed ["plan"] (Jw true) "first_ring")
  (GR:Gd P w K mg base 27 cr crd ["plan"] (Jb λns ss=>ZF ns ss false) "count_rows")
  (GG:Gd P w K mg base 27 cg cgd ["plan"] (Jb Ys) "count_rings")
  (GY:Gd P w K mg base 27 rb rbd ["plan","number"] zLh "row_by")
  (GN:Gd P w K mg base 27 no nod ["plan","thing"] zIr "number_of")
  (GI:Gd P w K mg base 27 ir ird ["plan","thing"] zDJ "is_row")
  (GJ:Gd P w K mg base 27 ig igd ["plan","thing"] zIx "is_ring")
  (GW:Gd P w K mg base 27 cb cbd ["plan","one","other"] zMz "count_between"):FnOk P w K mg base zU 28 f fd ["plan","every","rows","rings"] zIm:=by
 refine F.ok JU ?_ ?_
 .rintro _ _ _ _ ⟨t,a,b,le,lr,lg,ns,ss,es,rs,gs,rfl,_⟩
  rfl
 rintro _ A _ s H _ Q E hr ⟨t,a,b,le,lr,lg,ns,ss,es,rs,gs,rfl,pl,n6,ee,Re,er,Rr,eg,Rg,q⟩;have ok:=pl.ok;have cl:=zBw ns ss;have rl:rs.length=ZF ns ss false:=Rr.len.trans cl;have gl:gs.length=Ys ns ss:=Rg.len.trans (zJq ok);have rb6:rs.length<=823543:=by rw [Rr.len]; exact zGJ ok n6
 have gb6:gs.length<=823543:=by rw [Rg.len]; exact qQ (qY _ _) (zGJ ok n6)
 have eb6:es.length<=823543:=by rw [Re.len]; exact zGG n6
 refine ⟨_,(zD (zd (PW.pt (yi (zT (zGn hr.units) (zL GF hr (zA (pv 0) zB)) (zz zx (zS Yt (pv 2) (zv (zA Y4 zB))) zJ) (zV _)) (yA (zT (zGn hr.units) (zL GE hr (zA (pv 0) zB)) (zz zx (zS Yt (pv 3) (zv (zA Y4 zB))) zJ) (zV _))))) (zG (zM ZU)) zW) (zD (zd (PW.pt (yi (zT Yl (zL GR hr (zA (pv 0) zB)) (zP zQ rfl B.len qU (zA (pv 2) zB)) (zV _)) (yA (zT Yl (zL GG hr (zA (pv 0) zB)) (zP zQ rfl B.len qU (zA (pv 3) zB)) (zV _))))) (zG (zM ZU)) zW) (zD (Zq qi rfl (zFD rfl B.range (zA zJ (zA (zP zQ rfl B.len qU (zA (pv 2) zB)) (zA (zS ZA zJ (zS zAZ (zP zQ rfl B.len qU (zA (pv 2) zB)) zJ)) zB)))) (Yk 4 JU.nd) (zG (zd (PW.pt (yi (zT (Z3 hr.units) (zL GY hr (zA (pv 0) (zA (pv 4) zB))) (zz zx (pv 2) (pv 4)) (zV _)) (yA (zT Yl (zL GN hr (zA (pv 0) (zA (ZE ZP rfl B.list qq (zA (zz zx (pv 2) (pv 4)) zB)) zB))) (pv 4) (zV _))))) (zG (zM ZU)) zW))) (zD (Zq qi rfl (zFD rfl B.range (zA zJ (zA (zP zQ rfl B.len qU (zA (pv 1) zB)) (zA (zS ZA zJ (zS zAZ (zP zQ rfl B.len qU (zA (pv 1) zB)) zJ)) zB)))) (Yk 4 JU.nd) (zD (zt 5 JU.nd (zz zx (pv 1) (pv 4))) (zD (zd (zT Yl (zL GI hr (zA (pv 0) (zA (ZE ZP rfl B.list qq (zA (pv 5) zB)) zB))) (ZT (zKC hr.units) (pv 5) (pv 2) rfl) (zV _)) (zG (zM ZU)) zW) (zG (zd (zT Yl (zL GJ hr (zA (pv 0) (zA (ZE ZP rfl B.list qq (zA (pv 5) zB)) zB))) (ZT (zKC hr.units) (pv 5) (pv 3) rfl) (zV _)) (zG (zM ZU)) zW))))) (zD (Zq qi rfl (zj (zz zh (pv 0) zJ)) (Yk 6 JU.nd) (zG (Zq qi rfl (zj (zz zh (pv 0) zJ)) (Yk 7 JU.nd) (zD (jS ["row"] rfl (bk JU) (zj (pv 2)) (λpA C fp s3 H3=>⟨(yI JU),(Zg (PW.pt (Jx (zT YQ (zz (jL K) (pv 0) zJ) (pv 7) (zV _)) (Jj (zT YQ (zz (jL K) (pv 0) (Y9 Yc zJ)) (pv 8) (zV _)))))),(pv 0)⟩) (j:=8) JU.nd rfl (Or.inl rfl) rfl) (zG (zd (zT Yl (zL GW hr (zA (pv 0) (zA (pv 6) (zA (pv 7) zB)))) (zP zQ rfl B.len qU (zA (pv 8) zB)) (zV _)) (zG (zM ZU)) zW)))))) (zG (zM ZU))))))),?_⟩;refine ⟨_,rfl,?_⟩;dsimp only [zFq];refine zFi pl λrv H8 g8 hrv=>?_;obtain ⟨v1,at1,hv1⟩:=zBM rs;refine ⟨_,rfl,(by show 1<=sizeLine; decide),λl1 hl1=>?_⟩;have t1:=zE.new hl1 (.lst [.non]);refine ⟨lr,l1,_,_,rfl,rfl,t1 _ _ (g8 _ _ er),zC,qf (zCo (by rw [qA]; show rs.length+1<=_; lia)),λl2 pK=>?_⟩;have t2:=zE.new pK (.lst (rs.map V.ref++[.non]));have hd1:JJ H rs (if yG ns ss false=true then some (zAA ns ss false) else none):=by rw [<-zGD ok]; exact Rr.head
 have pN:JJ H gs (if yG ns ss true=true then some (zAA ns ss true) else none):=by rw [<-zKv ok]; exact Rg.head
 refine ⟨l2,_,_,_,rfl,rfl,zK.of zC,at1,zCu (hrv.same (t1.trans t2)) (hd1.same (g8.trans (t1.trans t2))) hv1 ⟨_,rfl,ZG ?_⟩⟩;have g9:=g8.trans (t1.trans t2);generalize zH (zH H8 l1 (.lst [.non])) l2 (.lst (rs.map V.ref++[.non]))=H9 at g9 ⊢;refine ⟨_,rfl,?_⟩;dsimp only [zFq];refine zFi (pl.same g9) λrv2 H10 g10 hrv2=>?_;obtain ⟨v2,at2,hv2⟩:=zBM gs;refine ⟨_,rfl,(by show 1<=sizeLine; decide),λm1 hm1=>?_⟩;have u1:=zE.new hm1 (.lst [.non]);refine ⟨lg,m1,_,_,rfl,rfl,u1 _ _ (g10 _ _ (g9 _ _ eg)),zC,qf (zCo (by rw [qA]; show gs.length+1<=_; lia)),λm2 hm2=>?_⟩;have u2:=zE.new hm2 (.lst (gs.map V.ref++[.non]));have gZ:=g9.trans (g10.trans (u1.trans u2));refine ⟨m2,_,_,_,rfl,rfl,zK.of zC,at2,zCu (hrv2.same (u1.trans u2)) (pN.same gZ) hv2 ⟨_,rfl,ZG ?_⟩⟩;generalize zH (zH H10 m1 (.lst [.non])) m2 (.lst (gs.map V.ref++[.non]))=H1 at gZ ⊢;clear hrv hrv2 hd1 pN g8 g9 g10 t1 t2 u1 u2;have rml:(rs.map V.ref).length=rs.length:=qA _;have gml:(gs.map V.ref).length=gs.length:=qA _;have eml:(es.map V.ref).length=es.length:=qA _;refine ⟨_,rfl,t,a,b,ns,ss,rfl,pl.same gZ,λH2 g2=>?_⟩;have G2:=gZ.trans g2;refine ⟨_,rfl,lr,_,rfl, .inl (zK.of (G2 _ _ er)),rfl,_,rfl,zr (λc=>?_) (λ_=>?_)⟩
 .rw [rml,rl] at c
  simp at c
 refine ⟨_,rfl,t,a,b,ns,ss,rfl,pl.same G2,λH3 g3=>?_⟩;have G3:=G2.trans g3;refine ⟨_,rfl,lg,_,rfl, .inl (zK.of (G3 _ _ eg)),rfl,_,rfl,zr (λc=>?_) (λ_=>?_)⟩
 .rw [gml,gl] at c
  simp at c
 have pl3:=pl.same G3;dsimp only [ZW,zCF];clear gZ g2 g3 G2;refine zBC (λU' H'=>∃x4:Option V,U'=[some (.ref t),some (.ref le),some (.ref lr),some (.ref lg),x4,none,none,none,none]/\zE H H') (λN hN=>?_) ?_
 .have e20:(0:Int)<=((rs.length:Nat):Int) / 20:=vP (by lia) (by decide)
  have l20:((rs.length:Nat):Int) / 20<=((rs.length:Nat):Int):=vp _ (by lia);refine ⟨_,rfl,lr,_,rfl, .inl (zK.of (G3 _ _ er)),_,rfl,lr,_,rfl, .inl (zK.of (G3 _ _ er)),_,_,rfl,rfl,⟨by decide,by decide⟩,_,_,rfl,rfl,((rs.length:Nat):Int),1+((rs.length:Nat):Int) / 20,by rw [rml],⟨by lia,by lia,by lia,by lia⟩,?_⟩;refine zFt (c:=1+((rs.length:Nat):Int) / 20) (n:=zAU ((rs.length:Nat):Int) (1+((rs.length:Nat):Int) / 20)) (λi U H'=>∃x4:Option V,U=[some (.ref t),some (.ref le),some (.ref lr),some (.ref lg),x4,none,none,none,none]/\zE H H') ⟨_,rfl,G3⟩ ?_ (λU H' h=>hN _ _ h);rintro i U H4 hi ⟨x4,rfl,g4⟩;obtain ⟨k0,k1⟩:=zHJ (by lia) (by lia) hi;generalize hk:(i:Int)*(1+((rs.length:Nat):Int) / 20)=kv at k0 k1;obtain ⟨k,rfl⟩:=XL k0;have kl:k<rs.length:=by lia
  have kc:k<ZF ns ss false:=by lia
  obtain ⟨rb1,rn⟩:=Jt ok kc;have rlk:=zBJ ok kc;obtain ⟨o,eo,_,xo⟩:=Rr.mem kl;rw [zOc kc] at eo;cases eo;refine ⟨_,rfl,_,rfl,t,a,b,ns,ss,k,rfl,pl.same g4,kc,λl H5 g5 hl el=>?_⟩;have G5:=g4.trans g5;refine ⟨_,rfl,_,rfl,lr,_,_,_,rfl,rfl,zK.of (G5 _ _ er),atR kl,_,jF (zK.of el) (zK.of (G5 _ _ xo)),_,rfl,?_⟩;rw [QN];refine ZG ⟨_,rfl,_,rfl,_,rfl,lr,_,_,_,rfl,rfl,zK.of (G5 _ _ er),atR kl,rs[k],_,rfl, .inl (zK.of (G5 _ _ xo)),λc hc=>?_⟩;have s1:=zE.new hc (.lst ((YY ns ss k).map V.int));have G6:=G5.trans s1;refine ⟨t,a,b,c,ns,ss,YY ns ss k,rfl,pl.same G6,zC,rb1,λH7 g7=>?_⟩;rw [rn];refine ⟨_,rfl,rfl,_,rfl,zr (λz=>?_) (λ_=>⟨_,rfl,G6.trans g7⟩)⟩;simp at z
 rintro U1 H4 ⟨x4,rfl,G4⟩;refine zBC (λU' H'=>∃x4 x5:Option V,U'=[some (.ref t),some (.ref le),some (.ref lr),some (.ref lg),x4,x5,none,none,none]/\zE H H') (λN hN=>?_) ?_
 .have e30:(0:Int)<=((es.length:Nat):Int) / 30:=vP (by lia) (by decide)
  have l30:((es.length:Nat):Int) / 30<=((es.length:Nat):Int):=vp _ (by lia);refine ⟨_,rfl,le,_,rfl, .inl (zK.of (G4 _ _ ee)),_,rfl,le,_,rfl, .inl (zK.of (G4 _ _ ee)),_,_,rfl,rfl,⟨by decide,by decide⟩,_,_,rfl,rfl,((es.length:Nat):Int),1+((es.length:Nat):Int) / 30,by rw [eml],⟨by lia,by lia,by lia,by lia⟩,?_⟩;refine zFt (c:=1+((es.length:Nat):Int) / 30) (n:=zAU ((es.length:Nat):Int) (1+((es.length:Nat):Int) / 30)) (λi U H'=>∃x4 x5:Option V,U=[some (.ref t),some (.ref le),some (.ref lr),some (.ref lg),x4,x5,none,none,none]/\zE H H') ⟨_,_,rfl,G4⟩ ?_ (λU H' h=>hN _ _ h);rintro i U H5 hi ⟨x4,x5,rfl,g5⟩;obtain ⟨k0,k1⟩:=zHJ (by lia) (by lia) hi;generalize hk:(i:Int)*(1+((es.length:Nat):Int) / 30)=kv at k0 k1;obtain ⟨k,rfl⟩:=XL k0;have kl:k<es.length:=by lia
  obtain ⟨o,eo,mo,xo⟩:=Re.mem kl;have ol:=jW mo;have inr:(Z7 ns ss).contains o=Zh ns ss o:=by
   rw [qu,qw];exact jr ok
  have ing:((Z7 ns ss).filter (jD ss)).contains o=ZK ns ss o:=by
   rw [qu,qw];exact zDn ok
  have same_no:∀x:Bool,(!decide (V.bl x=V.bl x))=false:=λx=>by simp
  refine ⟨_,rfl,_,rfl,le,_,_,_,rfl,rfl,zK.of (g5 _ _ ee),atR kl,?_⟩;refine ⟨_,rfl,_,rfl,es[k],_,rfl, .inl (zK.of (g5 _ _ xo)),λc hc=>?_⟩;have s1:=zE.new hc (.lst (o.map V.int));have G6:=g5.trans s1;refine ⟨t,a,b,c,ns,ss,o,rfl,pl.same G6,zC,by lia,λH7 g7=>?_⟩;have G7:=G6.trans g7;have Rr7:=Rr.same G7;refine ⟨_,rfl,_,rfl,es[k],lr,o,rs,rfl,rfl,G7 _ _ xo,G7 _ _ er,Rr7.lst,?_⟩;rw [Rr7.any,inr];refine ⟨rfl,_,rfl,?_⟩;rw [same_no];refine ZG ⟨_,rfl,_,rfl,es[k],_,rfl, .inl (zK.of (G7 _ _ xo)),λc2 hc2=>?_⟩;have s2:=zE.new hc2 (.lst (o.map V.int));have G8:=G7.trans s2;refine ⟨t,a,b,c2,ns,ss,o,rfl,pl.same G8,zC,by lia,λH9 g9=>?_⟩;have G9:=G8.trans g9;have Rg9:=Rg.same G9;refine ⟨_,rfl,_,rfl,es[k],lg,o,gs,rfl,rfl,G9 _ _ xo,G9 _ _ eg,Rg9.lst,?_⟩;rw [Rg9.any,ing];refine ⟨rfl,_,rfl,?_⟩;rw [same_no];exact ZG ⟨_,_,rfl,G9⟩
 rintro U1 H5 ⟨x4',x5,rfl,G5⟩;have nml:(ns.map V.int).length=ns.length:=qA _;have pl5:=pl.same G5;refine zBC (λU' H'=>zE H H') (λN hN=>?_) ?_
 .refine ⟨_,rfl,t,_,0,_,rfl,rfl,ZD.of pl5.t,rfl,a,rfl,⟨_,zK.of pl5.a⟩,?_⟩
  refine yz (xs:=ns.map V.int) (λi U H'=>∃x6 x7 x8:Option V,U=[some (.ref t),some (.ref le),some (.ref lr),some (.ref lg),x4',x5,x6,x7,x8]/\zE H H') ⟨_,_,_,rfl,G5⟩ (λi U H' _ ⟨_,_,_,_,g⟩=>zK.of (g _ _ pl.a)) ?_ (λU H' ⟨_,_,_,_,g⟩=>hN _ _ g);rintro i x U H6 hx ⟨x6,x7,x8,rfl,g6⟩;have hi:i<ns.length:=by have:=(List.getElem?_eq_some_iff.mp hx).1; rw [nml] at this; exact this
  rw [qM,jt hi] at hx;cases hx;have pl6:=pl.same g6;refine ⟨_,rfl,t,_,0,_,rfl,rfl,ZD.of pl6.t,rfl,a,rfl,⟨_,zK.of pl6.a⟩,?_⟩;refine yz (xs:=ns.map V.int) (λj U H'=>∃x7 x8:Option V,U=[some (.ref t),some (.ref le),some (.ref lr),some (.ref lg),x4',x5,some (.int (ns.getD i 0)),x7,x8]/\zE H H') ⟨_,_,rfl,g6⟩ (λj U H' _ ⟨_,_,_,g⟩=>zK.of (g _ _ pl.a)) ?_ (λU H' ⟨y7,y8,e,g⟩=>⟨_,y7,y8,e,g⟩);rintro j x U H7 hx ⟨x7,x8,rfl,g7⟩;have hj:j<ns.length:=by have:=(List.getElem?_eq_some_iff.mp hx).1; rw [nml] at this; exact this
  rw [qM,jt hj] at hx;cases hx;refine ⟨_,rfl,lr,rfl,⟨_,zK.of (g7 _ _ er)⟩,λD hD=>?_⟩;refine jm (U:=[some (.ref t),some (.ref le),some (.ref lr),some (.ref lg),x4',x5,some (.int (ns.getD i 0)),some (.int (ns.getD j 0)),x8]) (Jn ns i j) (zK.of (g7 _ _ er)) (Rr.same g7) hD (by lia) (λr o H' mo g er' P hP=>?_) λrs' H8 g8 e8 R8=>?_
  .have one:o≠[]:=λz=>by
    have h1:=(zAh ((jr ok).mp mo)).length_eq;rw [z] at h1;have:=ok.n1;simp at h1;lia
   have o0:0<o.length:=List.length_pos_iff.mpr one;refine ⟨_,rfl,r,_,_,_,rfl,rfl,zK.of er',zAX o (i:=0) o0,_,rfl,rfl,_,rfl,zr (λc=>?_) (λc=>?_)⟩
   .have e:Jn ns i j o=decide (V.int (o.getD (o.length - 1) 0)=V.int (ns.getD j 0)):=by
     unfold Jn;rw [qK (V.int.inj (qZ c)),QJ];simp
    rw [e] at hP;exact ⟨_,rfl,_,rfl,r,_,_,_,rfl,rfl,zK.of er',zFQ o one,_,rfl,rfl,_,rfl,hP _ zE.rfl'⟩
   .have e:Jn ns i j o=false:=by
     unfold Jn;rw [qa λz=>c (qK (by rw [z])),xG]
    rw [e] at hP;exact hP _ zE.rfl'
  .have G8:=g7.trans g8
   refine ⟨_,rfl,_,rfl,_,rfl,t,a,b,ns,ss,i,j,rfl,pl.same G8,hi,hj,λH9 g9=>?_⟩;refine ⟨_,rfl,D,_,rfl, .inl (zK.of (g9 _ _ e8)),rfl,_,rfl,zr (λz=>?_) (λ_=>⟨_,_,rfl,G8.trans g9⟩)⟩;rw [qA,R8.len,<-zLy ok hi hj] at z;simp at z
 rintro U2 H6 G6;exact q H6 G6
end
abbrev zLg:Stmt:=top 86
theorem zFs {x:Int}:∀{l:List Int},(∀y∈l,y<x)->Zj x l=l++[x]
 | [],_=>rfl
 | y::r,h=>by
  unfold Zj;have:=h y qE;rw [qP (by lia),zFs λz hz=>h z (qF _ hz)];rfl
theorem zEd {x:Int}:∀{l:List Int},x∉l->je x (Zj x l)=l
 | [],_=>by unfold Zj je; simp
 | y::r,h=>by
  have ny:y≠x:=λz=>h (by rw [z]; exact qE);have nr:x∉r:=λz=>h (qF _ z);have er:r.filter (λy=>decide (y≠x))=r:=List.filter_eq_self.mpr λz hz=>qK λ(q:z=x)=>nr (by rw [<-q]; exact hz);unfold Zj;split
  .unfold je
   rw [qh,qP (by simp),qh,qO (qK ny),er]
  .have ih:=zEd nr
   unfold je at ih ⊢;rw [qh,qO (qK ny),ih]
theorem zCB (h1:H a=some (.tup [.int x, .int y])) (h2:H b=some (.tup [.int x, .int y])):Y7 K H (.ref a) (.ref b) true:=by
 have e:∀(n:Nat) (z:Int),Ym K H n (.int z) (.int z) true:=λn z=>by
  have q:=Ym.int (K:=K) (H:=H) (n:=n) z z;rw [QN] at q;exact q
 refine Y7.tup (e:=λ_=>true) (ZD.of h1) (ZD.of h2) rfl λj u v hu hv=>?_
 match j with
 | 0=>cases hu; cases hv; exact e _ _
 | 1=>cases hu; cases hv; exact e _ _
 | _+2=>cases hu
inductive zHy (vs:List V) (H:Hp) (Q:VK) (E:XK):Prop
 | mk (t a b:Addr) (ns ss:List Int) (cell:Int):vs=[.ref t, .int cell]->0<=cell->zi H t a b ns ss->ns.length<=6->(∀H',zE H H'->Q (.bl true) H')->zHy vs H Q E
theorem zJK {k:Addr} (kp:Kp H C k dx a b ns ss) (q:∀(rv:V) (H':Hp),zE H H'->zDy ns ss false H' rv->Q rv H'):zFK C [.ref k] H Q E:=
 ⟨k,dx,a,b,ns,ss,rfl,kp,λhw H' g=>q _ H' g (.inl ⟨rfl,hw⟩),λhw l H' g _ el=>q _ H' g (.inr ⟨l,rfl,el,hw⟩)⟩
section
variable {gi gp gc gf go gg gs gt:Addr} {gdi gdp gdc gdf gdo gdg gds gdt:FuncData}
theorem made {k:Addr} (nk:H k=none) (ndx:H dx=none) (e:Ex (·=k) (zH (zH H dx (.own k)) k (.ins C dx [])) H'):zE H H':=λc o hc=>e c o (zF hc nk) (by rw [zI (zF hc nk),zI (zF hc ndx)]; exact hc)
theorem JS:FS 2 ["plan","cell","number","one","keeper","many","more","rows","most","every"] zLg:=zm
theorem zPz (F:Fu K "_law_keeper_good" zLg f fd) (B:Bt3 mg) (T:KpT K C)
  (GA:Gd P w K mg base 28 g1 pH ["plan"] zFM "_law_all")
  (MK:Mk K C gi) (mK:mg "Keeper"=some (.ref C)) (GK:FnOk P w K mg base zU 27 gi gdi ["self","plan"] (zIN C)) (bK:zX K gdi ["self","plan"] [])
  (mPl:ZC K C "plan" gp) (GPl:FnOk P w K mg base zU 28 gp gdp ["self"] (zDh C)) (bPl:zX K gdp ["self"] [])
  (mCt:ZC K C "count" gc) (GCt:FnOk P w K mg base zU 28 gc gdc ["self"] (zFL C)) (bCt:zX K gdc ["self"] [])
  (mFi:ZC K C "first" gf) (GFi:FnOk P w K mg base zU 28 gf gdf ["self"] (zFK C)) (bFi:zX K gdf ["self"] [])
  (mCo:ZC K C "come" go) (GCo:FnOk P w K mg base zU 28 go gdo ["self","number"] (Yy C zNw zJM)) (bCo:zX K gdo ["self","number"] [])
  (mGo:ZC K C "go" gg) (GGo:FnOk P w K mg base zU 28 gg gdg ["self","number"] (Yy C zNu zJP)) (bGo:zX K gdg ["self","number"] [])
  (mSc:ZC K C "sum_comes" gs) (GSc:FnOk P w K mg base zU 28 gs gds ["self","number"] (Yy C zNk zOB)) (bSc:zX K gds ["self","number"] [])
  (mSg:ZC K C "sum_goes" gt) (GSg:FnOk P w K mg base zU 28 gt gdt ["self","number"] (Yy C zOD zIw)) (bSg:zX K gdt ["self","number"] []):FnOk P w K mg base zU 29 f fd ["plan","cell"] zHy:=by
 refine F.ok JS ?_ ?_
 .rintro _ _ _ _ ⟨t,a,b,ns,ss,cell,rfl,_⟩
  rfl
 rintro _ A _ s H _ Q E hr ⟨t,a,b,ns,ss,cell,rfl,c0,pl,n6,q⟩;have ok:=pl.ok;have n1:=ok.n1;have nml:(ns.map V.int).length=ns.length:=qA _;have sml:(ss.map V.int).length=ss.length:=qA _;have nne:ns≠[]:=λz=>by rw [z] at n1; simp at n1
 refine ⟨_,(zD (zt 2 JS.nd (zS ZA (zS ZA (zz zx (YR zh (pv 0) zJ (λ_ _=>rfl)) (Y9 Yc zJ)) zJ) (zS yq (pv 1) zJ))) (zD (zt 3 JS.nd (zS ZA (YR zx (zz zh (pv 0) zJ) (zS yq (zS zAZ (pv 1) zJ) (zP zQ rfl B.len qU (zA (zz zh (pv 0) zJ) zB))) (λ_ _=>rfl)) (pv 2))) (zD (zt 4 JS.nd (j4 MK GK hr rfl mK bK .nil ze (zA (ya (zA (ZE ZP rfl B.list qq (zA (zz zh (pv 0) zJ) zB)) (zA (ZE ZP rfl B.list qq (zA (zz zh (pv 0) zJ) zB)) zB))) zB))) (zD (zt 5 JS.nd (zP zQ rfl B.len qU (zA (zL GA hr (zA (pv 0) zB)) zB))) (zD (zt 6 JS.nd (ya (zA (zS Yt (zz zh (pv 0) zJ) (zv (zA (pv 2) zB))) (zA (zz zh (pv 0) zJ) zB)))) (zD (zt 7 JS.nd (zP zQ rfl B.len qU (zA (zL GA hr (zA (pv 6) zB)) zB))) (zD (zd (PW.pt (yi (zT (Z3 hr.units) (zy (pv 4) T.cl mCo GCo hr bCo .nil ze (zA (pv 2) zB)) (ya (zA (pv 5) (zA (pv 7) zB))) (zV _)) (yA (zT (Z3 hr.units) (Zs (pv 4) T.cl mPl GPl hr bPl .nil ze) (pv 6) (zV _))))) (zG (zM ZU)) zW) (zD (zd (PW.pt (Jx (zT ji (zP zQ rfl B.len qU (zA (zz zh (pv 0) zJ) zB)) zJ (zV _)) (Jj (zT (yK K) (pv 3) (zz zh (pv 0) zJ) rfl)))) (zD (zt 8 JS.nd (ya (zA (zz zh (pv 6) zJ) (zA (zP Ye rfl B.sorted xx (zA (zS Yt (zz zh (pv 0) zJ) (zv (zA (pv 3) zB))) zB)) zB)))) (zD (zt 9 JS.nd (zL GA hr (zA (pv 8) zB))) (zD (zd (PW.pt (yi (zT (Z3 hr.units) (zy (pv 4) T.cl mSc GSc hr bSc .nil ze (zA (pv 3) zB)) (ya (zA (pv 7) (zA (zP zQ rfl B.len qU (zA (pv 9) zB)) zB))) (zV _)) (yA (zT (Z3 hr.units) (Zs (pv 4) T.cl mPl GPl hr bPl .nil ze) (pv 8) (zV _))))) (zG (zM ZU)) zW) (zD (zd (zT (zGn hr.units) (Zs (pv 4) T.cl mFi GFi hr bFi .nil ze) (zz zx (zS Yt (pv 9) (zv (zA Y4 zB))) zJ) (zV _)) (zG (zM ZU)) zW) (zG (zd (zT (Z3 hr.units) (zy (pv 4) T.cl mSg GSg hr bSg .nil ze (zA (pv 3) zB)) (ya (zA (zP zQ rfl B.len qU (zA (pv 9) zB)) (zA (pv 7) zB))) (zV _)) (zG (zM ZU)) zW)))))) zW) (zD (zd (zT (Z3 hr.units) (zy (pv 4) T.cl mGo GGo hr bGo .nil ze (zA (pv 2) zB)) (ya (zA (pv 7) (zA (pv 5) zB))) (zV _)) (zG (zM ZU)) zW) (zG (zM (YL (ZT (zAc hr.units) (Zs (pv 4) T.cl mPl GPl hr bPl .nil ze) (pv 0) (zV _)) (yf (ZT YQ (Zs (pv 4) T.cl mCt GCt hr bCt .nil ze) (pv 5) (zV _))))))))))))))),?_⟩;refine ⟨_,rfl,t,_,0,_,rfl,rfl,ZD.of pl.t,rfl,_,rfl,a,_,_,_,rfl,rfl,zK.of pl.a,zFQ ns nne,_,_,rfl,rfl,_,rfl,_,_,rfl,rfl,(by show (0:Int)<9; decide),_,_,rfl,rfl,?_⟩;have nlast:∀y∈ns,y<=ns.getD (ns.length - 1) 0:=λy hy=>by
  obtain ⟨j,hj,rfl⟩:=Xc hy;have e:ns[j]=ns.getD j 0:=by rw [qC,qB hj]; rfl
  rw [e];by_cases z:j=ns.length - 1
  .rw [z]; exact Int.le_refl _
  .exact Int.le_of_lt (zAd ok.n.up (by lia) (by lia))
 have nu0:0<=ns.getD (ns.length - 1) 0+1+cell % 9:=by
  have h1:=ok.n.bd (ns.getD (ns.length - 1) 0) (by rw [qC,qB (by lia:ns.length - 1<ns.length)]; exact qg _);lia
 have nug:∀y∈ns,y<ns.getD (ns.length - 1) 0+1+cell % 9:=λy hy=>by have:=nlast y hy; lia
 dsimp only [ZW];generalize ns.getD (ns.length - 1) 0+1+cell % 9=nu at nu0 nug ⊢;have nun:nu∉ns:=λz=>by have:=nug nu z; lia
 have ins:=zFs nug;have ln0:(0:Int)<((ns.length:Nat):Int):=by lia
 have i0:=XO (cell / 9) (Int.ne_of_gt ln0);have i1:=Xn (cell / 9) ln0;obtain ⟨j,hj⟩:=XL i0;have jl:j<ns.length:=by lia
 have at1:YH (ns.map V.int) (cell / 9 % (((ns.map V.int).length:Nat):Int))=some (.int (ns.getD j 0)):=by
  rw [nml,hj];exact zAX ns jl
 refine ⟨_,rfl,t,_,0,_,rfl,rfl,ZD.of pl.t,rfl,_,rfl,_,_,rfl,rfl,⟨by decide,by decide⟩,_,rfl,t,_,0,_,rfl,rfl,ZD.of pl.t,rfl,a,_,rfl, .inl (zK.of pl.a),_,_,rfl,rfl,(by rw [nml]; exact ln0),a,_,_,_,rfl,rfl,zK.of pl.a,at1,_,rfl,_,_,rfl,rfl,?_⟩;have on0:0<=ns.getD j 0+nu:=by
  have h1:=ok.n.bd (ns.getD j 0) (by rw [qC,qB jl]; exact qg _);lia
 dsimp only [ZW];generalize ns.getD j 0+nu=on at on0 ⊢;refine ⟨_,rfl,t,_,0,_,rfl,rfl,ZD.of pl.t,rfl,a,_,rfl, .inl (zK.of pl.a),λa1 ha1=>?_⟩;have s1:=zE.new ha1 (.lst (ns.map V.int));have p1:=pl.same s1;refine ⟨_,rfl,t,_,1,_,rfl,rfl,ZD.of p1.t,rfl,b,_,rfl, .inl (zK.of p1.b),λb1 hb1=>⟨yU,λt1 ht1=>?_⟩⟩;have s2:=zE.new hb1 (.lst (ss.map V.int));have s3:=zE.new ht1 (.tup [.ref a1, .ref b1]);have S3:=s1.trans (s2.trans s3);have pl3:zi (zH (zH (zH H a1 (.lst (ns.map V.int))) b1 (.lst (ss.map V.int))) t1 (.tup [.ref a1, .ref b1])) t1 a1 b1 ns ss:=⟨zC,s3 _ _ (s2 _ _ zC),s3 _ _ zC,ok⟩;generalize zH (zH (zH H a1 (.lst (ns.map V.int))) b1 (.lst (ss.map V.int))) t1 (.tup [.ref a1, .ref b1])=H3 at S3 pl3 ⊢;clear s1 s2 s3 p1 ha1 hb1 ht1;intro k dx nk ndx ndk;have g9:zE H3 (zH (zH H3 dx (.own k)) k (.ins C dx [])):=λc o hc=>by rw [zI (zF hc nk),zI (zF hc ndx)]; exact hc
 refine ⟨k,dx,t1,a1,b1,ns,ss,rfl,zC,pl3.same g9,λa4 b4 H4 e4 kp4 na4 nb4=>⟨rfl,?_⟩⟩;have S4:zE H H4:=S3.trans (made nk ndx e4);have nkH:H k=none:=zR S3 nk;have pl4:=pl.same S4;clear g9 e4 na4 nb4 nk ndx ndk S3 pl3;refine ⟨_,rfl,t,a,b,ns,ss,rfl,pl4,by lia,λl5 rs5 H5 g5 e5 R5=>?_⟩;refine ⟨l5,_,rfl, .inl (zK.of e5),?_⟩;have m5:(((rs5.map V.ref).length:Nat):Int)=(ZF ns ss false:Nat):=by rw [qA,R5.len,Yd ok,zBw]
 rw [m5];have kp5:=kp4.same g5;have pl5:=pl4.same g5;have S5:=S4.trans g5;refine ⟨_,rfl,t,_,0,_,rfl,rfl,ZD.of pl5.t,rfl,_,rfl,(by show 1<=sizeLine; decide),λl1 hl1=>?_⟩;have s1:=zE.new hl1 (.lst [.int nu]);refine ⟨a,l1,_,_,rfl,rfl,s1 _ _ pl5.a,zC,by rw [nml]; show ns.length+1<=sizeLine; exact small (by lia),λam ham=>?_⟩;have s2:=zE.new ham (.lst (ns.map V.int++[.int nu]));have eam:ns.map V.int++[.int nu]=(ns++[nu]).map V.int:=by rw [qN]; rfl
 have pl6:=(pl5.same s1).same s2;refine ⟨_,rfl,t,_,1,_,rfl,rfl,ZD.of pl6.t,rfl,yU,λtm htm=>?_⟩;have s3:=zE.new htm (.tup [.ref am, .ref b]);have g6:=s1.trans (s2.trans s3);have okm:zf (ns++[nu]) ss:=by rw [<-ins]; exact zKU ok nun nu0 (by lia)
 have lm:(ns++[nu]).length=ns.length+1:=by rw [qJ]; rfl
 have plm:zi (zH (zH (zH H5 l1 (.lst [.int nu])) am (.lst (ns.map V.int++[.int nu]))) tm (.tup [.ref am, .ref b])) tm am b (ns++[nu]) ss:=⟨zC,s3 _ _ (by rw [zC,eam]),(pl6.same s3).b,okm⟩;have nam:H am=none:=zR (S5.trans s1) ham;generalize zH (zH (zH H5 l1 (.lst [.int nu])) am (.lst (ns.map V.int++[.int nu]))) tm (.tup [.ref am, .ref b])=H6 at g6 plm ⊢;have kp6:=kp5.same g6;have S6:=S5.trans g6;clear s1 s2 s3 pl6 hl1 ham htm kp4 kp5 pl4 g5 e5 R5 m5;refine ⟨_,rfl,tm,am,b,ns++[nu],ss,rfl,plm,by lia,λl7 rs7 H7 g7 e7 R7=>?_⟩;refine ⟨l7,_,rfl, .inl (zK.of e7),?_⟩;have m7:(((rs7.map V.ref).length:Nat):Int)=(ZF (ns++[nu]) ss false:Nat):=by rw [qA,R7.len,Yd okm,zBw]
 rw [m7];have kp7:=kp6.same g7;have plm7:=plm.same g7;have S7:=S6.trans g7;have pl7:=pl.same S7;clear kp6 plm g6 g7 e7 R7 m7 S6 pl5;refine ⟨_,rfl,k,dx,_,rfl,kp7.k,rfl,_,rfl,k,dx,a4,b4,ns,ss,nu,rfl,kp7,⟨by lia,nu0,nun⟩,λt8 a8 b8 H8 e8 nt8 et8 kp8=>?_⟩;have aft:zJM ns ss nu=(ns++[nu],ss):=by show (Zj nu ns,ss)=_; rw [ins]
 rw [aft] at et8 kp8;have tmk:tm≠k:=zw plm7.t kp7.k (by intro z; cases z);have amk:am≠k:=zw plm7.a kp7.k (by intro z; cases z);have bk:b≠k:=zw plm7.b kp7.k (by intro z; cases z);have tk:t≠k:=zw pl7.t kp7.k (by intro z; cases z);have ak:a≠k:=zw pl7.a kp7.k (by intro z; cases z);have plm8:zi H8 tm am b (ns++[nu]) ss:=⟨e8 _ _ tmk plm7.t,e8 _ _ amk plm7.a,e8 _ _ bk plm7.b,okm⟩;have pl8:zi H8 t a b ns ss:=⟨e8 _ _ tk pl7.t,e8 _ _ ak pl7.a,e8 _ _ bk pl7.b,ok⟩;have S8:zE H H8:=λc o hc=>e8 c o (zF hc nkH) (S7 _ _ hc);clear e8 kp7 S7 pl7 plm7;refine ⟨_,rfl,_,rfl,yU,λt9 ht9=>?_⟩;have g9:=zE.new ht9 (.tup [.int (ZF ns ss false:Nat), .int (ZF (ns++[nu]) ss false:Nat)]);refine ⟨true,zCB (g9 _ _ et8) zC,_,rfl,ZG ?_⟩;generalize zH H8 t9 (.tup [.int (ZF ns ss false:Nat), .int (ZF (ns++[nu]) ss false:Nat)])=H9 at g9 ⊢;have kp9:=kp8.same g9;refine ⟨_,rfl,k,dx,_,rfl,kp9.k,rfl,k,dx,a8,b8,ns++[nu],ss,rfl,kp9,λt10 a10 b10 H10 g10 nt10 na10 nb10 ab10 pl10=>?_⟩;have plm10:=(plm8.same g9).same g10;refine ⟨_,rfl,true,zDG pl10.t plm10.t pl10.a pl10.b plm10.a plm10.b (λz=>by rw [z,(plm8.same g9).a] at na10; cases na10) (λz=>by rw [z,(plm8.same g9).b] at nb10; cases nb10),_,rfl,ZG ?_⟩;have kpA:=kp9.same g10;have SA:=S8.trans (g9.trans g10);have plA:=(pl8.same g9).same g10;clear kp8 kp9 pl8 plm8 S8 g9 g10 pl10 et8 nt8 nt10 na10 nb10;have bm7:(Z7 (ns++[nu]) ss).length<=823543:=by
  rw [<-Yd okm];exact qQ (qY _ _) (YO (by lia) (by lia))
 dsimp only [ZW,zCF];refine zBC (λU' H'=>∃(x8 x9:Option V) (a' b':Addr),U'=[some (.ref t),some (.int cell),some (.int nu),some (.int on),some (.ref k),some (.int (ZF ns ss false:Nat)),some (.ref tm),some (.int (ZF (ns++[nu]) ss false:Nat)),x8,x9]/\zE H H'/\Kp H' C k dx a' b' (ns++[nu]) ss) (λN hN=>?_) ?_
 .refine ⟨_,rfl,t,_,1,_,rfl,rfl,ZD.of plA.t,rfl,b,_,rfl, .inl (zK.of plA.b),_,_,rfl,rfl,_,rfl,zr (λc=>?_) (λc=>hN _ _ ⟨_,_,_,_,rfl,SA,kpA⟩)⟩
  have s10:ss.length<10:=by
   have c':=qZ c;rw [sml] at c';lia
  refine ⟨_,rfl,_,rfl,t,_,1,_,rfl,rfl,ZD.of plA.t,rfl,b,_,ss,rfl,rfl,zK.of plA.b,_,rfl,zr (λc2=>?_) (λc2=>hN _ _ ⟨_,_,_,_,rfl,SA,kpA⟩)⟩;have onn:on∉ss:=λz=>by
   rw [List.contains_iff_mem.mpr z] at c2;cases c2
  refine ⟨_,rfl,tm,_,0,_,rfl,rfl,ZD.of plm10.t,rfl,_,rfl,t,_,1,_,rfl,rfl,ZD.of plA.t,rfl,_,rfl,(by show 1<=sizeLine; decide),λl1 hl1=>?_⟩;have s1:=zE.new hl1 (.lst [.int on]);refine ⟨b,l1,_,_,rfl,rfl,s1 _ _ plA.b,zC,by rw [sml]; show ss.length+1<=sizeLine; exact small (by lia),λl2 pK=>?_⟩;have s2:=zE.new pK (.lst (ss.map V.int++[.int on]));have e2:ss.map V.int++[.int on]=(ss++[on]).map V.int:=by rw [qN]; rfl
  refine ⟨l2,ss++[on],rfl,zK.of (by rw [zC,e2]),by rw [qJ,xH]; lia,λbq ss' hbq p st=>?_⟩;rw [zDY p st ok.s.up onn];have s3:=zE.new hbq (.lst ((Zj on ss).map V.int));refine ⟨yU,λtq htq=>?_⟩;have s4:=zE.new htq (.tup [.ref am, .ref bq]);have g4:=s1.trans (s2.trans (s3.trans s4));have okq:zf (ns++[nu]) (Zj on ss):=zHT okm onn on0 s10;have plq:zi (zH (zH (zH (zH H10 l1 (.lst [.int on])) l2 (.lst (ss.map V.int++[.int on]))) bq (.lst ((Zj on ss).map V.int))) tq (.tup [.ref am, .ref bq])) tq am bq (ns++[nu]) (Zj on ss):=⟨zC,g4 _ _ plm10.a,s4 _ _ zC,okq⟩;generalize zH (zH (zH (zH H10 l1 (.lst [.int on])) l2 (.lst (ss.map V.int++[.int on]))) bq (.lst ((Zj on ss).map V.int))) tq (.tup [.ref am, .ref bq])=H11 at g4 plq ⊢;have kp11:=kpA.same g4;have S11:=SA.trans g4;clear s1 s2 s3 s4 hl1 pK hbq htq p st;refine ⟨_,rfl,tq,am,bq,ns++[nu],Zj on ss,rfl,plq,by lia,λl7 rs7 H12 g12 e7 R7=>?_⟩;rw [Yd okq] at R7;have m7:(((rs7.map V.ref).length:Nat):Int)=(ZF (ns++[nu]) (Zj on ss) false:Nat):=by rw [qA,R7.len,zBw]
  have b7:rs7.length<=823543:=by
   rw [R7.len,<-Yd okq];exact qQ (qY _ _) (YO (by lia) (by lia))
  have kp12:=kp11.same g12;have plq12:=plq.same g12;have S12:=S11.trans g12;refine ⟨_,rfl,k,dx,_,rfl,kp12.k,rfl,_,rfl,k,dx,a8,b8,ns++[nu],ss,on,rfl,kp12,⟨s10,on0,onn⟩,λt13 a13 b13 H13 e13 nt13 et13 kp13=>?_⟩;have l7k:l7≠k:=zw e7 kp12.k (by intro z; cases z);have tqk:tq≠k:=zw plq12.t kp12.k (by intro z; cases z);have amk2:am≠k:=zw plq12.a kp12.k (by intro z; cases z);have bqk:bq≠k:=zw plq12.b kp12.k (by intro z; cases z);have e713:=e13 _ _ l7k e7;have plq13:zi H13 tq am bq (ns++[nu]) (Zj on ss):=⟨e13 _ _ tqk plq12.t,e13 _ _ amk2 plq12.a,e13 _ _ bqk plq12.b,okq⟩;have R13:zq H13 rs7 (Z7 (ns++[nu]) (Zj on ss)):=⟨R7.len,λi r e=>by
   obtain ⟨o,a,b⟩:=R7.at_ i r e;exact ⟨o,a,e13 _ _ (zw b kp12.k (by intro z; cases z)) b⟩⟩
  have S13:zE H H13:=λc o hc=>e13 c o (zF hc nkH) (S12 _ _ hc);refine ⟨_,rfl,_,rfl,l7,_,rfl, .inl (zK.of e713),yU,λt14 ht14=>?_⟩;rw [m7];have g14:=zE.new ht14 (.tup [.int (ZF (ns++[nu]) ss false:Nat), .int (ZF (ns++[nu]) (Zj on ss) false:Nat)]);refine ⟨true,zCB (g14 _ _ et13) zC,_,rfl,ZG ?_⟩;generalize zH H13 t14 (.tup [.int (ZF (ns++[nu]) ss false:Nat), .int (ZF (ns++[nu]) (Zj on ss) false:Nat)])=H14 at g14 ⊢;have kp14:=Kp.same kp13 g14;have plq14:=plq13.same g14;refine ⟨_,rfl,k,dx,_,rfl,kp14.k,rfl,k,dx,a13,b13,ns++[nu],Zj on ss,rfl,kp14,λt15 a15 b15 H15 g15 nt15 na15 nb15 ab15 pl15=>?_⟩;have plq15:=plq14.same g15;refine ⟨_,rfl,true,zDG pl15.t plq15.t pl15.a pl15.b plq15.a plq15.b (λz=>by rw [z,plq14.a] at na15; cases na15) (λz=>by rw [z,plq14.b] at nb15; cases nb15),_,rfl,ZG ?_⟩;have g1415:=g14.trans g15;have kp15:=Kp.same kp13 g1415;have R15:=R13.same g1415;have e715:=g1415 _ _ e713;have S15:=S13.trans g1415;refine ⟨_,rfl,k,dx,_,rfl,kp15.k,rfl,?_⟩;dsimp only [zFq];refine zJK kp15 λrv H16 g16 hrv=>?_;obtain ⟨v1,at1,hv1⟩:=zBM rs7;refine ⟨_,rfl,(by show 1<=sizeLine; decide),λl1 hl1=>?_⟩;have u1:=zE.new hl1 (.lst [.non]);refine ⟨l7,l1,_,_,rfl,rfl,u1 _ _ (g16 _ _ e715),zC,qf (zCo (by rw [qA]; show rs7.length+1<=_; lia)),λl2 pK=>?_⟩;have u2:=zE.new pK (.lst (rs7.map V.ref++[.non]));have gu:=g16.trans (u1.trans u2);have hd1:JJ H15 rs7 (if yG (ns++[nu]) (Zj on ss) false=true then some (zAA (ns++[nu]) (Zj on ss) false) else none):=by rw [<-zGD okq]; exact R15.head
  refine ⟨l2,_,_,_,rfl,rfl,zK.of zC,at1,zCu (hrv.same (u1.trans u2)) (hd1.same gu) hv1 ⟨_,rfl,ZG ?_⟩⟩;generalize zH (zH H16 l1 (.lst [.non])) l2 (.lst (rs7.map V.ref++[.non]))=H17 at gu ⊢;have kp17:=kp15.same gu;have S17:=S15.trans gu;have e717:=gu _ _ e715;refine ⟨_,rfl,k,dx,_,rfl,kp17.k,rfl,_,rfl,k,dx,a13,b13,ns++[nu],Zj on ss,on,rfl,kp17,(js _ _ _).mpr (.inl rfl),λt18 a18 b18 H18 e18 nt18 et18 kp18=>?_⟩;have back:zIw (ns++[nu]) (Zj on ss) on=(ns++[nu],ss):=by show (ns++[nu],je on (Zj on ss))=_; rw [zEd onn]
  rw [back] at et18 kp18;have l7k2:l7≠k:=zw e717 kp17.k (by intro z; cases z);have S18:zE H H18:=λc o hc=>e18 c o (zF hc nkH) (S17 _ _ hc);refine ⟨_,rfl,l7,_,rfl, .inl (zK.of (e18 _ _ l7k2 e717)),_,rfl,yU,λt19 ht19=>?_⟩;rw [m7];have g19:=zE.new ht19 (.tup [.int (ZF (ns++[nu]) (Zj on ss) false:Nat), .int (ZF (ns++[nu]) ss false:Nat)]);refine ⟨true,zCB (g19 _ _ et18) zC,_,rfl,ZG ?_⟩;exact hN _ _ ⟨_,_,_,_,rfl,S18.trans g19,Kp.same kp18 g19⟩
 rintro U1 H20 ⟨x8,x9,a',b',rfl,S20,kp20⟩;refine ⟨_,rfl,k,dx,_,rfl,kp20.k,rfl,_,rfl,k,dx,a',b',ns++[nu],ss,nu,rfl,kp20,⟨List.mem_append.mpr (.inr qE),by lia⟩,λt21 a21 b21 H21 e21 nt21 et21 kp21=>?_⟩;have back:zJP (ns++[nu]) ss nu=(ns,ss):=by show (je nu (ns++[nu]),ss)=_; rw [<-ins,zEd nun]
 rw [back] at et21 kp21;have S21:zE H H21:=λc o hc=>e21 c o (zF hc nkH) (S20 _ _ hc);refine ⟨_,rfl,_,rfl,yU,λt22 ht22=>?_⟩;have g22:=zE.new ht22 (.tup [.int (ZF (ns++[nu]) ss false:Nat), .int (ZF ns ss false:Nat)]);refine ⟨true,zCB (g22 _ _ et21) zC,_,rfl,ZG ?_⟩;generalize zH H21 t22 (.tup [.int (ZF (ns++[nu]) ss false:Nat), .int (ZF ns ss false:Nat)])=H22 at g22 ⊢;have kp22:=Kp.same kp21 g22;have S22:=S21.trans g22;have pl22:=pl.same S22;refine ⟨_,rfl,k,dx,_,rfl,kp22.k,rfl,k,dx,a21,b21,ns,ss,rfl,kp22,λt23 a23 b23 H23 g23 nt23 na23 nb23 ab23 pl23=>?_⟩;have plq:=pl22.same g23;refine ⟨_,rfl,true,zDG pl23.t plq.t pl23.a pl23.b plq.a plq.b (λz=>by rw [z,pl22.a] at na23; cases na23) (λz=>by rw [z,pl22.b] at nb23; cases nb23),_,rfl,Yu ?_⟩;refine ⟨_,rfl,k,dx,_,rfl,(kp22.same g23).k,rfl,k,dx,a21,b21,ns,ss,rfl,kp22.same g23,λH24 g24=>?_⟩;refine ⟨_,rfl,rfl,?_⟩;have e:decide (V.int (ZF ns ss false:Nat)=V.int (ZF ns ss false:Nat))=true:=qK rfl;rw [e];exact q _ (S22.trans (g23.trans g24))
end
abbrev zLF:Stmt:=top 83
def YN (ks:List Nat) (rs:List Addr):List (zZ×V):=(ks.zip rs).map λx=>(Sum.inl ((x.1:Nat):Int),V.ref x.2)
theorem zNe (h:ks.length=rs.length) (k:Nat) (r:Addr):YN (ks++[k]) (rs++[r])=YN ks rs++[(Sum.inl ((k:Nat):Int),V.ref r)]:=by
 unfold YN;rw [List.zip_append h,qN];rfl
theorem zOb {k:Nat} (h:ks.length=rs.length) (n:k∉ks) (r:Addr):Zd (YN ks rs) (Sum.inl ((k:Nat):Int)) (.ref r)=YN (ks++[k]) (rs++[r]):=by
 rw [zNe h];unfold Zd;rw [qP ?_];intro z;obtain ⟨e,he,c⟩:=List.any_eq_true.mp z;obtain ⟨x,hx,rfl⟩:=List.mem_map.mp he;have c':(Sum.inl ((x.1:Nat):Int):zZ)=Sum.inl ((k:Nat):Int):=qZ c;have c2:x.1=k:=by have:=Sum.inl.inj c'; lia
 exact n (by rw [<-c2]; exact (vJ (show (x.1,x.2)∈ks.zip rs from hx)).1)
theorem zBv (h:ks.length=rs.length):(YN ks rs).length=ks.length:=by
 unfold YN;rw [qA,List.length_zip,<-h,Nat.min_self]
theorem zGH (nd:zs.Nodup) {k:Nat} (h:k<zs.length - 2):zY ss (zs.getD k 0) (zs.getD (zs.length - 1) 0)=ss.contains (zs.getD k 0+zs.getD (zs.length - 1) 0):=by
 unfold zY;rw [qK (zEN nd (by lia) (by lia) (by lia)),QJ]
inductive zHs (vs:List V) (H:Hp) (Q:VK) (E:XK):Prop
 | mk (t a b r:Addr) (ns ss zs:List Int):vs=[.ref t, .ref r]->zi H t a b ns ss->H r=some (.lst (zs.map V.int))->zs.length<=20->zs≠[]->zs.Nodup->(∀(d:Addr) (rs:List Addr) (H':Hp),zE H H'->H d=none->H' d=some (.dK (YN (ZI ss zs) rs))->(∀r∈rs,H r=none/\r≠d)->zq H' rs ((ZI ss zs).map (Zf zs))->Q (.ref d) H')->zHs vs H Q E
theorem zJC:FS 2 ["plan","part","found","p"] zLF:=zm
theorem zPc (F:Fu K "_law_turned" zLF f fd) (B:jP mg):FnOk P w K mg base zU 1 f fd ["plan","part"] zHs:=by
 refine F.ok zJC ?_ ?_
 .rintro _ _ _ _ ⟨t,a,b,r,ns,ss,zs,rfl,_⟩
  rfl
 rintro _ A _ s H _ Q E hr ⟨t,a,b,r,ns,ss,zs,rfl,pl,er,z20,zne,nd,q⟩;have zml:(zs.map V.int).length=zs.length:=qA _;have hu:=zAD hr;refine ⟨_,(zD (zt 2 zJC.nd zGS) (zD (Zq qi rfl (yx rfl B.range (zA (zS yc (zP zQ rfl B.len qU (zA (pv 1) zB)) zJ) zB)) (Yk 3 zJC.nd) (zG (zd (zT (Y3 K) (zS ZA (zz zx (pv 1) (pv 3)) (zz zx (pv 1) (Y9 Yc zJ))) (zz zh (pv 0) zJ) rfl) (zG (j8 hu (pv 2) (pv 3) (zS Yt (j6 Ji (pv 1) Jd (Je (zS ZA (pv 3) zJ))) (zPJ (j6 Ji (pv 1) (Je (zS ZA (pv 3) zJ)) Jd))) rfl)) zW))) (zG (zM (pv 2))))),?_⟩;refine λd hd=>?_;have g0:=zE.new hd (.dK []);have e0:zH H d (.dK []) d=some (.dK (YN [] [])):=zC;generalize zH H d (.dK [])=H0 at g0 e0 ⊢;refine ⟨_,rfl,r,_,rfl, .inl (zK.of (g0 _ _ er)),_,_,rfl,rfl,_,rfl,by rw [zml]; lia,by rw [zml]; lia,?_⟩;have en:(((zs.map V.int).length:Int) - 2).toNat=zs.length - 2:=by rw [zml]; lia
 rw [en];refine yv (lo:=0) (n:=zs.length - 2) (λi U H'=>∃(x3:Option V) (rs:List Addr),U=[some (.ref t),some (.ref r),some (.ref d),x3]/\zE H H'/\H' d=some (.dK (YN ((List.range i).filter λk=>zY ss (zs.getD k 0) (zs.getD (zs.length - 1) 0)) rs))/\(∀r∈rs,H r=none/\r≠d)/\zq H' rs (((List.range i).filter λk=>zY ss (zs.getD k 0) (zs.getD (zs.length - 1) 0)).map (Zf zs)))
  ⟨_,[],rfl,g0,e0,nofun,zq.nil⟩ ?_ ?_
 .rintro i U H1 hi ⟨x3,rs,rfl,g1,e1,n1,R1⟩
  have h1:YH (zs.map V.int) (0+(i:Int))=some (.int (zs.getD i 0)):=by rw [xP]; exact zAX zs (by lia)
  have pl1:=pl.same g1;have er1:=g1 _ _ er;have JI:∀c:Bool,zY ss (zs.getD i 0) (zs.getD (zs.length - 1) 0)=c->((List.range (i+1)).filter λk=>zY ss (zs.getD k 0) (zs.getD (zs.length - 1) 0))=((List.range i).filter λk=>zY ss (zs.getD k 0) (zs.getD (zs.length - 1) 0))++if c=true then [i] else []:=λc hc=>by
   rw [xO,qz,qh,hc];cases c <;> rfl
  refine ⟨_,rfl,_,rfl,r,_,_,_,rfl,rfl,zK.of er1,h1,_,rfl,_,rfl,r,_,_,_,rfl,rfl,zK.of er1,zFQ zs zne,_,_,rfl,rfl,_,rfl,t,_,1,_,rfl,rfl,ZD.of pl1.t,rfl,b,_,ss,rfl,rfl,zK.of pl1.b,_,rfl,zr (λc=>?_) (λc=>?_)⟩
  .have c':zY ss (zs.getD i 0) (zs.getD (zs.length - 1) 0)=true:=by rw [zGH nd hi]; exact c
   have ei:0+(i:Int)=((i:Nat):Int):=xP _;refine ⟨_,rfl,_,rfl,_,_,rfl,rfl,_,rfl,r,_,rfl,zK.of er1,λc1 hc1=>?_⟩;have ec1:JO (zs.map V.int) none (some (0+(i:Int)+1))=(zs.take (i+1)).map V.int:=by rw [ei]; exact zHb zs i
   have ec2:JO (zs.map V.int) (some (0+(i:Int)+1)) none=(zs.drop (i+1)).map V.int:=by rw [ei]; exact zDA zs i
   rw [ec1];have s1:=zE.new hc1 (.lst ((zs.take (i+1)).map V.int));refine ⟨_,rfl,_,rfl,_,_,rfl,rfl,_,rfl,r,_,rfl,zK.of (s1 _ _ er1),λc2 hc2=>?_⟩;rw [ec2];have s2:=zE.new hc2 (.lst ((zs.drop (i+1)).map V.int));refine ⟨c2,_,rfl,zK.of zC,λc3 hc3=>?_⟩;have s3:=zE.new hc3 (.lst ((zs.drop (i+1)).map V.int).reverse);refine ⟨c1,c3,_,_,rfl,rfl,s3 _ _ (s2 _ _ zC),zC,by rw [Qh,qA,qA,QC,Qg]; exact small (by lia),λo ho=>?_⟩;have s4:=zE.new ho (.lst ((zs.take (i+1)).map V.int++((zs.drop (i+1)).map V.int).reverse));have gg:=s1.trans (s2.trans (s3.trans s4));have eo:((zs.take (i+1)).map V.int++((zs.drop (i+1)).map V.int).reverse)=(Zf zs i).map V.int:=by unfold Zf; rw [qN,List.map_reverse]
   have nO:H o=none:=zR (g1.trans (s1.trans (s2.trans s3))) ho;have oD:o≠d:=λz=>by
    have:=s3 _ _ (s2 _ _ (s1 _ _ e1));rw [<-z,ho] at this;cases this
   have e5:=gg _ _ e1;have R5:=R1.same gg;have x5:(zH (zH (zH (zH H1 c1 (.lst ((zs.take (i+1)).map V.int))) c2 (.lst ((zs.drop (i+1)).map V.int))) c3 (.lst ((zs.drop (i+1)).map V.int).reverse)) o (.lst ((zs.take (i+1)).map V.int++((zs.drop (i+1)).map V.int).reverse))) o=some (.lst ((Zf zs i).map V.int)):=by rw [zC,eo]
   generalize zH (zH (zH (zH H1 c1 (.lst ((zs.take (i+1)).map V.int))) c2 (.lst ((zs.drop (i+1)).map V.int))) c3 (.lst ((zs.drop (i+1)).map V.int).reverse)) o (.lst ((zs.take (i+1)).map V.int++((zs.drop (i+1)).map V.int).reverse))=H5 at gg e5 R5 x5 ⊢;have kl:((List.range i).filter λk=>zY ss (zs.getD k 0) (zs.getD (zs.length - 1) 0)).length=rs.length:=by rw [R1.len,qA]
   have ni:i∉((List.range i).filter λk=>zY ss (zs.getD k 0) (zs.getD (zs.length - 1) 0)):=λz=>by have:=List.mem_range.mp (List.mem_filter.mp z).1; lia
   have k20:(YN ((List.range i).filter λk=>zY ss (zs.getD k 0) (zs.getD (zs.length - 1) 0)) rs).length<=1000:=by
    rw [zBv kl];refine qQ (qY _ _) ?_;rw [QB];lia
   refine ⟨_,rfl,_,rfl,d,_,rfl,by rw [show (0+(i:Int))=((i:Nat):Int) from xP _]; exact jp.k (k:=Sum.inl ((i:Nat):Int)) e5 (by rw [Ql]; lia),?_⟩;rw [zOb kl ni];refine ⟨_,rs++[o],rfl,λx u hx=>?_,?_,λr' hr'=>?_,?_⟩
   .rw [zI (zF hx hd)]
    exact gg _ _ (g1 _ _ hx)
   .rw [zC,JI _ c',qO rfl]
   .rcases List.mem_append.mp hr' with z | z
    .exact n1 r' z
    .rw [List.mem_singleton.mp z]
     exact ⟨nO,oD⟩
   .rw [JI _ c',qO rfl,qN]
    refine zq.append (R5.put λz=>(n1 d z).2 rfl) (zq.one ?_);rw [zI oD];exact x5
  .have c':zY ss (zs.getD i 0) (zs.getD (zs.length - 1) 0)=false:=by
    rw [zGH nd hi];cases e:ss.contains (zs.getD i 0+zs.getD (zs.length - 1) 0) with
    | true=>exact v6 e c
    | false=>rfl
   refine ⟨_,rs,rfl,g1,?_,n1,?_⟩ <;> rw [JI _ c',qP qR,qv]
   .exact e1
   .exact R1
 .rintro U H1 ⟨x3,rs,rfl,g1,e1,n1,R1⟩
  exact ⟨_,rfl,q d rs H1 g1 hd e1 n1 R1⟩
abbrev zLC:Stmt:=ZL (top 62) 0
abbrev sMs:Stmt:=ZL (top 62) 1
abbrev sMb:Stmt:=ZL (top 62) 2
structure RcT (K:W.Frag) (C:Addr):Prop extends SrT K C where
 nK:ZM K C "known"
def mxN:List Nat->Nat
 | []=>0
 | a::r=>max a (mxN r)
theorem zDd:∀{l:List Nat} {x:Nat},x∈l->x<=mxN l
 | a::r,x,h=>by
  unfold mxN;rcases List.mem_cons.mp h with z | z
  .lia
  .have:=zDd z
   lia
theorem zEX:∀{l:List Nat},l≠[]->mxN l∈l
 | [a],_=>by unfold mxN mxN; rw [Nat.max_zero]; exact qE
 | a::b::r,_=>by
  unfold mxN;rcases Nat.le_total a (mxN (b::r)) with z | z
  .rw [Nat.max_eq_right z]; exact qF _ (zEX nofun)
  .rw [Nat.max_eq_left z]; exact qE
theorem zKn (l:List Nat):zAz 0 (l.map λk:Nat=>(k:Int))=((mxN l:Nat):Int):=by
 by_cases h:l=[]
 .rw [h]; rfl
 .refine zMk (List.mem_map.mpr ⟨_,zEX h,rfl⟩) λx hx=>?_
  obtain ⟨k,hk,rfl⟩:=List.mem_map.mp hx;have:=zDd hk;lia
section
variable (near:Nat->List Nat)
def zMa:Nat->Nat->Nat->Nat
 | 0,_,_=>0
 | m+1,left,e=>mxN (((near e).filter λk=>left.testBit k).map λk=>1+zMa m (left - 2^k) k)
def Zn (left e:Nat):Nat:=zMa near (ZV left) left e
variable {near}
theorem zDZ (N:zu near n) (hl:left<1024) (he:e<=n):Zn near left e=mxN (((near e).filter λk=>left.testBit k).map λk=>1+Zn near (left - 2^k) k):=by
 unfold Zn;cases hc:ZV left with
 | zero=>
  rw [yC left hl hc];have:(near e).filter (λk=>(0:Nat).testBit k)=[]:=List.filter_eq_nil_iff.mpr λk _=>by rw [X9]; exact qR
  rw [this];rfl
 | succ m=>
  show mxN (((near e).filter λk=>left.testBit k).map λk=>1+zMa near m (left - 2^k) k)=_;congr 1;refine QK λk hk=>?_;obtain ⟨hk1,hb⟩:=List.mem_filter.mp hk;have:=(ZQ left hl k (qd (N.lt e he k hk1) N.n10) hb).1;have em:ZV (left - 2^k)=m:=by lia
  rw [em]
end
section
variable (n:Nat) (near:Nat->List Nat)
structure JX (pB:List (List zZ×V)):Prop where
 nd:(pB.map (·.1)).Nodup
 ok:∀kv∈pB,∃l e,kv.1=ky l e/\l<2^n/\e<=n/\kv.2= .int (Zn near l e:Nat)
variable {n near}
theorem zFC:JX n near []:=⟨qr,nofun⟩
theorem JX.val (M:JX n near pB) {l:Nat} (h:ZJ pB (ky l e)=some v):v= .int (Zn near l e:Nat):=by
 obtain ⟨l',e',h1,_,_,h2⟩:=M.ok _ (zET h);obtain ⟨rfl,rfl⟩:=zDV h1;exact h2
theorem JX.len (M:JX n near pB) (hn:n<=10):pB.length<sizeLine:=by
 refine zCZ M.nd (λkv h=>?_) hn;obtain ⟨l,e,h1,h3,h4,_⟩:=M.ok kv h;exact ⟨l,e,h1,h3,h4⟩
theorem JX.put (M:JX n near pB) {l:Nat} (hl:l<2^n) (he:e<=n):JX n near (Zd pB (ky l e) (.int (Zn near l e:Nat))):=by
 refine ⟨?_,?_⟩
 .cases hv:ZJ pB (ky l e) with
  | none=>
   rw [J2 _ hv,qN];refine List.nodup_append.mpr ⟨M.nd,by simp,λa ha b hb hab=>?_⟩;have eb:b=ky l e:=by simpa using hb
   subst eb;subst hab;obtain ⟨kv,h1,h2⟩:=List.mem_map.mp ha;have h3:=yR (ky l e) pB;rw [hv] at h3;have h4:(pB.any λkv=>decide (kv.1=ky l e))=true:=List.any_eq_true.mpr ⟨kv,h1,qK h2⟩;rw [h4] at h3;cases h3
  | some v=>
   unfold Zd;rw [yR,hv];rw [qO (show (some v).isSome=true from rfl),qo];have:(pB.map ((λx:List zZ×V=>x.1) ∘ λkv=>if kv.1=ky l e then (kv.1,V.int (Zn near l e:Nat)) else kv))=pB.map (·.1):=by
    refine QK λkv _=>?_;show (if kv.1=ky l e then (kv.1,V.int (Zn near l e:Nat)) else kv).1=kv.1;split <;> rfl
   rw [this];exact M.nd
 .intro kv h
  unfold Zd at h;split at h
  .obtain ⟨kv',h1,h2⟩:=List.mem_map.mp h
   by_cases z:kv'.1=ky l e
   .rw [qO z] at h2
    rw [<-h2];exact ⟨l,e,z,hl,he,rfl⟩
   .rw [qP z] at h2
    rw [<-h2];exact M.ok kv' h1
  .rcases List.mem_append.mp h with z | z
   .exact M.ok kv z
   .have z:kv=(ky l e,V.int (Zn near l e:Nat)):=by simpa using z
    rw [z];exact ⟨l,e,rfl,hl,he,rfl⟩
end
structure RP where
 n:Nat
 near:Nat->List Nat
 s:Addr
 dx:Addr
 nr:Addr
 ow:Addr
def fsR (p:RP):List (Str×V):=[("ahead", .int p.n),("near", .ref p.nr),("whole", .int ((2^p.n - 1:Nat):Int)),("known", .ref p.ow)]
structure Ze (C:Addr) (p:RP) (H:Hp):Prop where
 at_:H p.s=some (.ins C p.dx (fsR p))
 nr:Y8 H p.nr p.n p.near
 ok:zu p.near p.n
def yT (p:RP) (H:Hp) (pB:List (List zZ×V)):Prop:=H p.ow=some (.dT pB)/\JX p.n p.near pB
theorem Ze.ex {p:RP} (S:Ze C p H) (hk:H p.ow=some (.dT pB)) (g:Ex (·=p.ow) H H'):Ze C p H':=by
 have ne:∀{b o},H b=some o->(∀pB,o≠ .dT pB)->H' b=some o:=λ{b o} h d=>g b o (λz=>d pB (by rw [z,hk] at h; exact (Option.some.inj h).symm)) h;obtain ⟨rs,q1,q2,q3⟩:=S.nr;exact ⟨ne S.at_ (λ_ z=>by cases z),⟨rs,q1,ne q2 (λ_ z=>by cases z),λe he=>let ⟨r,a,b⟩:=q3 e he; ⟨r,a,ne b (λ_ z=>by cases z)⟩⟩,S.ok⟩
theorem Ze.lt {p:RP} (S:Ze C p H) (h:left<2^p.n):left<1024:=qd h (Y5 _ (X1 S.ok.n10))
inductive zAw (C:Addr) (m:Nat) (vs:List V) (H:Hp) (Q:VK) (E:XK):Prop
 | mk (p:RP) (pB:List (List zZ×V)) (left e:Nat):vs=[.ref p.s, .int left, .int e]->Ze C p H->yT p H pB->left<2^p.n->ZV left<=m->e<=p.n->(∀(H':Hp) (pC:List (List zZ×V)),Ex (·=p.ow) H H'->yT p H' pC->Q (.int (Zn p.near left e:Nat)) H')->zAw C m vs H Q E
inductive zJB (C:Addr) (m:Nat) (vs:List V) (H:Hp) (Q:VK) (E:XK):Prop
 | mk (p:RP) (pB:List (List zZ×V)) (left k:Nat):vs=[.ref p.s, .int left, .int k]->Ze C p H->yT p H pB->left<2^p.n->left.testBit k=true->k<p.n->ZV left<=m->(∀(H':Hp) (pC:List (List zZ×V)),Ex (·=p.ow) H H'->yT p H' pC->Q (.int ((1+Zn p.near (left - 2^k) k:Nat):Int)) H')->zJB C m vs H Q E
inductive zFR (C:Addr) (vs:List V) (H:Hp) (Q:VK) (E:XK):Prop
 | mk (s t a b dx:Addr) (ns ss:List Int):vs=[.ref s, .ref t]->H s=some (.ins C dx [])->zi H t a b ns ss->(∀(nr ow:Addr) (H':Hp),Ex (·=s) H H'->H ow=none->H' s=some (.ins C dx [("ahead", .int ns.length),("near", .ref nr),("whole", .int ((2^ns.length - 1:Nat):Int)),("known", .ref ow)])->Y8 H' nr ns.length (zO ns ss (List.range ns.length))->H' ow=some (.dT [])->Q .non H')->zFR C vs H Q E
theorem zSk:FS 3 ["self","left","place"] sMb:=zm
theorem zNt (F:Zv K "most_by" "Reach.most_by" sMb f fd) (T:RcT K C) (mW:ZC K C "most" g1)
  (GW:FnOk P w K mg base zU j g1 pH ["self","left","end"] (zAw C m)) (bW:zX K pH ["self","left","end"] []):FnOk P w K mg base zU (j+1) f fd ["self","left","place"] (zJB C (m+1)):=by
 refine F.ok zSk ?_ ?_
 .rintro _ _ _ _ ⟨p,pB,left,k,rfl,_⟩
  rfl
 rintro _ A _ s H _ Q E hr ⟨p,pB,left,k,rfl,S,hd,hl,hb,hk,hc,q⟩;refine ⟨_,(zG (zM (zS ZA zJ (zy (pv 0) T.cl mW GW hr bW .nil ze (zA (zS yc (pv 1) (zS jc zJ (pv 2))) (zA (pv 2) zB)))))),?_⟩;have n10:=S.ok.n10;have hdec:=ZQ left (S.lt hl) k (by lia) hb;refine ⟨_,rfl,p.s,p.dx,_,rfl,S.at_,rfl,_,rfl,_,rfl,_,_,rfl,rfl,⟨by show (0:Int)<=(k:Int); lia,by show (k:Int)<=1000000; lia,by decide⟩,_,_,rfl,rfl,_,rfl,?_⟩;refine ⟨p,pB,left - 2^k,k,Qe (λx=>[V.ref p.s,V.int x,V.int (k:Int)]) (JD left k (Y6 hb)),S,hd,by lia,by lia,by lia,λH' pC ex pO=>⟨_,_,rfl,rfl,?_⟩⟩;have z:=q H' pC ex pO;rw [Int.natCast_add] at z;exact z
theorem zIF:FS 3 ["self","left","end","key"] sMs:=zm
theorem zNj (F:Zv K "most" "Reach.most" sMs f fd) (B:jP mg) (T:RcT K C) (mB:ZC K C "most_by" g1) (mS:ZC K C "steps" g2)
  (GB:FnOk P w K mg base zU j g1 pH ["self","left","place"] (zJB C m)) (bB:zX K pH ["self","left","place"] [])
  (GS:FnOk P w K mg base zU j g2 pI ["self","left","end"] (YI C)) (bS:zX K pI ["self","left","end"] []):FnOk P w K mg base zU (j+1) f fd ["self","left","end"] (zAw C m):=by
 refine F.ok zIF ?_ ?_
 .rintro _ _ _ _ ⟨p,pB,left,e,rfl,_⟩
  rfl
 rintro _ A _ s H _ Q E hr ⟨p,pB,left,e,rfl,S,hd,hl,hc,he,q⟩;have hu:=zAD hr;refine ⟨_,(zD (zt 3 zIF.nd (ya (zA (pv 1) (zA (pv 2) zB)))) (zD (zd (zBo (JG hu (pv 3) (zk (pv 0) rfl))) (zG (j8 hu (zk (pv 0) rfl) (pv 3) (zOF rfl rfl B.max (ZR ["place"] rfl (bk zIF) (zj (zy (pv 0) T.cl mS GS hr bS .nil ze (zA (pv 1) (zA (pv 2) zB)))) (λpA C fp s3 H3=>⟨(yI zIF),yN,(zy (pv 1) T.cl mB GB hr bB .nil ze (zA (pv 2) (zA (pv 0) zB)))⟩))) rfl)) zW) (zG (zM (Jg hu (zk (pv 0) rfl) (pv 3) (λ_ _=>rfl)))))),?_⟩;refine ⟨_,rfl,_,rfl,yU,λkt hkt=>?_⟩;have gk:zE H (zH H kt (.tup [.int (left:Int), .int (e:Int)])):=zE.new hkt _;have S1:Ze C p (zH H kt (.tup [.int (left:Int), .int (e:Int)])):=S.ex hd.1 (Ex.same gk);have hd1:yT p (zH H kt (.tup [.int (left:Int), .int (e:Int)])) pB:=⟨gk _ _ hd.1,hd.2⟩;have hk1:(zH H kt (.tup [.int (left:Int), .int (e:Int)])) kt=some (.tup ((ky left e).map kV)):=zC;have ex1:Ex (·=p.ow) H (zH H kt (.tup [.int (left:Int), .int (e:Int)])):=Ex.same gk;generalize zH H kt (.tup [.int (left:Int), .int (e:Int)])=H1 at S1 hd1 hk1 ex1 ⊢;refine ⟨_,rfl,_,rfl,p.s,C,p.dx,_,_,rfl,S1.at_,T.cl,T.nK,rfl,p.ow,_,rfl,YX.t hd1.1 hk1,_,rfl,zr (λc2=>?_) (λc2=>?_)⟩
 .have hl':=S.lt hl
  have n10:=S.ok.n10;refine ⟨_,rfl,p.s,p.dx,_,rfl,S1.at_,rfl,_,rfl,_,rfl,p.s,p.dx,p.nr,_,p.n,p.near,left,e,rfl,S1.at_,rfl,S1.nr,S1.ok,he,hl',λl H2 g2 hln e2=>⟨l,rfl,⟨_,zK.of e2⟩,λD hD=>?_⟩⟩;have pN:yT p H2 pB:=⟨g2 _ _ hd1.1,hd1.2⟩;have lo:l≠p.ow:=zw e2 pN.1 (by intro z; cases z);have Do:p.ow≠D:=zF pN.1 hD;have lD:l≠D:=zF e2 hD;have klen:((p.near e).filter λk=>left.testBit k).length<=10:=qQ (qY _ _) (qQ (jy S.ok he) n10);obtain ⟨ks,eks⟩:∃ks,ks=(p.near e).filter λk=>left.testBit k:=⟨_,rfl⟩;have ew:=zDZ S.ok hl' he;have hmem:∀k∈ks,k<p.n/\left.testBit k=true:=λk hk=>by
   rw [eks] at hk;obtain ⟨h1,h2⟩:=List.mem_filter.mp hk;exact ⟨S.ok.lt e he k h1,h2⟩
  rw [<-eks] at e2 klen ew;have kml:((iv ks).map V.int).length=ks.length:=by rw [qA,yV]
  refine Zy (n:=ks.length) (λi U' H'=>∃(x:Option V) (pC:List (List zZ×V)),U'=[x,some (.ref p.s),some (.int left),some (.int e),some (.ref kt)]/\Ex (·=p.ow) H2 H'/\yT p H' pC/\H' D=some (.lst (((ks.take i).map λk=>((1+Zn p.near (left - 2^k) k:Nat):Int)).map V.int)))
   ⟨none,pB,rfl,Ex.new _ hD,⟨by rw [zI Do]; exact pN.1,pN.2⟩,zC⟩ ?_ ?_
  .rintro i U' H' hi ⟨x,pC,rfl,ex,pO,hD'⟩
   have ek:ks[i]?=some ks[i]:=qB hi;obtain ⟨hkn,hb⟩:=hmem _ (qg hi);have el2:=ex _ _ lo e2;refine ⟨⟨_,_,zK.of el2,yb ek⟩,λy H3 hy=>?_⟩;obtain ⟨rfl,hy⟩:=hy;have ey:=hy _ (zK.of el2);rw [yb ek] at ey;cases ey;refine JF ?_;have S':Ze C p H3:=(S1.ex hd1.1 (Ex.same g2)).ex pN.1 ex;refine ⟨_,rfl,p.s,p.dx,_,rfl,S'.at_,rfl,_,rfl,_,rfl,p,pC,left,ks[i],rfl,S',pO,hl,hb,hkn,hc,λH4 kvs4 ex4 hk4=>?_⟩;have hD4:=ex4 _ _ (Ne.symm Do) hD';refine ⟨_,hD4,Zb (by rw [qA,qA,QC]; lia),_,kvs4,rfl,λc o hc ho=>?_,⟨by rw [zI Do]; exact hk4.1,hk4.2⟩,?_⟩
   .rw [zI (zF ho hD)]
    exact ex4 _ _ hc (ex _ _ hc ho)
   .rw [zC,QR,ek,qN,qN]
    rfl
  .rintro U' H' ⟨x,pC,rfl,ex,pO,hD'⟩
   have el2:=ex _ _ lo e2;refine ⟨⟨_,zK.of el2,by rw [kml]; exact qG _⟩,?_⟩;rw [q9 (qG _)] at hD';refine ⟨D,_,rfl,zK.of hD',?_⟩;have S':Ze C p H':=(S1.ex hd1.1 (Ex.same g2)).ex pN.1 ex;have hk2:H' kt=some (.tup ((ky left e).map kV)):=ex _ _ (zw (g2 _ _ hk1) pN.1 (by intro z; cases z)) (g2 _ _ hk1);have esum:zAz 0 (ks.map λk=>((1+Zn p.near (left - 2^k) k:Nat):Int))=((Zn p.near left e:Nat):Int):=by
    rw [ew,<-zKn,qo];rfl
   refine ⟨_,rfl,p.s,C,p.dx,_,_,rfl,S'.at_,T.cl,T.nK,rfl,_,rfl,p.ow,_,rfl,jp.t pO.1 hk2 (pO.2.len S.ok.n10),?_⟩;rw [esum];have M3:=pO.2.put hl he;have ex3:Ex (·=p.ow) H' (zH H' p.ow (.dT (Zd pC (ky left e) (.int (Zn p.near left e:Nat))))):=Ex.put _ rfl;have S3:=S'.ex pO.1 ex3;have hk3:=ex3 _ _ (zw hk2 pO.1 (by intro z; cases z)) hk2;refine ⟨_,rfl,p.s,C,p.dx,_,_,rfl,S3.at_,T.cl,T.nK,rfl,_,rfl,p.ow,_,rfl,by have z:=YX.t (zC (H:=H') (a:=p.ow) (o:= .dT (Zd pC (ky left e) (.int (Zn p.near left e:Nat))))) hk3; rw [jC,qO rfl] at z; exact z,?_⟩;exact q _ _ (((ex1.trans (Ex.same g2)).trans ex).trans ex3) ⟨zC,M3⟩
 .cases ev:ZJ pB (ky left e) with
  | none=>rw [ev] at c2; exact v6 rfl c2
  | some v=>
   have hv:=hd.2.val ev;refine ⟨_,rfl,p.s,C,p.dx,_,_,rfl,S1.at_,T.cl,T.nK,rfl,_,rfl,p.ow,_,rfl,by have z:=YX.t hd1.1 hk1; rw [ev] at z; exact z,?_⟩;rw [hv];exact q _ _ ex1 hd1
theorem zEA {wa wb sf:Addr} {wd wbd sfd:FuncData} (FW:Zv K "most" "Reach.most" sMs wa wd) (FB:Zv K "most_by" "Reach.most_by" sMb wb wbd) (B:jP mg) (T:RcT K C) (mW:ZC K C "most" wa) (mB:ZC K C "most_by" wb) (mS:ZC K C "steps" sf)
  (GS:FnOk P w K mg base zU 1 sf sfd ["self","left","end"] (YI C)) (bS:zX K sfd ["self","left","end"] []) (bW:zX K wd ["self","left","end"] []) (bB:zX K wbd ["self","left","place"] []):
  ∀m:Nat,FnOk P w K mg base zU (2*m+2) wa wd ["self","left","end"] (zAw C m)
 | 0=>zNj (j:=1) FW B T mB mS ⟨λvs H Q E h=>by obtain ⟨p,pB,left,k,rfl,_⟩:=h; rfl,λA outer s H args us vs Q E _ _ _ _ h=>by
   obtain ⟨p,pB,left,k,_,S,_,hl,hb,hk,hc,_⟩:=h;have n10:=S.ok.n10;have:=(ZQ left (S.lt hl) k (by lia) hb).1;lia⟩ bB GS bS
 | m+1=>by
  have GW:=zEA FW FB B T mW mB mS GS bS bW bB m;have GB:=zNt (j:=2*m+2) FB T mW GW bW;exact zNj (j:=2*m+3) FW B T mB mS GB bB (GS.mono (by lia)) bS
theorem zRh:FS 2 ["self","plan"] zLC:=zm
theorem zQC (F:Zv K "__init__" "Reach.__init__" zLC f fd) (T:RcT K C) (BI:zHt K C0 mc "__init__" g1) (mI:mg "Steps"=some (.ref C0))
  (GI:FnOk P w K mg base zU 3 g1 pH ["self","plan","first_places"] (zBf C)) (bI:zX K pH ["self","plan","first_places"] [])
  (GA:Gd P w K mg base 3 g2 pI ["plan"] zBR "all_places"):FnOk P w K mg base zU 4 f fd ["self","plan"] (zFR C):=by
 refine F.ok zRh ?_ ?_
 .rintro _ _ _ _ ⟨s,t,a,b,dx,ns,ss,rfl,_⟩
  rfl
 rintro _ A _ s H _ Q E hr ⟨s,t,a,b,dx,ns,ss,rfl,hs,pl,q⟩;refine ⟨_,(zD (zo (zEJ BI GI hr rfl mI bI .nil ze (zA (pv 0) (zA (pv 1) (zA (zL GA hr (zA (pv 1) zB)) zB))))) (zG (Ya (pv 0) zAj rfl))),?_⟩;refine ⟨_,rfl,_,rfl,_,rfl,t,a,b,ns,ss,rfl,pl,λfp hfp=>?_⟩;have g0:zE H (zH H fp (.lst ((iv (List.range ns.length)).map V.int))):=zE.new hfp _;refine ⟨s,t,a,b,fp,dx,ns,ss,List.range ns.length,rfl,g0 _ _ hs,pl.same g0,zC,λnr H1 ex1 s1 na1=>?_⟩;refine λow how=>?_;have ow_s:ow≠s:=λz=>by rw [z,s1] at how; cases how
 refine ⟨_,rfl,s,C,dx,_,rfl,by rw [zI (Ne.symm ow_s)]; exact s1,T.cl,T.nK,(by show 3<1000; decide),?_⟩;obtain ⟨rs,q1,q2,q3⟩:=na1;have st:∀{c:Addr} {o:HO},c≠s->H1 c=some o->∀{o2},(zH (zH H1 ow (.dT [])) s o2) c=some o:=λ{c o} hc h {o2}=>by
  rw [zI hc,zI (zF h how)];exact h
 refine q nr ow _ (λc o hc ho=>st hc (ex1 c o hc (g0 _ _ ho))) ?_ ?_ ⟨rs,q1,st (zw q2 s1 (by intro z; cases z)) q2,λe he=>let ⟨r,r1,r2⟩:=q3 e he; ⟨r,r1,st (zw r2 s1 (by intro z; cases z)) r2⟩⟩ ?_
 .cases e:H ow with
  | none=>rfl
  | some o=>rw [ex1 _ _ ow_s (g0 _ _ e)] at how; cases how
 .rw [zC]
  rfl
 .rw [zI ow_s,zC]
abbrev sMa:Stmt:=ZL (top 62) 3
inductive zNC (C:Addr) (vs:List V) (H:Hp) (Q:VK) (E:XK):Prop
 | mk (p:RP) (pB:List (List zZ×V)):vs=[.ref p.s]->Ze C p H->yT p H pB->1<=p.n->(∀(H':Hp) (pC:List (List zZ×V)),Ex (·=p.ow) H H'->yT p H' pC->Q (.int (Zn p.near (2^p.n - 1) p.n:Nat)) H')->zNC C vs H Q E
theorem zSW:FS 1 ["self"] sMa:=zm
theorem zRr (F:Zv K "most_of_all" "Reach.most_of_all" sMa f fd) (T:RcT K C) (mW:ZC K C "most" g1) (GW:FnOk P w K mg base zU 22 g1 pH ["self","left","end"] (zAw C 10)) (bW:zX K pH ["self","left","end"] []):FnOk P w K mg base zU 23 f fd ["self"] (zNC C):=by
 refine F.ok zSW ?_ ?_
 .rintro _ _ _ _ ⟨p,pB,rfl,_⟩
  rfl
 rintro _ A _ s H _ Q E hr ⟨p,pB,rfl,S,hd,n1,q⟩;refine ⟨_,(zG (zM (zy (pv 0) T.cl mW GW hr bW .nil ze (zA (zk (pv 0) rfl) (zA (zk (pv 0) rfl) zB))))),?_⟩;have p2:2<=2^p.n:=QX (n:=2) (by decide) n1;have hw:2^p.n - 1<2^p.n:=by lia
 refine ⟨_,rfl,p.s,p.dx,_,rfl,S.at_,rfl,_,rfl,p.s,C,p.dx,_,_,rfl,S.at_,T.cl,T.nW,rfl,_,rfl,p.s,C,p.dx,_,_,rfl,S.at_,T.cl,T.nA,rfl,?_⟩;exact ⟨p,pB,2^p.n - 1,p.n,rfl,S,hd,hw,yr _ (S.lt hw),qG _,q⟩
abbrev sLs:Stmt:=ZL (top 62) 4
abbrev sLp:Stmt:=ZL (top 62) 5
abbrev zLD:Stmt:=top 64
section
variable (near:Nat->List Nat)
def onM (left e k:Nat):Bool:=decide (1+Zn near (left - 2^k) k=Zn near left e)
def j7 (left e:Nat):Option Nat:=((near e).filter λk=>left.testBit k).find? (onM near left e)
def lpF:Nat->Nat->Nat->List Nat
 | 0,_,_=>[]
 | m+1,left,e=>match j7 near left e with
  | none=>[]
  | some k=>k::lpF m (left - 2^k) k
def Yp (left e:Nat):List Nat:=lpF near (ZV left) left e
variable {near}
theorem Jl {k:Nat} (N:zu near n) (he:e<=n) (h:j7 near left e=some k):k<n/\left.testBit k=true/\1+Zn near (left - 2^k) k=Zn near left e:=by
 have h1:=Qv h;have h2:onM near left e k=true:=vR h;obtain ⟨h3,h4⟩:=List.mem_filter.mp h1;exact ⟨N.lt e he k h3,h4,qZ h2⟩
theorem zBz (N:zu near n) (hl:left<1024) (he:e<=n) (h0:Zn near left e≠0):∃k,j7 near left e=some k:=by
 have em:=zDZ N hl he;have ne:((near e).filter λk=>left.testBit k).map (λk=>1+Zn near (left - 2^k) k)≠[]:=λz=>h0 (by rw [em,z]; rfl);obtain ⟨k,hk,ek⟩:=List.mem_map.mp (zEX ne);cases h:j7 near left e with
 | some k=>exact ⟨k,rfl⟩
 | none=>
  have:=List.find?_eq_none.mp h k hk;exact v6 (qK (by rw [em]; exact ek)) this
theorem zJh (h0:Zn near left e=0):j7 near left e=none:=by
 refine List.find?_eq_none.mpr λk _ h=>?_;have:1+Zn near (left - 2^k) k=Zn near left e:=qZ h;lia
theorem zAK {k:Nat} (N:zu near n) (hl:left<1024) (he:e<=n) (h:j7 near left e=some k):Yp near left e=k::Yp near (left - 2^k) k:=by
 obtain ⟨hk,hb,_⟩:=Jl N he h;have n10:=N.n10;have hc:=(ZQ left hl k (by lia) hb).1;unfold Yp;rw [<-hc];have:∀m,lpF near (m+1) left e=k::lpF near m (left - 2^k) k:=λm=>by
  show (match j7 near left e with | none=>[] | some k=>k::lpF near m (left - 2^k) k)=_;rw [h]
 exact this _
theorem JA (h0:Zn near left e=0):Yp near left e=[]:=by
 unfold Yp;cases ZV left with
 | zero=>rfl
 | succ m=>
  show (match j7 near left e with | none=>[] | some k=>k::lpF near m (left - 2^k) k)=_;rw [zJh h0]
theorem zDm {n:Nat} (N:zu near n):∀(m left e:Nat),e<=n->(∀k∈lpF near m left e,k<n)/\(lpF near m left e).length<=m
 | 0,_,_,_=>⟨nofun,qG _⟩
 | m+1,left,e,he=>by
  show (∀k∈(match j7 near left e with | none=>[] | some k=>k::lpF near m (left - 2^k) k),k<n)/\(match j7 near left e with | none=>[] | some k=>k::lpF near m (left - 2^k) k).length<=m+1;cases h:j7 near left e with
  | none=>exact ⟨nofun,QF _⟩
  | some k=>
   have hk:=(Jl N he h).1;obtain ⟨a,b⟩:=zDm N m (left - 2^k) k (qf hk);refine ⟨λx hx=>?_,by show _+1<=_; lia⟩;rcases List.mem_cons.mp hx with z | z
   .rw [z]; exact hk
   .exact a x z
end
inductive zMS (C:Addr) (m:Nat) (vs:List V) (H:Hp) (Q:VK) (E:XK):Prop
 | mk (p:RP) (pB:List (List zZ×V)) (left e k:Nat):vs=[.ref p.s, .int left, .int e]->Ze C p H->yT p H pB->left<2^p.n->ZV left<=m->e<=p.n->j7 p.near left e=some k->(∀(H':Hp) (pC:List (List zZ×V)),Ex (·=p.ow) H H'->yT p H' pC->Q (.int (k:Nat)) H')->zMS C m vs H Q E
inductive zMo (C:Addr) (vs:List V) (H:Hp) (Q:VK) (E:XK):Prop
 | mk (p:RP) (pB:List (List zZ×V)):vs=[.ref p.s]->Ze C p H->yT p H pB->1<=p.n->(∀(l:Addr) (H':Hp),Ex (·=p.ow) H H'->H l=none->H' l=some (.lst ((iv (Yp p.near (2^p.n - 1) p.n)).map V.int))->Q (.ref l) H')->zMo C vs H Q E
def Zk (ns ss:List Int):List Int:=(Yp (zO ns ss (List.range ns.length)) (2^ns.length - 1) ns.length).map λk=>ns.getD k 0
inductive zIp (vs:List V) (H:Hp) (Q:VK) (E:XK):Prop
 | mk (t a b:Addr) (ns ss:List Int):vs=[.ref t]->zi H t a b ns ss->(∀(l:Addr) (H':Hp),zE H H'->H l=none->H' l=some (.lst ((Zk ns ss).map V.int))->Q (.ref l) H')->zIp vs H Q E
theorem zIG:FS 3 ["self","left","end","wanted"] sLs:=zm
theorem zRE (F:Zv K "longest_step" "Reach.longest_step" sLs f fd) (T:RcT K C) (mW:ZC K C "most" g1) (mB:ZC K C "most_by" g2) (mS:ZC K C "steps" g3)
  (GW:FnOk P w K mg base zU j g1 pH ["self","left","end"] (zAw C m)) (bW:zX K pH ["self","left","end"] [])
  (GB:FnOk P w K mg base zU j g2 pI ["self","left","place"] (zJB C m)) (bB:zX K pI ["self","left","place"] [])
  (GS:FnOk P w K mg base zU j g3 pJ ["self","left","end"] (YI C)) (bS:zX K pJ ["self","left","end"] []):FnOk P w K mg base zU (j+1) f fd ["self","left","end"] (zMS C m):=by
 refine F.ok zIG ?_ ?_
 .rintro _ _ _ _ ⟨p,pB,left,e,k,rfl,_⟩
  rfl
 rintro _ A _ s H _ Q E hr ⟨p,pB,left,e,k0,rfl,S,hd,hl,hc,he,hk0,q⟩;have n10:=S.ok.n10;have hl':=S.lt hl;refine ⟨_,(zD (zt 3 zIG.nd (zy (pv 0) T.cl mW GW hr bW .nil ze (zA (pv 1) (zA (pv 2) zB)))) (zG (zM (YR zx (ZR ["place"] rfl (bk zIG) (zj (zy (pv 0) T.cl mS GS hr bS .nil ze (zA (pv 1) (zA (pv 2) zB)))) (λpA C fp s3 H3=>⟨(yI zIG),(Zg (zT YQ (zy (pv 1) T.cl mB GB hr bB .nil ze (zA (pv 2) (zA (pv 0) zB))) (pv 4) (zV _))),(pv 0)⟩)) zJ (λ_ _=>rfl))))),?_⟩;refine ⟨_,rfl,p.s,p.dx,_,rfl,S.at_,rfl,_,rfl,_,rfl,p,pB,left,e,rfl,S,hd,hl,hc,he,λH1 kvs1 ex1 hd1=>?_⟩;have S1:=S.ex hd.1 ex1;refine ⟨_,rfl,p.s,p.dx,_,rfl,S1.at_,rfl,_,rfl,_,rfl,p.s,p.dx,p.nr,_,p.n,p.near,left,e,rfl,S1.at_,rfl,S1.nr,S1.ok,he,hl',λl H2 g2 hln e2=>⟨l,rfl,⟨_,zK.of e2⟩,λD hD=>?_⟩⟩;have pN:yT p H2 kvs1:=⟨g2 _ _ hd1.1,hd1.2⟩;have lo:l≠p.ow:=zw e2 pN.1 (by intro z; cases z);have Do:p.ow≠D:=zF pN.1 hD;have klen:((p.near e).filter λk=>left.testBit k).length<=10:=qQ (qY _ _) (qQ (jy S.ok he) n10);unfold j7 at hk0;obtain ⟨ks,eks⟩:∃ks,ks=(p.near e).filter λk=>left.testBit k:=⟨_,rfl⟩;have hmem:∀k∈ks,k<p.n/\left.testBit k=true:=λk hk=>by
  rw [eks] at hk;obtain ⟨h1,h2⟩:=List.mem_filter.mp hk;exact ⟨S.ok.lt e he k h1,h2⟩
 rw [<-eks] at e2 klen hk0;have kml:((iv ks).map V.int).length=ks.length:=by rw [qA,yV]
 refine Zy (n:=ks.length) (λi U' H'=>∃(x:Option V) (pC:List (List zZ×V)),U'=[x,some (.ref p.s),some (.int left),some (.int e),some (.int (Zn p.near left e:Nat))]/\Ex (·=p.ow) H2 H'/\yT p H' pC/\H' D=some (.lst ((iv ((ks.take i).filter (onM p.near left e))).map V.int)))
  ⟨none,kvs1,rfl,Ex.new _ hD,⟨by rw [zI Do]; exact pN.1,pN.2⟩,zC⟩ ?_ ?_
 .rintro i U' H' hi ⟨x,pC,rfl,ex,pO,hD'⟩
  have ek:ks[i]?=some ks[i]:=qB hi;obtain ⟨hkn,hb⟩:=hmem _ (qg hi);have el2:=ex _ _ lo e2;refine ⟨⟨_,_,zK.of el2,yb ek⟩,λy H3 hy=>?_⟩;obtain ⟨rfl,hy⟩:=hy;have ey:=hy _ (zK.of el2);rw [yb ek] at ey;cases ey;have S':Ze C p H3:=(S1.ex hd1.1 (Ex.same g2)).ex pN.1 ex;refine ⟨_,rfl,p.s,p.dx,_,rfl,S'.at_,rfl,_,rfl,_,rfl,p,pC,left,ks[i],rfl,S',pO,hl,hb,hkn,hc,λH4 kvs4 ex4 hk4=>?_⟩;have hD4:=ex4 _ _ (Ne.symm Do) hD';have ec:decide (V.int ((1+Zn p.near (left - 2^ks[i]) ks[i]:Nat):Int)=V.int ((Zn p.near left e:Nat):Int))=onM p.near left e ks[i]:=by
   unfold onM;exact decide_eq_decide.mpr ⟨λz=>by have:=V.int.inj z; lia,λz=>by rw [z]⟩
  refine ⟨_,rfl,rfl,_,rfl,?_⟩;rw [ec];have tk:ks.take (i+1)=ks.take i++[ks[i]]:=by rw [QR,ek]; rfl
  refine zr (λc=>?_) (λc=>?_)
  .refine ⟨_,rfl,_,hD4,Zb (by rw [qA,yV]; have:=qY (onM p.near left e) (ks.take i); rw [QC] at this; lia),_,kvs4,rfl,λc o hc ho=>?_,⟨by rw [zI Do]; exact hk4.1,hk4.2⟩,?_⟩
   .rw [zI (zF ho hD)]
    exact ex4 _ _ hc (ex _ _ hc ho)
   .rw [zC,tk,qz,qh,qO c,Qo,Yg,Yg,qN]
    rfl
  .refine ⟨_,kvs4,rfl,ex.trans ex4,hk4,?_⟩
   rw [tk,qz,qh,qP c,Qo,qv];exact hD4
 .rintro U' H' ⟨x,pC,rfl,ex,pO,hD'⟩
  have el2:=ex _ _ lo e2;refine ⟨⟨_,zK.of el2,by rw [kml]; exact qG _⟩,?_⟩;rw [q9 (qG _)] at hD';refine ⟨D,_,0, .int (k0:Nat),rfl,rfl,zK.of hD',?_,q _ _ ((ex1.trans (Ex.same g2)).trans ex) pO⟩;have hh:(ks.filter (onM p.near left e))[0]?=some k0:=by rw [<-List.head?_eq_getElem?,vm]; exact hk0
  exact Zx (j:=0) (yb hh)
theorem zEY:FS 1 ["self","places","left","end"] sLp:=zm
theorem zRN (F:Zv K "longest_places" "Reach.longest_places" sLp f fd) (T:RcT K C) (mW:ZC K C "most" g1) (mL:ZC K C "longest_step" g2)
  (GW:FnOk P w K mg base zU 24 g1 pH ["self","left","end"] (zAw C 10)) (bW:zX K pH ["self","left","end"] [])
  (GL:FnOk P w K mg base zU 24 g2 pI ["self","left","end"] (zMS C 10)) (bL:zX K pI ["self","left","end"] []):FnOk P w K mg base zU 25 f fd ["self"] (zMo C):=by
 refine F.ok zEY ?_ ?_
 .rintro _ _ _ _ ⟨p,pB,rfl,_⟩
  rfl
 rintro _ A _ s H _ Q E hr ⟨p,pB,rfl,S,hd,n1,q⟩;refine ⟨_,(zD (zt 1 zEY.nd (zv zB)) (zD (zt 2 zEY.nd (zk (pv 0) rfl)) (zD (zt 3 zEY.nd (zk (pv 0) rfl)) (zD (YV qi (zT zFI (zy (pv 0) T.cl mW GW hr bW .nil ze (zA (pv 2) (zA (pv 3) zB))) zJ (zV _)) (zD (zt 3 zEY.nd (zy (pv 0) T.cl mL GL hr bL .nil ze (zA (pv 2) (zA (pv 3) zB)))) (zD (zo (YF qk QT QU yY (pv 1) (zA (pv 3) zB))) (zG (zt 2 zEY.nd (zS yc (pv 2) (zS jc zJ (pv 3)))))))) (zG (zM (pv 1))))))),?_⟩;refine ⟨by decide,λl hln=>?_⟩;have g1:zE H (zH H l (.lst [])):=zE.new hln _;have lo:l≠p.ow:=λz=>by rw [z,hd.1] at hln; cases hln
 refine ⟨_,rfl,p.s,C,p.dx,fsR p,_,rfl,g1 _ _ S.at_,T.cl,T.nW,rfl,_,rfl,p.s,C,p.dx,fsR p,_,rfl,g1 _ _ S.at_,T.cl,T.nA,rfl,?_⟩;have hp2:2^p.n - 1<2^p.n:=vT (QO _) (by decide);have S1:=S.ex hd.1 (Ex.same g1);have hd1:yT p (zH H l (.lst [])) pB:=⟨g1 _ _ hd.1,hd.2⟩;dsimp only [ZW,JL];refine yy (λU H'=>∃(pre:List Nat) (left e:Nat) (pC:List (List zZ×V)),U=[some (.ref p.s),some (.ref l),some (.int left),some (.int e)]/\Ex (λb=>b=p.ow\/b=l) (zH H l (.lst [])) H'/\H' l=some (.lst ((iv pre).map V.int))/\Ze C p H'/\yT p H' pC/\left<2^p.n/\e<=p.n/\pre.length+ZV left<=10/\
   pre++Yp p.near left e=Yp p.near (2^p.n - 1) p.n)
  (λU _=>zCG 2 U) ⟨[],2^p.n - 1,p.n,pB,rfl,Ex.refl,zC,S1,hd1,hp2,qG _,by have:=yr _ (S.lt hp2); simpa using this,rfl⟩ ?_
 rintro U H' ⟨pre,left,e,pC,rfl,ex,hl,S',pO,pL,he,pF,hpath⟩;have hl':=S.lt pL;refine ⟨_,rfl,p.s,p.dx,_,rfl,S'.at_,rfl,_,rfl,_,rfl,p,pC,left,e,rfl,S',pO,pL,yr _ hl',he,λH2 kvs2 ex2 hk2=>⟨_,_,rfl,rfl,_,rfl,?_⟩⟩;have S2:=S'.ex pO.1 ex2;have pK:=ex2 _ _ lo hl;have exa:Ex (λb=>b=p.ow\/b=l) (zH H l (.lst [])) H2:=ex.trans (ex2.wide λb z=> .inl z);refine zr (λc=>?_) (λc=>?_)
 .have h0:Zn p.near left e≠0:=λz=>by rw [z] at c; exact v6 c (by decide)
  obtain ⟨k,ek⟩:=zBz S.ok hl' he h0;obtain ⟨hkn,hb,_⟩:=Jl S.ok he ek;have n10:=S.ok.n10;have hdec:=ZQ left hl' k (by lia) hb;refine jO (H:=H') (μ:=λU _=>zCG 2 U) ?_;refine ⟨_,rfl,p.s,p.dx,_,rfl,S2.at_,rfl,_,rfl,_,rfl,p,kvs2,left,e,k,rfl,S2,hk2,pL,yr _ hl',he,ek,λH3 kvs3 ex3 hk3=>?_⟩;have hl3:=ex3 _ _ lo pK;have S3:=S2.ex hk2.1 ex3;refine ⟨_,rfl, .inl ⟨rfl,_,zK.of hl3⟩,_,rfl,l,_,_,rfl,rfl,hl3,Zb (by rw [qA,yV]; lia),?_⟩;refine ⟨_,rfl,_,rfl,_,_,rfl,rfl,⟨by show (0:Int)<=(k:Int); lia,by show (k:Int)<=1000000; lia,by decide⟩,_,_,rfl,rfl,?_⟩;have st:∀{b:Addr} {o u:HO},H3 b=some o->(∀xs,o≠ .lst xs)->zH H3 l u b=some o:=λ{b o u} h nl=>by
   rw [zI (zw h hl3 (nl _))]; exact h
  refine ⟨⟨pre++[k],left - 2^k,k,kvs3,?_,(exa.trans (ex3.wide λb z=> .inl z)).trans (Ex.put _ (.inr rfl)),?_,?_,⟨st hk3.1 (λ_ z=>by cases z),hk3.2⟩,by lia,by lia,?_,?_⟩,?_⟩
  .rw [<-JD left k (Y6 hb)]
   rfl
  .rw [zC,Yg,Yg,qN]
   rfl
  .obtain ⟨rs,q1,q2,q3⟩:=S.nr
   have keep:∀{b:Addr} {o:HO},H b=some o->b≠p.ow->∀{u},zH H3 l u b=some o:=λ{b o} h nb {u}=>by
    have nbl:b≠l:=zF h hln;rw [zI nbl];exact ex3 _ _ nb (exa _ _ (λz=>z.elim nb nbl) (g1 _ _ h))
   have now:∀{b:Addr} {o:HO},H b=some o->(∀pB,o≠ .dT pB)->b≠p.ow:=λ{b o} h nd z=>nd pB (by rw [z,hd.1] at h; exact (Option.some.inj h).symm);exact ⟨keep S.at_ (now S.at_ (λ_ z=>by cases z)),⟨rs,q1,keep q2 (now q2 (λ_ z=>by cases z)),λe he=>let ⟨r,r1,r2⟩:=q3 e he; ⟨r,r1,keep r2 (now r2 (λ_ z=>by cases z))⟩⟩,S.ok⟩
  .rw [qJ]
   show pre.length+1+ZV (left - 2^k)<=10;lia
  .rw [<-hpath,zAK S.ok hl' he ek,xS]
   rfl
  .show ((left:Int) - 1*2^((k:Int)).toNat).toNat<((left:Int)).toNat
   rw [JD left k (Y6 hb)];lia
 .have h0:Zn p.near left e=0:=by
   rcases XM (Zn p.near left e) with z | z
   .exact z
   .exact v6 (qK (by lia:((Zn p.near left e:Nat):Int) > 0)) c
  rw [JA h0,qv] at hpath;rw [hpath] at pK;refine ⟨_,rfl,q l H2 (λb o hb' ho=>?_) hln pK⟩;have nbl:b≠l:=zF ho hln;exact exa _ _ (λz=>z.elim hb' nbl) (g1 _ _ ho)
theorem zRB:FS 1 ["plan"] zLD:=zm
theorem zQZ (F:Fu K "longest_part" zLD f fd) (T:RcT K C) (mW:ZC K C "longest_places" g1) (MT:Mk K C g3) (mT:mg "Reach"=some (.ref C))
  (GI:FnOk P w K mg base zU 24 g3 pJ ["self","plan"] (zFR C)) (bI:zX K pJ ["self","plan"] [])
  (GW:FnOk P w K mg base zU 25 g1 pH ["self"] (zMo C)) (bW:zX K pH ["self"] [])
  (GC:Gd P w K mg base 25 g2 pI ["plan"] yw "check_plan")
  (GN:Gd P w K mg base 25 g4 gd4 ["plan","places"] zBO "numbers_at"):FnOk P w K mg base zU 26 f fd ["plan"] zIp:=by
 refine F.ok zRB ?_ ?_
 .rintro _ _ _ _ ⟨t,a,b,ns,ss,rfl,_⟩
  rfl
 rintro _ A _ s H _ Q E hr ⟨t,a,b,ns,ss,rfl,pl,q⟩;refine ⟨_,(zD (zo (zL GC hr (zA (pv 0) zB))) (zG (zM (zL GN hr (zA (pv 0) (zA (Zs (j4 MT GI hr rfl mT bI .nil ze (zA (pv 0) zB)) T.cl mW GW hr bW .nil ze) zB)))))),?_⟩;refine ⟨_,rfl,t,a,b,ns,ss,rfl,pl,?_⟩;refine ⟨_,rfl,_,rfl,λx dx nx ndx nex=>?_⟩;have g3:zE H (zH (zH H dx (.own x)) x (.ins C dx [])):=λc o hc=>by
  rw [zI (zF hc nx),zI (zF hc ndx)]; exact hc
 refine ⟨x,t,a,b,dx,ns,ss,rfl,zC,pl.same g3,λnr ow H3 ex3 how s3 na3 ow3=>⟨rfl,?_⟩⟩;have how':H ow=none:=zR g3 how;have g4:zE H H3:=λc o hc=>ex3 c o (zF hc nx) (g3 _ _ hc);have S3:Ze C ⟨ns.length,zO ns ss (List.range ns.length),x,dx,nr,ow⟩ H3:=⟨s3,na3,Zw pl.ok⟩;refine ⟨x,dx,_,rfl,S3.at_,rfl,⟨ns.length,zO ns ss (List.range ns.length),x,dx,nr,ow⟩,[],rfl,S3,⟨ow3,zFC⟩,pl.ok.n1,λl H4 ex4 hl4 el4=>?_⟩;have g5:zE H H4:=λc o hc=>ex4 c o (zF hc how') (g4 _ _ hc);obtain ⟨lt,len⟩:=zDm (Zw pl.ok) (ZV (2^ns.length - 1)) (2^ns.length - 1) ns.length (qG _);have c10:=yr _ (S3.lt (left:=2^ns.length - 1) (vT (QO _) (by decide)));refine ⟨t,a,b,l,ns,ss,Yp (zO ns ss (List.range ns.length)) (2^ns.length - 1) ns.length,rfl,pl.same g5,el4,qQ len (qQ c10 (by decide)),lt,?_⟩;intro l2 H6 g6 hl6 e6;exact q l2 H6 (g5.trans g6) (zR g5 hl6) e6
theorem zCb:∀m<1024,∀k<10,m.testBit k=true->∀j<10,(m - 2^k).testBit j=(m.testBit j&&decide (j≠k)):=zEW
theorem zAH (h:n<=10):2^n - 1<1024:=by have:=Y5 n (by lia); have:=QO n; lia
theorem zMi (N:zu near n):∀(c l e:Nat),ZV l=c->l<1024->e<=n->(Yp near l e).length=Zn near l e:=by
 intro c
 induction c with
 | zero=>
  intro l e hc hl he;have m0:Zn near l e=0:=by rw [yC l hl hc]; rfl
  rw [JA m0,m0];rfl
 | succ m ih=>
  intro l e hc hl he;rcases XM (Zn near l e) with z | z
  .rw [JA z,z]; rfl
  .obtain ⟨k,hk⟩:=zBz N hl he (by lia)
   obtain ⟨h1,h2,h3⟩:=Jl N he hk;have n10:=N.n10;have d:=ZQ l hl k (by lia) h2;rw [zAK N hl he hk,qT,ih (l - 2^k) k (by lia) (by lia) (qf h1)];lia
theorem zNN (h:i<ns.length):ns[i]?=some (ns.getD i 0):=by rw [qC,qB h]; rfl
theorem zBS (ok:zf ns ss):(Zk ns ss).length=Zn (zO ns ss (List.range ns.length)) (2^ns.length - 1) ns.length:=by
 unfold Zk;rw [qA];exact zMi (Zw ok) _ _ _ rfl (zAH ok.n2) (qG _)
theorem zFA {fs:List Nat}:zO ns ss fs ns.length=fs:=by unfold zO; rw [qP (QQ _)]
theorem zHL (h:i<ns.length):ns.getD i 0∈ns:=qp (zNN h)
def JI (near:Nat->List Nat):Nat->List Nat->Prop
 | _,[]=>True
 | e,k::r=>k∈near e/\JI near k r
theorem zGR (N:zu near n):∀(c l e:Nat),ZV l=c->l<1024->e<=n->JI near e (Yp near l e)/\(Yp near l e).Nodup/\∀k∈Yp near l e,l.testBit k=true
 | 0,l,e,hc,hl,he=>by
  have m0:Zn near l e=0:=by rw [yC l hl hc]; rfl
  rw [JA m0];exact ⟨trivial,qr,nofun⟩
 | c+1,l,e,hc,hl,he=>by
  rcases XM (Zn near l e) with z | z
  .rw [JA z]
   exact ⟨trivial,qr,nofun⟩
  .obtain ⟨k,hk⟩:=zBz N hl he (by lia)
   obtain ⟨h1,h2,_⟩:=Jl N he hk;have hin:=(List.mem_filter.mp (Qv hk)).1;have n10:=N.n10;have d:=ZQ l hl k (by lia) h2;obtain ⟨a,b,c'⟩:=zGR N c (l - 2^k) k (by lia) (by lia) (qf h1);have lt:∀j∈Yp near (l - 2^k) k,j<n:=(zDm N _ _ _ (qf h1)).1;rw [zAK N hl he hk];refine ⟨⟨hin,a⟩,List.nodup_cons.mpr ⟨λz=>?_,b⟩,λj hj=>?_⟩
   .have:=c' k z
    rw [d.2.2] at this;cases this
   .rcases List.mem_cons.mp hj with z | z
    .rw [z]; exact h2
    .have w:=c' j z
     have jn:=lt j z;rw [zCb l hl k (by lia) h2 j (by lia),QV] at w;exact w.1
theorem zFx (N:zu near n):∀(r:List Nat) (l e:Nat),l<1024->e<=n->r.Nodup->(∀k∈r,l.testBit k=true)->JI near e r->r.length<=Zn near l e
 | [],_,_,_,_,_,_,_=>QF _
 | k::r,l,e,hl,he,nd,hb,st=>by
  obtain ⟨st1,st2⟩:=st;obtain ⟨nd1,nd2⟩:=List.nodup_cons.mp nd;have n10:=N.n10;have kn:=N.lt e he k st1;have bk:=hb k qE;have d:=ZQ l hl k (by lia) bk;have lt:∀j∈r,j<n:=by
   have:∀(r:List Nat) (e:Nat),e<=n->JI near e r->∀j∈r,j<n:=λr=>by
    induction r with
    | nil=>exact nofun
    | cons a r ih=>
     intro e he st j hj;have an:=N.lt e he a st.1;rcases List.mem_cons.mp hj with z | z
     .rw [z]; exact an
     .exact ih a (qf an) st.2 j z
   exact this r k (qf kn) st2
  have ih:=zFx N r (l - 2^k) k (by lia) (qf kn) nd2 (λj hj=>by
   have jn:=lt j hj;rw [zCb l hl k (by lia) bk j (by lia),hb j (qF _ hj),QJ];exact qK λz=>nd1 (z▸hj)) st2
  rw [zDZ N hl he,qT];have:1+Zn near (l - 2^k) k<=mxN (((near e).filter λk=>l.testBit k).map λk=>1+Zn near (l - 2^k) k):=zDd (List.mem_map.mpr ⟨k,List.mem_filter.mpr ⟨st1,bk⟩,rfl⟩);lia
def chn (r:Int->Int->Bool):List Int->Prop
 | []=>True
 | [_]=>True
 | a::b::t=>r a b=true/\chn r (b::t)
structure zCA (ns ss l:List Int):Prop where
 nd:l.Nodup
 mem:∀x∈l,x∈ns
 ch:chn (zY ss) l
theorem zJs (up:ns.Pairwise (·<·)) (hi:i<ns.length) (hj:j<ns.length) (e:ns.getD i 0=ns.getD j 0):i=j:=by
 rw [qC,qC,qB hi,qB hj] at e;have e':ns[i]=ns[j]:=e;rcases xr i j with h | h | h
 .have:=List.pairwise_iff_getElem.mp up i j hi hj h; lia
 .exact h
 .have:=List.pairwise_iff_getElem.mp up j i hj hi h; lia
theorem zHN {ns ss:List Int} {fs:List Nat}:∀{r:List Nat} {e:Nat},(∀k∈r,k<ns.length)->JI (zO ns ss fs) e r->chn (zY ss) (r.map λk=>ns.getD k 0)
 | [],_,_,_=>trivial
 | [_],_,_,_=>trivial
 | a::b::t,e,lt,h=>by
  refine ⟨?_,zHN (r:=b::t) (e:=a) (λk hk=>lt k (qF _ hk)) h.2⟩;have h2:b∈zO ns ss fs a:=h.2.1;unfold zO at h2;rw [qO (lt a qE)] at h2;exact (List.mem_filter.mp h2).2
theorem zBZ {ns:List Int} (up:ns.Pairwise (·<·)):∀{r:List Nat},(∀k∈r,k<ns.length)->r.Nodup->(r.map λk=>ns.getD k 0).Nodup
 | [],_,_=>qr
 | k::r,lt,nd=>by
  obtain ⟨h1,h2⟩:=List.nodup_cons.mp nd;rw [qe];refine List.nodup_cons.mpr ⟨λz=>?_,zBZ up (λj hj=>lt j (qF _ hj)) h2⟩;obtain ⟨j,hj,e⟩:=List.mem_map.mp z;have:=zJs up (lt j (qF _ hj)) (lt k qE) e;exact h1 (this▸hj)
theorem zAr {ns:List Int}:∀{l:List Int},(∀x∈l,x∈ns)->∃r:List Nat,(∀k∈r,k<ns.length)/\(r.map λk=>ns.getD k 0)=l
 | [],_=>⟨[],nofun,rfl⟩
 | x::l,h=>by
  obtain ⟨r,h1,h2⟩:=zAr λy hy=>h y (qF _ hy);obtain ⟨i,hi,e⟩:=List.mem_iff_getElem.mp (h x qE);refine ⟨i::r,λk hk=>?_,?_⟩
  .rcases List.mem_cons.mp hk with z | z
   .rw [z]; exact hi
   .exact h1 k z
  .rw [qe,h2,qC,qB hi,<-e]
   rfl
theorem JC {α β:Type} {f:α->β}:∀{r:List α},(r.map f).Nodup->r.Nodup
 | [],_=>qr
 | k::r,h=>by
  rw [qe] at h;obtain ⟨h1,h2⟩:=List.nodup_cons.mp h;exact List.nodup_cons.mpr ⟨λz=>h1 (List.mem_map.mpr ⟨k,z,rfl⟩),JC h2⟩
theorem zDv {ns ss:List Int} {fs:List Nat}:∀{r:List Nat} {e:Nat},(∀k∈r,k<ns.length)->(∀k∈r.head?,k∈zO ns ss fs e)->chn (zY ss) (r.map λk=>ns.getD k 0)->JI (zO ns ss fs) e r
 | [],_,_,_,_=>trivial
 | [a],e,_,h,_=>⟨h a rfl,trivial⟩
 | a::b::t,e,lt,h,hc=>by
  refine ⟨h a rfl,zDv (r:=b::t) (e:=a) (λk hk=>lt k (qF _ hk)) (λk hk=>?_) hc.2⟩;have ek:b=k:=by simpa using hk
  rw [<-ek];unfold zO;rw [qO (lt a qE)];exact List.mem_filter.mpr ⟨List.mem_range.mpr (lt b (qF _ qE)),hc.1⟩
theorem zBU (ok:zf ns ss):zCA ns ss (Zk ns ss):=by
 obtain ⟨a,b,_⟩:=zGR (Zw ok) _ (2^ns.length - 1) ns.length rfl (zAH ok.n2) (qG _);have lt:∀k∈Yp (zO ns ss (List.range ns.length)) (2^ns.length - 1) ns.length,k<ns.length:=(zDm (Zw ok) _ _ _ (qG _)).1;refine ⟨zBZ ok.n.up lt b,λx hx=>?_,zHN lt a⟩;obtain ⟨k,hk,rfl⟩:=List.mem_map.mp hx;exact zHL (lt k hk)
theorem zGa {l:List Int} (ok:zf ns ss) (p:zCA ns ss l):l.length<=(Zk ns ss).length:=by
 obtain ⟨r,h1,rfl⟩:=zAr p.mem;rw [zBS ok,qA];refine zFx (Zw ok) r _ _ (zAH ok.n2) (qG _) (JC p.nd) (λk hk=>yM (h1 k hk)) (zDv h1 (λk hk=>?_) p.ch);rw [zFA];exact List.mem_range.mpr (h1 k (List.mem_of_mem_head? hk))
theorem zHF {near:Nat->List Nat} {n:Nat} {g:Nat->Int} (N:zu near n) (gu:∀i j,i<j->j<n->g i<g j):∀(r:List Nat) (l e:Nat),l<1024->e<=n->r.Nodup->(∀k∈r,l.testBit k=true)->JI near e r->r.length=Zn near l e->HT.Z9 (r.map g) ((Yp near l e).map g)=false
 | [],l,e,_,_,_,_,_,h=>by rw [JA h.symm]; rfl
 | k::r,l,e,hl,he,nd,hb,st,h=>by
  obtain ⟨st1,st2⟩:=st;obtain ⟨nd1,nd2⟩:=List.nodup_cons.mp nd;have n10:=N.n10;have kn:=N.lt e he k st1;have bk:=hb k qE;have d:=ZQ l hl k (by lia) bk;have lt:∀j∈r,j<n:=by
   have:∀(r:List Nat) (e:Nat),e<=n->JI near e r->∀j∈r,j<n:=λr=>by
    induction r with
    | nil=>exact nofun
    | cons a r ih=>
     intro e he st j hj;have an:=N.lt e he a st.1;rcases List.mem_cons.mp hj with z | z
     .rw [z]; exact an
     .exact ih a (qf an) st.2 j z
   exact this r k (qf kn) st2
  have hb2:∀j∈r,(l - 2^k).testBit j=true:=λj hj=>by
   have jn:=lt j hj;rw [zCb l hl k (by lia) bk j (by lia),hb j (qF _ hj),QJ];exact qK λz=>nd1 (z▸hj)
  have h1:=zFx N r (l - 2^k) k (by lia) (qf kn) nd2 hb2 st2;have h2:1+Zn near (l - 2^k) k<=Zn near l e:=by
   rw [zDZ N hl he];exact zDd (List.mem_map.mpr ⟨k,List.mem_filter.mpr ⟨st1,bk⟩,rfl⟩)
  rw [qT] at h;have eq:1+Zn near (l - 2^k) k=Zn near l e:=by lia
  obtain ⟨k0,hk0⟩:=zBz N hl he (by lia);obtain ⟨k0n,b0,_⟩:=Jl N he hk0;rw [zAK N hl he hk0,qe,qe,HT.zIV];rcases zDM ((N.up e he).filter _) hk0 (List.mem_filter.mpr ⟨st1,bk⟩) (qK eq) with z | z
  .rw [z,qO rfl]
   exact zHF N gu r (l - 2^k) k (by lia) (qf kn) nd2 hb2 st2 (by lia)
  .have:=gu k0 k z kn
   rw [qP (by lia)];exact qa (by lia)
theorem zLo {l:List Int} (ok:zf ns ss) (p:zCA ns ss l) (h:l.length=(Zk ns ss).length):HT.Z9 l (Zk ns ss)=false:=by
 obtain ⟨r,h1,rfl⟩:=zAr p.mem;rw [zBS ok,qA] at h;refine zHF (Zw ok) (λi j hij hj=>zAd ok.n.up hij hj) r _ _ (zAH ok.n2) (qG _) (JC p.nd) (λk hk=>yM (h1 k hk)) (zDv h1 (λk hk=>?_) p.ch) h;rw [zFA];exact List.mem_range.mpr (h1 k (List.mem_of_mem_head? hk))
theorem zAy (up:ns.Pairwise (·<·)) {k:Nat} {o:List Int}:o∈Zr ns k↔o.length=k/\o.Nodup/\∀x∈o,x∈ns:=by
 rw [jI up];constructor
 .intro h
  obtain ⟨p,hp,rfl⟩:=List.mem_map.mp h;have q:=yO hp;refine ⟨by rw [qA]; exact q.len,zBZ up q.lt q.nd,λx hx=>?_⟩;obtain ⟨j,hj,rfl⟩:=List.mem_map.mp hx;exact zHL (q.lt j hj)
 .rintro ⟨h1,h2,h3⟩
  obtain ⟨r,r1,rfl⟩:=zAr h3;rw [qA] at h1;exact List.mem_map.mpr ⟨r,zAg _ _ ⟨h1,JC h2,r1⟩,rfl⟩
theorem zCL (ss:List Int):∀l:List Int,chn (zY ss) l↔yB ss l=true
 | []=>⟨λ_=>rfl,λ_=>trivial⟩
 | [_]=>⟨λ_=>rfl,λ_=>trivial⟩
 | x::y::r=>by
  show (zY ss x y=true/\chn (zY ss) (y::r))↔(zY ss x y&&yB ss (y::r))=true;rw [QV,zCL ss (y::r)]
theorem J1 (ok:zf ns ss) {k:Nat} {o:List Int}:o∈(Zr ns k).filter (yo ss)↔o.length=k/\zCA ns ss o:=by
 rw [QZ,zAy ok.n.up];constructor
 .rintro ⟨⟨h1,h2,h3⟩,h4⟩
  rw [zFf h2,yp] at h4;exact ⟨h1,h2,h3,(zCL ss o).mpr h4⟩
 .rintro ⟨h1,p⟩
  refine ⟨⟨h1,p.nd,p.mem⟩,?_⟩;rw [zFf p.nd,yp];exact (zCL ss o).mp p.ch
theorem zKO (ok:zf ns ss) {k:Nat} (h:(Zk ns ss).length<k):(Zr ns k).filter (yo ss)=[]:=by
 refine List.eq_nil_iff_forall_not_mem.mpr λo ho=>?_;obtain ⟨h1,p⟩:=(J1 ok).mp ho;have:=zGa ok p;lia
theorem zEl (ok:zf ns ss):((Zr ns (Zk ns ss).length).filter (yo ss)).head?=some (Zk ns ss):=by
 have m:Zk ns ss∈(Zr ns (Zk ns ss).length).filter (yo ss):=(J1 ok).mpr ⟨rfl,zBU ok⟩;have up:=(zCI ok.n.up (Zk ns ss).length).filter (yo ss);cases e:(Zr ns (Zk ns ss).length).filter (yo ss) with
 | nil=>rw [e] at m; cases m
 | cons x r=>
  rw [e] at m up;rcases List.mem_cons.mp m with z | z
  .rw [z]; rfl
  .have l:=(List.pairwise_cons.mp up).1 _ z
   have hx:x∈(Zr ns (Zk ns ss).length).filter (yo ss):=by rw [e]; exact qE
   obtain ⟨h1,p⟩:=(J1 ok).mp hx;rw [zLo ok p h1] at l;cases l
def zIO (o:List Int):Bool:=decide (o.Pairwise (·<·))
namespace Ct
theorem zGx (hL:L.Pairwise (·<·)) (hc:cs.Pairwise (·<·)) (sub:∀x∈cs,x∈L):cs.Sublist L:=by
 have e:cs=L.filter (λx=>cs.contains x):=Yr hc (hL.filter _) λy=>⟨λhy=>List.mem_filter.mpr ⟨sub y hy,List.contains_iff_mem.mpr hy⟩,λhy=>List.contains_iff_mem.mp (List.mem_filter.mp hy).2⟩;rw [e];exact Q9
theorem zOG (h:cs.Sublist L):cs∈Zc cs.length L:=by
 induction h with
 | slnil=>exact List.mem_singleton.mpr rfl
 | @cons l1 l2 x h ih=>
  cases l1 with
  | nil=>exact List.mem_singleton.mpr rfl
  | cons a r=>exact qS _ ih
 | @cons_cons l1 l2 x h ih=>exact qX _ (List.mem_map.mpr ⟨l1,ih,rfl⟩)
theorem zEG:∀(k:Nat) (L:List Int),L.Pairwise (·<·)->(Zc k L).Pairwise λa b=>HT.zBB .lt a b=true
 | 0,_,_=>QP _ _
 | _+1,[],_=>List.Pairwise.nil
 | k+1,x::L,up=>by
  obtain ⟨hx,up'⟩:=List.pairwise_cons.mp up;show ((Zc k L).map (x::·)++Zc (k+1) L).Pairwise _;refine List.pairwise_append.mpr ⟨List.pairwise_map.mpr ((zEG k L up').imp λ{a b} h=>?_),zEG (k+1) L up',λa ha b hb=>?_⟩
  .show (if x=x then HT.zBB .lt a b else decide (x<x))=true
   rw [qO rfl]; exact h
  .obtain ⟨a',_,rfl⟩:=List.mem_map.mp ha
   obtain ⟨sl,cl⟩:=YG (k+1) L b hb;cases b with
   | nil=>cases cl
   | cons y b=>
    have hy:=hx y (sl.subset qE);show (if x=y then HT.zBB .lt a' b else decide (x<y))=true;rw [qP (by lia)];exact qK hy
theorem zOk (up:ns.Pairwise (·<·)) (k:Nat):(Zr ns k).filter zIO=Zc k ns:=by
 refine zAT zKI ((zCI up k).filter _) ?_ λz=>?_
 .refine (zEG k ns up).imp_of_mem λ{a b} ha hb h=>?_
  rw [<-zGc ((YG k ns a ha).2.trans (YG k ns b hb).2.symm)];exact h
 .rw [QZ,zAy up]
  constructor
  .rintro ⟨⟨h1,_,h3⟩,h4⟩
   have m:=zOG (zGx up (qZ h4) h3);rw [h1] at m;exact m
  .intro h
   obtain ⟨s,l⟩:=YG k ns z h;have uz:=up.sublist s;exact ⟨⟨l,uz.imp λq=>xB q,λx hx=>s.subset hx⟩,qK uz⟩
end Ct
theorem zLZ {o:List Int} (nd:o.Nodup) (p:ys.Perm o) (s:ys.Pairwise (·<=·)):(o==ys)=zIO o:=by
 have us:ys.Pairwise (·<·):=zAY s (p.nodup_iff.mpr nd);unfold zIO;rw [qu,Xo,X0];constructor
 .intro e
  rw [e];exact us
 .intro h
  exact zAe h us λz=>p.mem_iff.symm
abbrev zNF:Stmt:=top 81
namespace Ct
inductive zIK (vs:List V) (H:Hp) (Q:VK) (E:XK):Prop
 | mk (t a b p:Addr) (ns ss cs:List Int):vs=[.ref t, .ref p]->zi H t a b ns ss->H p=some (.lst (cs.map V.int))->(∀(l:Addr) (as:List Addr) (rs:List (List Int)) (H':Hp),zE H H'->H l=none->H' l=some (.lst (as.map V.ref))->ZB H' as rs->YA ss (ns.filter λx=> !cs.contains x) rs->Q (.ref l) H')->zIK vs H Q E
structure Wk (ss M:List Int) (m:Int) (hs ws:List Int):Prop where
 nd:hs.Nodup
 h:∀y∈hs,Ze ss M m y
 w:∀y∈ws,Ze ss M m y
 m:m∈hs\/m∈ws
 cl:∀u∈hs,∀v∈M,zY ss u v=true->v∈hs\/v∈ws
theorem Wk.start {m:Int} (h:m∈M):Wk ss M m [] [m]:=
 ⟨qr,nofun,λy hy=>by rw [List.mem_singleton.mp hy]; exact .here h, .inr (List.mem_singleton.mpr rfl),nofun⟩
theorem Wk.skip {m:Int} (k:Wk ss M m hs (ws++[y])) (hy:y∈hs):Wk ss M m hs ws:=by
 have ap:∀{v:Int},v∈hs\/v∈ws++[y]->v∈hs\/v∈ws:=λ{v} h=>by
  rcases h with z | z
  .exact .inl z
  .rcases List.mem_append.mp z with z | z
   .exact .inr z
   .rw [List.mem_singleton.mp z]; exact .inl hy
 exact ⟨k.nd,k.h,λz hz=>k.w z (qX _ hz),ap k.m,λu hu v hv huv=>ap (k.cl u hu v hv huv)⟩
theorem Wk.take {m:Int} (k:Wk ss M m hs (ws++[y])) (hy:y∉hs):Wk ss M m (hs++[y]) (ws++M.filter (zY ss y)):=by
 have ry:=k.w y (qS _ (List.mem_singleton.mpr rfl));have ap:∀{v:Int},v∈hs\/v∈ws++[y]->v∈hs++[y]\/v∈ws++M.filter (zY ss y):=λ{v} h=>by
  rcases h with z | z
  .exact .inl (qX _ z)
  .rcases List.mem_append.mp z with z | z
   .exact .inr (qX _ z)
   .exact .inl (qS _ z)
 refine ⟨List.nodup_append.mpr ⟨k.nd,by simp,λu hu v hv e=>hy (by rw [List.mem_singleton.mp hv] at e; exact e▸hu)⟩,λz hz=>?_,λz hz=>?_,ap k.m,λu hu v hv huv=>?_⟩
 .rcases List.mem_append.mp hz with z | z
  .exact k.h _ z
  .rw [List.mem_singleton.mp z]; exact ry
 .rcases List.mem_append.mp hz with z | z
  .exact k.w _ (qX _ z)
  .exact .on ry (List.mem_filter.mp z).1 (List.mem_filter.mp z).2
 .rcases List.mem_append.mp hu with z | z
  .exact ap (k.cl u z v hv huv)
  .rw [List.mem_singleton.mp z] at huv
   exact .inr (qS _ (List.mem_filter.mpr ⟨hv,huv⟩))
theorem Wk.done {m:Int} (k:Wk ss M m hs []) (y:Int):y∈hs↔Ze ss M m y:=by
 have hm:m∈hs:=k.m.elim id λz=>nomatch z;exact ⟨k.h y,λr=>r.stay (S:=λy=>y∈hs) (λu v hu hv huv=>(k.cl u hu v hv huv).elim id λz=>nomatch z) hm⟩
theorem zLj (ss M:List Int) (y:Int):(M.filter λx=>decide (x≠y)).filter (λx=>ss.contains (y+x))=M.filter (zY ss y):=by
 rw [List.filter_filter];refine xT λx _=>?_;unfold zY;rw [decide_eq_decide.mpr (⟨λh=>h.symm,λh=>h.symm⟩:x≠y↔y≠x),Bool.and_comm]
theorem YC:FS 2 ["plan","gone","left","found","here","waiting","one","rest"] zNF:=zm
theorem zQb (F:Fu K "_law_parts" zNF f fd) (B:Bt3 mg):FnOk P w K mg base zU 1 f fd ["plan","gone"] zIK:=by
 refine F.ok YC ?_ ?_
 .rintro _ _ _ _ ⟨t,a,b,p,ns,ss,cs,rfl,_⟩
  rfl
 rintro _ A _ s H _ Q E hr ⟨t,a,b,p,ns,ss,cs,rfl,pl,hp,q⟩;have n10:=pl.ok.n2;refine ⟨_,(zD (jS ["one"] rfl (bk YC) (zj (zz zh (pv 0) zJ)) (λpA C fp s3 H3=>⟨(yI YC),(Zg (zT (yK K) (pv 0) (pv 2) rfl)),(pv 0)⟩) (j:=2) YC.nd rfl (Or.inl rfl) rfl) (zD (zt 3 YC.nd (zv zB)) (zD (YV qi (zT (Z3 hr.units) (pv 2) (zv zB) (zV _)) (zD (zQa (ya (zA (zv zB) (zA (zv (zA (zz zx (pv 2) zJ) zB)) zB))) (zGp rfl (Yq (Yk 4 YC.nd) (Yq (Yk 5 YC.nd) zCE)))) (zD (YV qi (zT (Z3 hr.units) (pv 5) (zv zB) (zV _)) (zD (zt 6 YC.nd (zFp qk XU vH zEb (pv 5))) (zG (zd (zT (yK K) (pv 6) (pv 4) rfl) (zD (zo (YF qk QT QU yY (pv 4) (zA (pv 6) zB))) (zD (jS ["other"] rfl (bk YC) (zj (pv 2)) (λpA C fp s3 H3=>⟨(yI YC),(Zg (zT Yl (pv 0) (pv 7) (zV _))),(pv 0)⟩) (j:=7) YC.nd rfl (Or.inl rfl) rfl) (zG (zo (YF qk XG XH zAJ (pv 5) (zA (ZR ["other"] rfl (bk YC) (zj (pv 7)) (λpA C fp s3 H3=>⟨(yI YC),(Zg (zT (Y3 K) (zS ZA (pv 7) (pv 0)) (zz (j5 K) (pv 1) zJ) rfl)),(pv 0)⟩)) zB)))))) zW)))) (zD (zo (YF qk QT QU yY (pv 3) (zA (zP Ye rfl B.sorted xx (zA (pv 4) zB)) zB))) (zG (jS ["one"] rfl (bk YC) (zj (pv 2)) (λpA C fp s3 H3=>⟨(yI YC),(Zg (zT (yK K) (pv 0) (pv 5) rfl)),(pv 0)⟩) (j:=2) YC.nd rfl (Or.inl rfl) rfl)))))) (zG (zM (pv 3)))))),?_⟩;refine ⟨_,rfl,t,_,0,_,rfl,rfl,ZD.of pl.t,rfl,a,rfl,⟨_,zK.of pl.a⟩,λl0 hl0=>?_⟩;refine yW (L:=ns) (U:=[some (.ref t),some (.ref p),none,none,none,none,none,none]) (λx=> !cs.contains x) (λx=> .int x) (zK.of pl.a) hl0 (by lia) (λx H' hx g P hP=>?_) (λx H' hx _ g P hP=>⟨_,rfl,hP _ zE.rfl'⟩) λH1 g1 e1=>?_
 .exact ⟨_,rfl,_,rfl,p,x,cs,rfl,rfl,zK.of (g _ _ hp),_,rfl,hP _ zE.rfl'⟩
 have Lup:(ns.filter λx=> !cs.contains x).Pairwise (·<·):=pl.ok.n.up.filter _;have L10:(ns.filter λx=> !cs.contains x).length<=10:=qQ (qY _ _) n10;generalize (ns.filter λx=> !cs.contains x)=L at e1 Lup L10 q;refine ⟨(by show 0<=sizeLine; decide),λpo hpo=>?_⟩;have g2:=zE.new hpo (.lst []);have e2:zH H1 po (.lst []) po=some (.lst (([]:List Addr).map V.ref)):=zC;have l0p:l0≠po:=zF e1 hpo;have hpoH:H po=none:=zR g1 hpo;have pl2:=(pl.same g1).same g2;have e12:=g2 _ _ e1;have tp:t≠po:=zF (g1 _ _ pl.t) hpo;have ap:a≠po:=zF (g1 _ _ pl.a) hpo;have bp:b≠po:=zF (g1 _ _ pl.b) hpo;have g02:=g1.trans g2;generalize zH H1 po (.lst [])=H2 at g2 e2 pl2 e12 g02 ⊢;dsimp only [ZW,JL];refine yy (λU H'=>∃(l:Addr) (M:List Int) (as:List Addr) (rs:List (List Int)) (y4 y5 y6 y7:Option V),U=[some (.ref t),some (.ref p),some (.ref l),some (.ref po),y4,y5,y6,y7]/\Ex (·=po) H2 H'/\H' po=some (.lst (as.map V.ref))/\ZB H' as rs/\(∀a∈as,H2 a=none)/\
   l≠po/\H' l=some (.lst (M.map V.int))/\PI ss L M rs)
  (λU H=>zAW 2 U H) ⟨l0,L,[],[],none,none,none,none,rfl,Ex.refl,e2, .nil,nofun,l0p,e12,PI.start Lup⟩ ?_
 rintro U HA ⟨l,M,as,rs,y4,y5,y6,y7,rfl,EA,ePo,rows,fre,lp,el,pi⟩;obtain ⟨M10,r10⟩:=pi.len L10;have plA:zi HA t a b ns ss:=⟨EA _ _ tp pl2.t,EA _ _ ap pl2.a,EA _ _ bp pl2.b,pl.ok⟩;refine ⟨_,rfl,(by show 0<=sizeLine; decide),λz0 hz0=>?_⟩;have gz:=zE.new hz0 (.lst []);refine ⟨_,jq (zK.of (gz _ _ el)) (zK.of zC),_,rfl,?_⟩;generalize zH HA z0 (.lst [])=HZ at gz ⊢;refine zr (λc=>?_) (λc=>?_)
 .refine jO (H:=HA) (μ:=λU H=>zAW 2 U H) ?_
  cases M with
  | nil=>cases c
  | cons m M'=>
  have hat:YH ((m::M').map V.int) ((0:Nat):Int)=some (.int m):=Zx rfl;have mM:m∈m::M':=qE;refine ⟨(by show 0<=sizeLine; decide),λhe hhe=>?_⟩;have gh:=zE.new hhe (.lst []);refine ⟨_,rfl,l,_,0,_,rfl,rfl,zK.of (gh _ _ (gz _ _ el)),hat,(by show 1<=sizeLine; decide),λwa hwa=>?_⟩;have gw:=zE.new hwa (.lst [.int m]);refine ⟨yU,λtt htt=>?_⟩;have gt:=zE.new htt (.tup [.ref he, .ref wa]);refine ⟨tt,_,rfl,ZD.of zC,rfl,_,_,rfl,_,_,rfl,rfl,?_⟩;have eH0:=gt _ _ (gw _ _ (zC (H:=HZ) (a:=he) (o:= .lst (([]:List Int).map V.int))));have eW0:=gt _ _ (zC (H:=zH HZ he (.lst [])) (a:=wa) (o:= .lst ([m].map V.int)));have gB:=gh.trans (gw.trans gt);have heW:he≠wa:=zF (zC (H:=HZ) (a:=he) (o:= .lst [])) hwa;have nwa:HZ wa=none:=zR gh hwa;generalize zH (zH (zH HZ he (.lst [])) wa (.lst [.int m])) tt (.tup [.ref he, .ref wa])=HB at gB eH0 eW0 ⊢;have ns_:∀{c:Addr} {o:HO},HZ c=some o->c≠he/\c≠wa:=λh=>⟨zF h hhe,zF h nwa⟩;have inC:∀{c:Addr} {o:HO} {H':Hp},HZ c=some o->Ex (λb=>b=he\/b=wa) HB H'->H' c=some o:=λ{c o H'} h e=>e _ _ (λz=>z.elim (ns_ h).1 (ns_ h).2) (gB _ _ h);dsimp only [ZW,JL];refine yy (λU H'=>∃(hs ws:List Int) (y6 y7:Option V),U=[some (.ref t),some (.ref p),some (.ref l),some (.ref po),some (.ref he),some (.ref wa),y6,y7]/\Ex (λb=>b=he\/b=wa) HB H'/\H' he=some (.lst (hs.map V.int))/\H' wa=some (.lst (ws.map V.int))/\ws.length<=10*hs.length+1/\Wk ss (m::M') m hs ws)
   (λU H=>(10 - zAW 4 U H)*10+zAW 5 U H) ⟨[],[m],_,_,rfl,Ex.refl,eH0,eW0,qG 1,Wk.start mM⟩ ?_
  rintro U HC ⟨hs,ws,u6,u7,rfl,EC,eH,eW,wl,wk⟩;have h10:hs.length<=10:=qQ (yE wk.nd λy hy=>(wk.h y hy).r) M10;refine ⟨_,rfl,(by show 0<=sizeLine; decide),λz1 hz1=>?_⟩;have gy:=zE.new hz1 (.lst []);refine ⟨_,jq (zK.of (gy _ _ eW)) (zK.of zC),_,rfl,?_⟩;generalize zH HC z1 (.lst [])=HD at gy ⊢;have ED:=EC.trans (Ex.same gy);have eWD:=gy _ _ eW;have eHD:=gy _ _ eH;refine zr (λc=>?_) (λc=>?_)
  .refine jO (H:=HC) (μ:=λU H=>(10 - zAW 4 U H)*10+zAW 5 U H) ?_
   have ne:ws≠[]:=λz=>by rw [z] at c; cases c
   obtain ⟨W0,y,eP⟩:∃W0 y,ws=W0++[y]:=⟨ws.dropLast,ws.getLast ne,(QL ne).symm⟩;subst eP;refine ⟨_,rfl, .inl ⟨rfl,_,zK.of eWD⟩,wa,W0.map V.int, .int y,rfl,rfl,by rw [eWD,qN]; rfl,?_⟩;have E1:Ex (λb=>b=he\/b=wa) HB (zH HD wa (.lst (W0.map V.int))):=ED.trans (Ex.put _ (.inr rfl));have eW1:zH HD wa (.lst (W0.map V.int)) wa=some (.lst (W0.map V.int)):=zC;have eH1:zH HD wa (.lst (W0.map V.int)) he=some (.lst (hs.map V.int)):=by rw [zI heW]; exact eHD
   generalize zH HD wa (.lst (W0.map V.int))=HE at E1 eW1 eH1 ⊢;have wl':W0.length+1<=10*hs.length+1:=by rw [qJ] at wl; exact wl
   have eW':=eW;refine ⟨_,rfl,_,rfl,he,y,hs,rfl,rfl,zK.of eH1,_,rfl,zr (λc2=>?_) (λc2=>?_)⟩
   .have yn:y∉hs:=λz=>by
     rw [List.contains_iff_mem.mpr z] at c2;cases c2
    have wkN:=wk.take yn;have hN:(hs++[y]).length<=10:=qQ (yE wkN.nd λy hy=>(wkN.h y hy).r) M10;rw [qJ] at hN;have hN:hs.length+1<=10:=hN;refine ⟨_,rfl, .inl ⟨rfl,_,zK.of eH1⟩,_,rfl,he,_,_,rfl,rfl,eH1,Zb (by rw [qA]; lia),?_⟩;have E2:Ex (λb=>b=he\/b=wa) HB (zH HE he (.lst (hs.map V.int++[.int y]))):=E1.trans (Ex.put _ (.inl rfl));have eH2:zH HE he (.lst (hs.map V.int++[.int y])) he=some (.lst ((hs++[y]).map V.int)):=by rw [zC,qN]; rfl
    have eW2:zH HE he (.lst (hs.map V.int++[.int y])) wa=some (.lst (W0.map V.int)):=by rw [zI (Ne.symm heW)]; exact eW1
    generalize zH HE he (.lst (hs.map V.int++[.int y]))=HF at E2 eH2 eW2 ⊢;have elF:=inC (gz _ _ el) E2;refine ⟨_,rfl,l,rfl,⟨_,zK.of elF⟩,λD hD=>?_⟩;refine yW (L:=m::M') (U:=[some (.ref t),some (.ref p),some (.ref l),some (.ref po),some (.ref he),some (.ref wa),some (.int y),u7]) (λx=>decide (x≠y)) (λx=> .int x) (zK.of elF) hD (by lia) (λx H' hx g P hP=>?_) (λx H' hx _ g P hP=>⟨_,rfl,hP _ zE.rfl'⟩) λHG gG eG=>?_
    .refine ⟨_,rfl,_,rfl,rfl,_,rfl,?_⟩
     have e:(!decide (V.int x=V.int y))=decide (x≠y):=by
      by_cases z:x=y
      .rw [z,qK rfl,qa λh=>h rfl]; rfl
      .rw [qa λh=>z (V.int.inj h),qK z]; rfl
     rw [e];exact hP _ zE.rfl'
    have eHG:=gG _ _ eH2;have eWG:=gG _ _ eW2;have EG:=E2.trans (Ex.same gG);refine ⟨_,rfl, .inl ⟨rfl,_,zK.of eWG⟩,_,rfl,D,rfl,⟨_,zK.of eG⟩,λD2 hD2=>?_⟩;have plG:zi HG t a b ns ss:=⟨inC (gz _ _ plA.t) EG,inC (gz _ _ plA.a) EG,inC (gz _ _ plA.b) EG,pl.ok⟩;have rl:((m::M').filter λx=>decide (x≠y)).length<=10:=qQ (qY _ _) M10;refine yW (L:=(m::M').filter λx=>decide (x≠y)) (U:=[some (.ref t),some (.ref p),some (.ref l),some (.ref po),some (.ref he),some (.ref wa),some (.int y),some (.ref D)]) (λx=>ss.contains (y+x)) (λx=> .int x) (zK.of eG) hD2 (by lia) (λx H' hx g P hP=>?_) (λx H' hx _ g P hP=>⟨_,rfl,hP _ zE.rfl'⟩) λHI gI eI=>?_
    .exact ⟨_,rfl,_,rfl,_,_,rfl,rfl,_,rfl,t,_,1,_,rfl,rfl,ZD.of (plG.same g).t,rfl,b,_,ss,rfl,rfl,zK.of (plG.same g).b,_,rfl,hP _ zE.rfl'⟩
    rw [zLj] at eI;have fl:((m::M').filter (zY ss y)).length<=9:=by
     have ym:y∈m::M':=(wk.w y (qS _ (List.mem_singleton.mpr rfl))).r;have:=yE (xs:=y::(m::M').filter (zY ss y)) (ys:=m::M') (List.nodup_cons.mpr ⟨λz=>by have:=(List.mem_filter.mp z).2; unfold zY at this; simp at this,(Ja pi.up).filter _⟩) λz hz=>by
      rcases List.mem_cons.mp hz with e | e
      .rw [e]; exact ym
      .exact (List.mem_filter.mp e).1
     rw [qT] at this;lia
    refine ⟨wa,D2,_,_,rfl,rfl,gI _ _ eWG,eI,by rw [qA,qA]; exact small (by lia),?_⟩;refine ⟨⟨hs++[y],W0++(m::M').filter (zY ss y),_,_,rfl,(EG.trans (Ex.same gI)).trans (Ex.put _ (.inr rfl)),by rw [zI heW]; exact gI _ _ eHG,by rw [zC,qN],by rw [qJ,qJ]; show W0.length+_<=10*(hs.length+1)+1; lia,wkN⟩,?_⟩;show (10 - Z8 _ he)*10+Z8 _ wa<(10 - Z8 HC he)*10+Z8 HC wa;rw [Zp (show zH HI wa _ he=_ by rw [zI heW]; exact gI _ _ eHG),Zp (zC (H:=HI)),Zp eH,Zp eW];simp only [qJ,qA,xH];lia
   .have yn:y∈hs:=by
     cases e:hs.contains y with
     | true=>exact List.contains_iff_mem.mp e
     | false=>exact v6 (by rw [e]; rfl) c2
    refine ⟨⟨hs,W0,_,_,rfl,E1,eH1,eW1,by lia,wk.skip yn⟩,?_⟩;show (10 - Z8 _ he)*10+Z8 _ wa<(10 - Z8 HC he)*10+Z8 HC wa;rw [Zp eH1,Zp eW1,Zp eH,Zp eW];simp only [qJ,qA,xH];lia
  .have we:ws=[]:=by
    cases ws with
    | nil=>rfl
    | cons _ _=>exact v6 rfl c
   subst we;have dn:=wk.done;have gAD:zE HA HD:=λc o h=>inC (gz _ _ h) ED;have ePD:=gAD _ _ ePo;refine ⟨_,rfl, .inl ⟨rfl,_,zK.of ePD⟩,_,rfl,he,hs,rfl,zK.of eHD,by lia,λo r ho pw sw=>?_⟩;have gO:=zE.new ho (.lst (r.map V.int));have eo:zH HD o (.lst (r.map V.int)) o=some (.lst (r.map V.int)):=zC;have eHO:=gO _ _ eHD;have gB:=gAD.trans gO;have no:HA o=none:=zR gAD ho;generalize zH HD o (.lst (r.map V.int))=HB at gO eo eHO gB ⊢;have rup:r.Pairwise (·<·):=zAY sw (pw.nodup_iff.mpr wk.nd);have mr:∀y,y∈r↔Ze ss (m::M') m y:=λy=>pw.mem_iff.trans (dn y);have ePB:=gB _ _ ePo;have oP:o≠po:=Ne.symm (zF ePo no);have hP:he≠po:=Ne.symm (ns_ (gz _ _ ePo)).1;have al:=rows.len;refine ⟨po,_,_,rfl,rfl,ePB,Zb (by rw [qA,al]; lia),?_⟩;have eN:zH HB po (.lst (as.map V.ref++[.ref o])) po=some (.lst ((as++[o]).map V.ref)):=by rw [zC,qN]; rfl
   have EB:Ex (·=po) H2 (zH HB po (.lst (as.map V.ref++[.ref o]))):=(EA.trans (Ex.same gB)).trans (Ex.put _ rfl);have keep:∀c o',c≠po->HB c=some o'->zH HB po (.lst (as.map V.ref++[.ref o])) c=some o':=λc o' hc h=>by rw [zI hc]; exact h
   have asP:∀c∈as,c≠po:=λc hc z=>by rw [z] at hc; rw [fre po hc] at e2; cases e2
   have elC:=keep _ _ lp (gB _ _ el);have eoC:=keep _ _ oP eo;have rowsC:ZB (zH HB po (.lst (as.map V.ref++[.ref o]))) (as++[o]) (rs++[r]):=((rows.same gB).by λc hc o' h=>keep c o' (asP c hc) h).snoc eoC;have eHC:=keep _ _ hP eHO;generalize zH HB po (.lst (as.map V.ref++[.ref o]))=HC at eN EB elC eoC rowsC eHC ⊢;refine ⟨_,rfl,l,rfl,⟨_,zK.of elC⟩,λD hD=>?_⟩;refine yW (L:=m::M') (U:=[some (.ref t),some (.ref p),some (.ref l),some (.ref po),some (.ref he),some (.ref wa),u6,u7]) (λx=> !hs.contains x) (λx=> .int x) (zK.of elC) hD (by lia) (λx H' hx g P hP=>?_) (λx H' hx _ g P hP=>⟨_,rfl,hP _ zE.rfl'⟩) λHD' gD eD=>?_
   .exact ⟨_,rfl,_,rfl,he,x,hs,rfl,rfl,zK.of (g _ _ eHC),_,rfl,hP _ zE.rfl'⟩
   have fe:(m::M').filter (λx=> !hs.contains x)=(m::M').filter (λx=> !r.contains x):=xT λx _=>by
    congr 1;rw [qu,qw,qw];exact pw.mem_iff.symm
   rw [fe] at eD;obtain ⟨piN,lt⟩:=pi.more rup mr;have oH2:H2 o=none:=by
    cases e:H2 o with
    | none=>rfl
    | some u=>
     have z:=EA o u oP e;rw [no] at z; cases z
   refine ⟨⟨D,(m::M').filter (λx=> !r.contains x),as++[o],rs++[r],_,_,_,_,rfl,EB.trans (Ex.same gD),gD _ _ eN,rowsC.same gD,λc hc=>?_,Ne.symm (zF eN hD),eD,piN⟩,?_⟩
   .rcases List.mem_append.mp hc with z | z
    .exact fre c z
    .rw [List.mem_singleton.mp z]; exact oH2
   .show Z8 HD' D<Z8 HA l
    rw [Zp eD,Zp el,qA,qA];exact lt
 .cases M with
  | cons m M'=>exact v6 rfl c
  | nil=>
  refine ⟨_,rfl,q po as rs HZ (λc o' h=>?_) hpoH (gz _ _ ePo) (rows.same gz) pi.done⟩;exact gz _ _<|EA c o' (λz=>by rw [z,hpoH] at h; cases h) (g02 _ _ h)
end Ct
abbrev zLT:Stmt:=top 84
theorem zSn:∀m≤6,fac m<=720:=by decide
theorem zPY {l:List Int} (h6:l.length<=6) (nd:R.Nodup) (h:∀r∈R,r.Perm l):R.length<=720:=
 qQ (zCw nd λr hr=>zEC _ l r rfl (h r hr)) (qQ (zDw _ l rfl) (zSn _ h6))
structure WkT (ss zs:List Int) (R Z:List (List Int)):Prop where
 nd:R.Nodup
 r:∀r∈R,YT ss zs r
 w:∀r∈Z,YT ss zs r
 z:zs∈R\/zs∈Z
 cl:∀r∈R,∀k∈ZI ss r,Zf r k∈R\/Zf r k∈Z
theorem WkT.start (ss zs:List Int):WkT ss zs [] [zs]:=
 ⟨qr,nofun,λr hr=>by rw [List.mem_singleton.mp hr]; exact .refl, .inr (List.mem_singleton.mpr rfl),nofun⟩
theorem WkT.skip {x:List Int} (k:WkT ss zs R (Z++[x])) (hx:x∈R):WkT ss zs R Z:=by
 have ap:∀{v:List Int},v∈R\/v∈Z++[x]->v∈R\/v∈Z:=λ{v} h=>by
  rcases h with z | z
  .exact .inl z
  .rcases List.mem_append.mp z with z | z
   .exact .inr z
   .rw [List.mem_singleton.mp z]; exact .inl hx
 exact ⟨k.nd,k.r,λz hz=>k.w z (qX _ hz),ap k.z,λr hr p hp=>ap (k.cl r hr p hp)⟩
theorem WkT.take {x:List Int} (k:WkT ss zs R (Z++[x])) (hx:x∉R):WkT ss zs (R++[x]) (Z++(ZI ss x).map (Zf x)):=by
 have rx:=k.w x (qS _ (List.mem_singleton.mpr rfl));have ap:∀{v:List Int},v∈R\/v∈Z++[x]->v∈R++[x]\/v∈Z++(ZI ss x).map (Zf x):=λ{v} h=>by
  rcases h with z | z
  .exact .inl (qX _ z)
  .rcases List.mem_append.mp z with z | z
   .exact .inr (qX _ z)
   .exact .inl (qS _ z)
 refine ⟨List.nodup_append.mpr ⟨k.nd,by simp,λu hu v hv e=>hx (by rw [List.mem_singleton.mp hv] at e; exact e▸hu)⟩,λz hz=>?_,λz hz=>?_,ap k.z,λr hr p hp=>?_⟩
 .rcases List.mem_append.mp hz with z | z
  .exact k.r _ z
  .rw [List.mem_singleton.mp z]; exact rx
 .rcases List.mem_append.mp hz with z | z
  .exact k.w _ (qX _ z)
  .obtain ⟨p,hp,rfl⟩:=List.mem_map.mp z
   exact .step rx hp
 .rcases List.mem_append.mp hr with z | z
  .exact ap (k.cl r z p hp)
  .rw [List.mem_singleton.mp z] at hp ⊢
   exact .inr (qS _ (List.mem_map.mpr ⟨p,hp,rfl⟩))
theorem WkT.done (k:WkT ss zs R []) (r:List Int):YT ss zs r↔r∈R:=by
 refine ⟨λh=>?_,k.r r⟩
 induction h with
 | refl=>exact k.z.elim id λz=>nomatch z
 | step _ hk ih=>exact (k.cl _ ih _ hk).elim id λz=>nomatch z
theorem zq.pop (h:zq H rs os) (ne:rs≠[]):∃rs0 a os0 o,rs=rs0++[a]/\os=os0++[o]/\zq H rs0 os0/\H a=some (.lst (o.map V.int)):=by
 have hl:=h.len;have ne2:os≠[]:=λz=>by rw [z] at hl; exact ne (List.length_eq_zero_iff.mp hl)
 have e1:rs=rs.dropLast++[rs.getLast ne]:=(QL ne).symm;have e2:os=os.dropLast++[os.getLast ne2]:=(QL ne2).symm;generalize rs.dropLast=r0 at e1;generalize rs.getLast ne=a at e1;generalize os.dropLast=o0 at e2;generalize os.getLast ne2=o at e2;have l0:r0.length=o0.length:=by
  rw [e1,e2,qJ,qJ] at hl;exact Nat.succ.inj hl
 refine ⟨r0,a,o0,o,e1,e2,⟨l0,λi r e=>?_⟩,?_⟩
 .have hi:=(List.getElem?_eq_some_iff.mp e).1
  obtain ⟨q,h1,h2⟩:=h.at_ i r (by rw [e1,QM hi]; exact e);rw [e2,QM (by lia)] at h1;exact ⟨q,h1,h2⟩
 .obtain ⟨q,h1,h2⟩:=h.at_ r0.length a (by rw [e1,q8 (qG _),vO]; rfl)
  rw [e2,q8 (by lia),show r0.length - o0.length=0 by lia] at h1;cases h1;exact h2
theorem zEI:∀{ks:List Nat} {rs:List Addr} {i k:Nat} {r:Addr},ks.Nodup->ks[i]?=some k->rs[i]?=some r->ZJ (YN ks rs) (Sum.inl ((k:Nat):Int))=some (.ref r)
 | [],_,_,_,_,_,h,_=>nomatch h
 | _::_,[],_,_,_,_,_,h=>nomatch h
 | k0::ks,r0::rs,0,k,r,_,h,h'=>by
  cases h; cases h';exact yQ rfl
 | k0::ks,r0::rs,i+1,k,r,nd,h,h'=>by
  obtain ⟨n1,n2⟩:=List.nodup_cons.mp nd;have hk:ks[i]?=some k:=h;refine (yP (λz=>n1 ?_)).trans (zEI n2 hk h');have:=Sum.inl.inj z;have e:k0=k:=by exact Int.ofNat.inj this
  rw [e];exact qp hk
theorem zED (h:ks.length=rs.length):(YN ks rs).map (·.1)=ks.map λk:Nat=>(Sum.inl ((k:Nat):Int):zZ):=by
 unfold YN;have e:(ks.zip rs).map Prod.fst=ks:=List.map_fst_zip (by lia)
 conv=>rhs; rw [<-e]
 rw [qo,qo];rfl
theorem zOE {l:List Nat} (h:l.Pairwise (·<·)):(iv l).Pairwise (·<·):=by
 unfold iv;exact List.pairwise_map.mpr (h.imp λh=>by lia)
theorem zCC (ss zs:List Int):(ZI ss zs).Pairwise (·<·):=List.pairwise_lt_range.filter _
theorem zGP (h:zs.length<=6):(ZI ss zs).length<=4:=by
 refine qQ (qY _ _) ?_;rw [QB];lia
theorem zLR (rs:List Addr) (h:n=rs.length):((List.range n).filter λ_=>true).map (λi=>V.ref (rs.getD i 0))=rs.map V.ref:=by
 subst h;rw [List.filter_eq_self.mpr λ_ _=>rfl];refine XW (by simp) λi h1 h2=>?_;rw [XC,XC,xa,qC,qB (by rw [qA] at h2; exact h2)];rfl
theorem zSd {d:Addr} {pB:List (zZ×V)} {o:Obj} (e:H d=some (.dK pB)) (g:zE (zH H d (.frz o (.dK pB))) H'):zE H (zH H' d (.dK pB)):=λc u hc=>by
 by_cases z:c=d
 .subst z
  rw [e] at hc;rw [<-hc];exact zC
 .rw [zI z]
  exact g c u (by rw [zI z]; exact hc)
def muB (me wa:Addr):L2.St->Hp->Nat:=λ_ H=>(721 - zJW H me)*9+Z8 H wa
theorem zGg {me:Addr} {xs:List V} (h1:H me=some (.dT (ZZ R))) (h2:H wa=some (.lst xs)):muB me wa U H=(721 - R.length)*9+xs.length:=by
 unfold muB zJW;rw [h1,Zp h2];show (721 - (ZZ R).length)*9+xs.length=_;unfold ZZ;rw [qA]
inductive zJF (vs:List V) (H:Hp) (Q:VK) (E:XK):Prop
 | mk (t a b r:Addr) (ns ss zs:List Int):vs=[.ref t, .ref r]->zi H t a b ns ss->H r=some (.lst (zs.map V.int))->YJ ns ss zs->zs.length<=6->(∀H',zE H H'->Q (.bl true) H')->zJF vs H Q E
theorem jX:FS 2 ["plan","part","turned","p","met","waiting","here","some"] zLT:=zm
theorem zQi (F:Fu K "_law_turns_good" zLT f fd) (B:jP mg) (zset:mg "set"=none)
  (GD:Gd P w K mg base 7 g1 pH ["plan","part"] zHs "_law_turned")
  (GP:Gd P w K mg base 7 g2 pI ["plan","part"] zIt "turn_places")
  (GA:Gd P w K mg base 7 g3 pJ ["plan","part","place"] zHr "turned_at")
  (GE:Gd P w K mg base 7 g4 gd4 ["plan","part"] zMM "all_ends"):FnOk P w K mg base zU 8 f fd ["plan","part"] zJF:=by
 refine F.ok jX ?_ ?_
 .rintro _ _ _ _ ⟨t,a,b,r,ns,ss,zs,rfl,_⟩
  rfl
 rintro _ A _ s H _ Q E hr ⟨t,a,b,r,ns,ss,zs,rfl,pl,er,pk,z6,q⟩;have hu:=zAD hr;have zne:zs≠[]:=λz=>by have:=pk.ne; rw [z] at this; exact v6 this (by decide)
 refine ⟨_,(zD (zt 2 jX.nd (zL GD hr (zA (pv 0) (zA (pv 1) zB)))) (zD (zd (zT (Z3 hr.units) (zL GP hr (zA (pv 0) (zA (ZE ZP rfl B.list qq (zA (pv 1) zB)) zB))) (zP (J7 rfl) rfl B.sorted xx (zA (pv 2) zB)) (zV _)) (zG (zM ZU)) zW) (JK.hold (zD (Zq qi rfl (zHR (pv 2)) (Yk 3 jX.nd) (zG (zd (zT (Z3 hr.units) (zL GA hr (zA (pv 0) (zA (ZE ZP rfl B.list qq (zA (pv 1) zB)) (zA (pv 3) zB)))) (Jg hu (pv 2) (pv 3) (λ_ _=>rfl)) (zV _)) (zG (zM ZU)) zW))) (zD (zt 4 jX.nd zAj) (zD (zt 5 jX.nd (zv (zA (pv 1) zB))) (zD (YV qi (zT (Z3 hr.units) (pv 5) (zv zB) (zV _)) (zD (zt 6 jX.nd (zFp qk XU vH zEb (pv 5))) (zG (zd (zBo (JG hu (ZE Yb rfl B.tuple Q4 (zA (pv 6) zB)) (pv 4))) (zD (j8 hu (pv 4) (ZE Yb rfl B.tuple Q4 (zA (pv 6) zB)) ZU rfl) (zD (zt 7 jX.nd (zL GD hr (zA (pv 0) (zA (pv 6) zB)))) (zG (zo (YF qk XG XH zAJ (pv 5) (zA (zOO (ZR ["p"] rfl (bk jX) (zHR (pv 7)) (λpA C fp s3 H3=>⟨(yI jX),yN,(Jg hu (pv 8) (pv 0) (λ_ _=>rfl))⟩))) zB)))))) zW)))) (zG (zM (ZT (zAc hr.units) (zL GE hr (zA (pv 0) (zA (ZE ZP rfl B.list qq (zA (pv 1) zB)) zB))) (zAS rfl rfl B.sorted rfl zset (zGL (ZR ["row"] rfl (bk jX) (zGd (pv 4)) (λpA C fp s3 H3=>⟨(yI jX),yN,(zz (j5 K) (pv 0) (Y9 Yc zJ))⟩)))) (zV _))))))))))),?_⟩;refine ⟨_,rfl,_,rfl,t,a,b,r,ns,ss,zs,rfl,pl,er,by lia,zne,pk.nd,λd rs H1 g1 nd1 ed1 nr1 R1=>?_⟩;have kl:(ZI ss zs).length=rs.length:=by rw [R1.len,qA]
 have pfew:=zGP (ss:=ss) z6;refine ⟨_,rfl,_,rfl,r,_,rfl, .inl (zK.of (g1 _ _ er)),λl1 hl1=>?_⟩;have s1:=zE.new hl1 (.lst (zs.map V.int));refine ⟨t,a,b,l1,ns,ss,zs,rfl,(pl.same g1).same s1,zC,pk,λl2 H2 g2 nl2 el2=>?_⟩;have g02:=s1.trans g2;refine ⟨_,rfl,d,_,iv (ZI ss zs),rfl,g02 _ _ ed1,by rw [zED kl]; unfold iv; rw [qo]; rfl,by rw [yV]; lia,λl3 ys hl3 pm so=>?_⟩;have ey:ys=iv (ZI ss zs):=zAe (zAY so (pm.nodup_iff.mpr ((zOE (zCC ss zs)).imp λh=>xB h))) (zOE (zCC ss zs)) λz=>pm.mem_iff;subst ey;have s3:=zE.new hl3 (.lst ((iv (ZI ss zs)).map V.int));refine ⟨true,Jp (s3 _ _ el2) zC,_,rfl,ZG ?_⟩;have g13:=g02.trans s3;generalize zH H2 l3 (.lst ((iv (ZI ss zs)).map V.int))=H3 at g13 ⊢;clear s1 g2 nl2 el2 g02 hl3 pm so s3 hl1;refine ⟨d,_,g13 _ _ ed1,λfo=>?_⟩;have gF:zE H (zH H3 d (.frz fo (.dK (YN (ZI ss zs) rs)))):=λc o hc=>by rw [zI (zF hc nd1)]; exact g13 _ _ (g1 _ _ hc)
 have eF:zH H3 d (.frz fo (.dK (YN (ZI ss zs) rs))) d=some (.frz fo (.dK (YN (ZI ss zs) rs))):=zC;have RF:zq (zH H3 d (.frz fo (.dK (YN (ZI ss zs) rs)))) rs ((ZI ss zs).map (Zf zs)):=(R1.same g13).put λz=>(nr1 d z).2 rfl;generalize zH H3 d (.frz fo (.dK (YN (ZI ss zs) rs)))=HF at gF eF RF ⊢;refine jQ (λU' H'=>∃x3,U'=[some (.ref t),some (.ref r),some (.ref d),x3,none,none,none,none]/\zE HF H') (λN hN=>?_) ?_
 .refine ⟨_,rfl,d,fo,_,rfl,eF,zMK (λi U' H'=>∃x3,U'=[some (.ref t),some (.ref r),some (.ref d),x3,none,none,none,none]/\zE HF H') ⟨_,rfl,zE.rfl'⟩ (λi U' H' _ ⟨_,_,g⟩=>g _ _ eF) ?_ λU' H' h=>hN _ _ h⟩
  rintro i k U' H4 hk ⟨x3,rfl,g4⟩;rw [zED kl,qM] at hk;cases hp:(ZI ss zs)[i]? with
  | none=>rw [hp] at hk; cases hk
  | some p=>
  rw [hp] at hk;cases hk;have hi:i<rs.length:=by rw [<-kl]; exact (List.getElem?_eq_some_iff.mp hp).1
  have hr':rs[i]?=some rs[i]:=qB hi;obtain ⟨o,eo,ho⟩:=RF.at_ i _ hr';rw [qM,hp] at eo;cases eo;have hv:=zEI ((zCC ss zs).imp λh=>qb h) hp hr';generalize rs[i]=ro at ho hv;refine ⟨_,rfl,_,rfl,r,_,rfl, .inl (zK.of (g4 _ _ (gF _ _ er))),λl4 hl4=>?_⟩;have s4:=zE.new hl4 (.lst (zs.map V.int));refine ⟨_,rfl,t,a,b,l4,ns,ss,zs,p,rfl,((pl.same gF).same g4).same s4,zC,pk,qp hp,λl5 H5 g5 nl5 el5=>?_⟩;have g45:=g4.trans (s4.trans g5);refine ⟨_,rfl,_,rfl,d, .ref ro,rfl, .inl ⟨_,_, .inr ⟨fo,g45 _ _ eF⟩,rfl,hv.symm⟩,true,Jp el5 (g45 _ _ ho),_,rfl,ZG ?_⟩;exact ⟨_,rfl,g45⟩
 rintro U' H4 ⟨x3,rfl,g4⟩;have eF4:=g4 _ _ eF;have gF4:=gF.trans g4;clear RF g4 eF gF;intro me hme;have s1:=zE.new hme (.dT []);refine ⟨_,rfl,(by show 1<=sizeLine; decide),λwa hwa=>?_⟩;have s2:=zE.new hwa (.lst [.ref r]);have mw:me≠wa:=zF (zC (H:=H4) (a:=me) (o:= .dT [])) hwa;have eM:zH (zH H4 me (.dT [])) wa (.lst [.ref r]) me=some (.dT (ZZ [])):=s2 _ _ zC;have eW:zH (zH H4 me (.dT [])) wa (.lst [.ref r]) wa=some (.lst ([r].map V.ref)):=zC;have gB:=s1.trans s2;have hwa4:H4 wa=none:=zR s1 hwa;generalize zH (zH H4 me (.dT [])) wa (.lst [.ref r])=HB at gB eM eW ⊢;clear s1 s2;have nsB:∀{c:Addr} {o:HO},H4 c=some o->c≠me/\c≠wa:=λh=>⟨zF h hme,zF h hwa4⟩;have inB:∀{c:Addr} {o:HO} {H':Hp},H4 c=some o->Ex (λb=>b=me\/b=wa) HB H'->H' c=some o:=λ{c o H'} h e=>e _ _ (λz=>z.elim (nsB h).1 (nsB h).2) (gB _ _ h);have erB:=gB _ _ (gF4 _ _ er);dsimp only [ZW,JL];refine yy (λU H'=>∃(x6 x7:Option V) (R Z:List (List Int)) (ws:List Addr),U=[some (.ref t),some (.ref r),some (.ref d),x3,some (.ref me),some (.ref wa),x6,x7]/\Ex (λb=>b=me\/b=wa) HB H'/\H' me=some (.dT (ZZ R))/\H' wa=some (.lst (ws.map V.ref))/\zq H' ws Z/\wa∉ws/\Z.length<=8*R.length+1/\WkT ss zs R Z)
  (muB me wa) ⟨_,_,[],[zs],[r],rfl,Ex.refl,eM,eW,zq.one erB,λz=>(nsB (gF4 _ _ er)).2 (List.mem_singleton.mp z).symm,qG 1,WkT.start ss zs⟩ ?_
 rintro U HA ⟨x6,x7,R,Z,ws,rfl,EA,eM,eW,RW,wn,wl,wk⟩;have cap:∀{R' W':List (List Int)},WkT ss zs R' W'->R'.length<=720:=λk=>zPY z6 k.nd λr hr=>((k.r r hr).part pk).2;have c7:=cap wk;refine ⟨_,rfl,(by show 0<=sizeLine; decide),λz1 hz1=>?_⟩;have gy:=zE.new hz1 (.lst []);refine ⟨_,jq (zK.of (gy _ _ eW)) (zK.of zC),_,rfl,?_⟩;generalize zH HA z1 (.lst [])=HC at gy ⊢;have EC:=EA.trans (Ex.same gy);have eMC:=gy _ _ eM;have eWC:=gy _ _ eW;have RC:=RW.same gy;refine zr (λc=>?_) (λc=>?_)
 .refine jO (H:=HA) (μ:=muB me wa) ?_
  have ne:ws≠[]:=λz=>by rw [z] at c; cases c
  obtain ⟨ws0,x,W0,xo,rfl,rfl,R0,ex⟩:=RC.pop ne;have x1:=wk.w xo (qS _ (List.mem_singleton.mpr rfl));obtain ⟨xp,xm⟩:=x1.part pk;have x6':xo.length<=6:=by rw [xm.length_eq]; exact z6
  have xne:xo≠[]:=λz=>by have:=xp.ne; rw [z] at this; exact v6 this (by decide)
  have wlen:W0.length<=8*R.length:=by rw [qJ] at wl; exact Nat.le_of_succ_le_succ wl
  have wn0:wa∉ws0:=λz=>wn (qX _ z);have xw:x≠wa:=λz=>wn (qS _ (by rw [z]; exact List.mem_singleton.mpr rfl));have mu0:∀U,muB me wa U HA=(721 - R.length)*9+(W0.length+1):=λU=>by rw [zGg eM eW,qA,qJ,R0.len]; rfl
  refine ⟨_,rfl, .inl ⟨rfl,_,zK.of eWC⟩,wa,ws0.map V.ref, .ref x,rfl,rfl,by rw [eWC,qN]; rfl,?_⟩;have E1:Ex (λb=>b=me\/b=wa) HB (zH HC wa (.lst (ws0.map V.ref))):=EC.trans (Ex.put _ (.inr rfl));have eW1:zH HC wa (.lst (ws0.map V.ref)) wa=some (.lst (ws0.map V.ref)):=zC;have eM1:zH HC wa (.lst (ws0.map V.ref)) me=some (.dT (ZZ R)):=by rw [zI mw]; exact eMC
  have ex1:zH HC wa (.lst (ws0.map V.ref)) x=some (.lst (xo.map V.int)):=by rw [zI xw]; exact ex
  have R1':zq (zH HC wa (.lst (ws0.map V.ref))) ws0 W0:=R0.put wn0;generalize zH HC wa (.lst (ws0.map V.ref))=HD at E1 eW1 eM1 ex1 R1' ⊢;refine ⟨_,rfl,x,_,rfl, .inl ⟨zK.of ex1,λk1 hk1=>?_⟩⟩;have g5:=zE.new hk1 (.tup (xo.map V.int));have ek1:zH HD k1 (.tup (xo.map V.int)) k1=some (.tup ((kR xo).map kV)):=by rw [zC,zDC]
  have E2:=E1.trans (Ex.same g5);have eW2:=g5 _ _ eW1;have eM2:=g5 _ _ eM1;have ex2:=g5 _ _ ex1;have R2':=R1'.same g5;generalize zH HD k1 (.tup (xo.map V.int))=HE at ek1 E2 eW2 eM2 ex2 R2' ⊢;refine ⟨_,rfl,me,_,rfl,YX.t eM2 ek1,_,rfl,zr (λc2=>?_) (λc2=>?_)⟩
  .have nin:xo∉R:=λz=>by
    have c':(!(ZJ (ZZ R) (kR xo)).isSome)=true:=c2;rw [Jc,qK z] at c';cases c'
   have vnone:ZJ (ZZ R) (kR xo)=none:=by
    have:=Jc R xo;rw [qa nin] at this;exact Option.isSome_eq_false_iff.mp this|>Option.isNone_iff_eq_none.mp
   have wkN:=wk.take nin;have cN:=cap wkN;rw [qJ] at cN;have cN:R.length+1<=720:=cN;have klen:(ZZ R).length=R.length:=by unfold ZZ; exact qA _
   refine ⟨_,rfl,_,rfl,x,_,rfl, .inl ⟨zK.of ex2,λk2 hk2=>?_⟩⟩;have g6:=zE.new hk2 (.tup (xo.map V.int));have ek2:zH HE k2 (.tup (xo.map V.int)) k2=some (.tup ((kR xo).map kV)):=by rw [zC,zDC]
   have E3:=E2.trans (Ex.same g6);have eM3:=g6 _ _ eM2;have eW3:=g6 _ _ eW2;have ex3:=g6 _ _ ex2;have R3:=R2'.same g6;generalize zH HE k2 (.tup (xo.map V.int))=HG at ek2 E3 eM3 eW3 ex3 R3 ⊢;refine ⟨me,_,rfl,jp.t eM3 ek2 (by rw [klen,Ql]; lia),?_⟩;have ep:Zd (ZZ R) (kR xo) (.bl true)=ZZ (R++[xo]):=by
    rw [J2 _ vnone];unfold ZZ;rw [qN];rfl
   rw [ep];have E4:Ex (λb=>b=me\/b=wa) HB (zH HG me (.dT (ZZ (R++[xo])))):=E3.trans (Ex.put _ (.inl rfl));have eM4:zH HG me (.dT (ZZ (R++[xo]))) me=some (.dT (ZZ (R++[xo]))):=zC;have eW4:zH HG me (.dT (ZZ (R++[xo]))) wa=some (.lst (ws0.map V.ref)):=by rw [zI (Ne.symm mw)]; exact eW3
   have ex4:zH HG me (.dT (ZZ (R++[xo]))) x=some (.lst (xo.map V.int)):=by rw [zI (zw ex3 eM3 (by intro z; cases z))]; exact ex3
   have R4:zq (zH HG me (.dT (ZZ (R++[xo])))) ws0 W0:=R3.put λz=>by
    obtain ⟨i,hi⟩:=List.getElem?_of_mem z;obtain ⟨o,_,e⟩:=R3.at_ i me hi;rw [eM3] at e;cases e
   generalize zH HG me (.dT (ZZ (R++[xo])))=HH at E4 eM4 eW4 ex4 R4 ⊢;have plH:zi HH t a b ns ss:=⟨inB (gF4 _ _ pl.t) E4,inB (gF4 _ _ pl.a) E4,inB (gF4 _ _ pl.b) E4,pl.ok⟩;refine ⟨_,rfl,_,rfl,t,a,b,x,ns,ss,xo,rfl,plH,ex4,by lia,xne,xp.nd,λd2 pM HI gI nd2 ed2 nr2 R2=>?_⟩;have kl2:(ZI ss xo).length=pM.length:=by rw [R2.len,qA]
   have pf2:=zGP (ss:=ss) x6';refine ⟨_,rfl, .inl ⟨rfl,_,zK.of (gI _ _ eW4)⟩,d2,_,ed2,λo2=>⟨_,rfl,d2,o2,_,rfl,zC,λD hD=>?_⟩⟩;have ef2:zH HI d2 (.frz o2 (.dK (YN (ZI ss xo) pM))) d2=some (.frz o2 (.dK (YN (ZI ss xo) pM))):=zC;refine zIU (λ_=>true) (λi=> .ref (pM.getD i 0)) ef2 hD (by rw [zBv kl2]; lia) (λi H' hi g P hP=>?_) (λi H' hi _ g P hP=>?_) λHJ gJ eJ=>?_
   .exact hP _ zE.rfl'
   .rw [zBv kl2] at hi
    have hp:(ZI ss xo)[i]?=some (ZI ss xo)[i]:=qB hi;have hi2:i<pM.length:=by lia
    have hv:=zEI ((zCC ss xo).imp λh=>qb h) hp (qB hi2);have ek:((YN (ZI ss xo) pM).map λkv=>kV kv.1).getD i .non= .int (((ZI ss xo)[i]:Nat):Int):=by
     have e:=zED kl2;have e2:(YN (ZI ss xo) pM).map (λkv=>kV kv.1)=((YN (ZI ss xo) pM).map (·.1)).map kV:=by rw [qo]; rfl
     rw [e2,e,qo,qC,qM,hp];rfl
    rw [ek];have er2:pM.getD i 0=pM[i]:=by rw [qC,qB hi2]; rfl
    rw [er2] at hP;exact ⟨_,rfl,_,rfl,d2,_,rfl, .inl ⟨_,_, .inr ⟨o2,g _ _ ef2⟩,rfl,hv.symm⟩,hP _ zE.rfl'⟩
   rw [zLR pM (by rw [zBv kl2,kl2])] at eJ;have gK:=zSd ed2 gJ;have Dd:D≠d2:=Ne.symm (zF ef2 hD);have eD:zH HJ d2 (.dK (YN (ZI ss xo) pM)) D=some (.lst (pM.map V.ref)):=by rw [zI Dd]; exact eJ
   refine ⟨gJ _ _ ef2,?_⟩;generalize zH HJ d2 (.dK (YN (ZI ss xo) pM))=HK at gK eD ⊢;have gIK:=gI.trans gK;refine ⟨wa,D,_,_,rfl,rfl,gIK _ _ eW4,eD,by rw [qA,qA,R0.len,Ql]; lia,?_⟩;have wn2:wa∉pM:=λz=>by
    have:=(nr2 wa z).1;rw [eW4] at this;cases this
   have eMf:zH HK wa (.lst (ws0.map V.ref++pM.map V.ref)) me=some (.dT (ZZ (R++[xo]))):=by rw [zI mw]; exact gIK _ _ eM4
   refine ⟨⟨_,_,R++[xo],W0++(ZI ss xo).map (Zf xo),ws0++pM,rfl,(E4.trans (Ex.same gIK)).trans (Ex.put _ (.inr rfl)),eMf,by rw [zC,qN],zq.append ((R4.same gIK).put wn0) ((R2.same gK).put wn2),λz=>(List.mem_append.mp z).elim wn0 wn2,by rw [qJ,qJ,qA]; show _<=8*(R.length+1)+1; lia,wkN⟩,?_⟩;rw [mu0,zGg eMf zC,qJ,qJ,qA,qA,R0.len,<-kl2];show (721 - (R.length+1))*9+_<_;lia
  .have inn:xo∈R:=by
    rcases Xm (xo∈R) with z | z
    .exact z
    .refine v6 ?_ c2
     show (!(ZJ (ZZ R) (kR xo)).isSome)=true;rw [Jc,qa z];rfl
   refine ⟨⟨_,_,R,W0,ws0,rfl,E2,eM2,eW2,R2',wn0,by lia,wk.skip inn⟩,?_⟩;rw [mu0,zGg eM2 eW2,qA,R0.len];lia
 .have we:ws=[]:=by
   cases ws with
   | nil=>rfl
   | cons _ _=>exact v6 rfl c
  subst we;have we:Z=[]:=List.length_eq_zero_iff.mp RC.len.symm;subst we;have all:=wk.done;have plC:zi HC t a b ns ss:=⟨inB (gF4 _ _ pl.t) EC,inB (gF4 _ _ pl.a) EC,inB (gF4 _ _ pl.b) EC,pl.ok⟩;refine ⟨_,rfl,_,rfl,r,_,rfl, .inl (zK.of (inB (gF4 _ _ er) EC)),λl1 hl1=>?_⟩;have s1:=zE.new hl1 (.lst (zs.map V.int));refine ⟨t,a,b,l1,ns,ss,zs,rfl,plC.same s1,zC,pk,λl2 ys2 H2 g2 nl2 el2 up2 my2=>?_⟩;have g02:=s1.trans g2;have eM2:=g02 _ _ eMC;have E2:=EC.trans (Ex.same g02);clear s1 nl2 hl1;have klen:(ZZ R).length=R.length:=by unfold ZZ; exact qA _
  refine ⟨me,_,eM2,λo=>?_⟩;have eF:zH H2 me (.frz o (.dT (ZZ R))) me=some (.frz o (.dT (ZZ R))):=zC;refine ⟨_,rfl,me,o,_,rfl,eF,λD hD=>?_⟩;have Ds:me≠D:=zF eF hD;refine Zy (n:=R.length) (λi U' H'=>∃x:Option V,U'=[x,some (.ref t),some (.ref r),some (.ref d),x3,some (.ref me),some (.ref wa),x6,x7]/\zE (zH H2 me (.frz o (.dT (ZZ R)))) H'/\H' D=some (.lst (((R.take i).map λr=>r.getD (r.length - 1) 0).map V.int)))
   ⟨none,rfl,zE.new hD _,zC⟩ ?_ ?_
  .rintro i U' H' hi ⟨x,rfl,g,eD⟩
   refine ⟨⟨g _ _ eF,by rw [klen]; exact hi⟩,λy H3 hy=>?_⟩;obtain ⟨rfl,kk,b2,h1,rfl,h2⟩:=hy;have ek:R[i]?=some R[i]:=qB hi;have:kk=kR R[i]:=by
    unfold ZZ at h1;rw [qo,qM,ek] at h1;exact (Option.some.inj h1).symm
   subst this;rw [zDC] at h2;refine JF ?_;refine ⟨_,rfl,_,rfl,b2,_,-1,_,rfl,rfl,ZD.of h2,zCj ((wk.r _ (qg hi)).part pk).1.ne,?_⟩;refine ⟨_,eD,by rw [qA,qA,QC,Ql]; lia,_,rfl,λc o hc=>?_,?_⟩
   .rw [zI (zF hc hD)]
    exact g _ _ hc
   .rw [zC,QR,ek,qN,qN]
    rfl
  .rintro U' H' ⟨x,rfl,g,eD⟩
   refine ⟨⟨g _ _ eF,by rw [klen]; exact qG _⟩,?_⟩;rw [q9 (qG _)] at eD;refine ⟨g _ _ eF,D,R.map λr=>r.getD (r.length - 1) 0,zs,rfl,zK.of (by rw [zI (Ne.symm Ds)]; exact eD),λy hy=>?_,by lia,λl ys hl up my=>?_⟩
   .obtain ⟨r,hr,rfl⟩:=List.mem_map.mp hy
    obtain ⟨h1,h2⟩:=(wk.r r hr).part pk;refine h2.mem_iff.mp ?_;have pL:r.length - 1<r.length:=by have:=h1.ne; lia
    rw [qC,qB pL];exact qg pL
   .have gl:zE H2 (zH (zH H' me (.dT (ZZ R))) l (.lst (ys.map V.int))):=λc o' hc=>by
     rcases Xm (c=me) with z | z
     .subst z
      rw [eM2] at hc;rw [<-hc];have cl':c≠l:=λw=>by rw [<-w,zC] at hl; cases hl
      rw [zI cl'];exact zC
     .have h1:=g c o' (by rw [zI z]; exact hc)
      have cl':c≠l:=λw=>by rw [<-w,zI z,h1] at hl; cases hl
      rw [zI cl',zI z];exact h1
    have ey:=zAe up2 up λy=>by
     rw [my2 y,my y,XE];exact ⟨λ⟨r,h1,h2⟩=>⟨r,(all r).mp h1,h2⟩,λ⟨r,h1,h2⟩=>⟨r,(all r).mpr h1,h2⟩⟩
    subst ey;refine ⟨true,Jp (gl _ _ el2) zC,?_⟩;have Ef:=E2.trans (Ex.same gl);refine ⟨inB eF4 Ef,q _ λc o' hc=>?_⟩;rw [zI (zF hc nd1)];exact inB (gF4 _ _ hc) Ef
namespace Ct
abbrev zMq:Stmt:=top 49
abbrev zLN:Stmt:=top 51
structure zNv (ns cs:List Int):Prop where
 up:zAP cs
 sub:∀x∈cs,x∈ns
 len:cs.length<ns.length
inductive zID (vs:List V) (H:Hp) (Q:VK) (E:XK):Prop
 | mk (t a b p:Addr) (ns ss cs:List Int):vs=[.ref t, .ref p]->zi H t a b ns ss->H p=some (.lst (cs.map V.int))->zNv ns cs->(∀(l:Addr) (as:List Addr) (rs:List (List Int)) (H':Hp),zE H H'->H l=none->(∀a∈as,H a=none)->as.Nodup->l∉as->H' l=some (.lst (as.map V.ref))->ZB H' as rs->YA ss (ns.filter λx=> !cs.contains x) rs->Q (.ref l) H')->zID vs H Q E
noncomputable def sng (ns ss cs:List Int):Bool:=decide (cs.length<ns.length)&&(decide (ns.length<3)||decide (max cs.length 1<zBe ss (ns.filter λx=> !cs.contains x)))
inductive zIH (vs:List V) (H:Hp) (Q:VK) (E:XK):Prop
 | mk (t a b p:Addr) (ns ss cs:List Int):vs=[.ref t, .ref p]->zi H t a b ns ss->H p=some (.lst (cs.map V.int))->zAP cs->cs.length<=10->(∀x∈cs,x∈ns)->(∀H',zE H H'->Q (.bl (sng ns ss cs)) H')->zIH vs H Q E
theorem zRH:FS 2 ["plan","cut"] zMq:=zm
theorem zPn (F:Fu K "parts_left" zMq f fd)
  (GC:Gd P w K mg base 5 g1 pH ["plan"] yw "check_plan")
  (GI:Gd P w K mg base 5 g2 pI ["plan","thing"] zDl "is_cut")
  (GP:Gd P w K mg base 5 g3 pJ ["plan","cut"] zAp "parts_behind"):FnOk P w K mg base zU 6 f fd ["plan","cut"] zID:=by
 refine F.ok zRH ?_ ?_
 .rintro _ _ _ _ ⟨t,a,b,p,ns,ss,cs,rfl,_⟩
  rfl
 rintro _ A _ s H _ Q E hr ⟨t,a,b,p,ns,ss,cs,rfl,pl,hp,ck,q⟩;have n10:=pl.ok.n2;have cl:=ck.len;refine ⟨_,(zD (zo (zL GC hr (zA (pv 0) zB))) (zD (zd (Zi (ZN (zL GI hr (zA (pv 0) (zA (pv 1) zB))))) (zG yS) zW) (zG (zM (zL GP hr (zA (pv 0) (zA (pv 1) zB))))))),?_⟩;refine ⟨_,rfl,t,a,b,ns,ss,rfl,pl,_,rfl,_,rfl,t,a,b,p,ns,ss,cs,rfl,pl,hp,ck.up,by lia,ck.sub,λH2 g2=>?_⟩;rw [qK cl];refine ⟨_,rfl,ZG ?_⟩;refine ⟨_,rfl,_,rfl,t,a,b,p,ns,ss,cs,rfl,pl.same g2,g2 _ _ hp,by lia,λl as rs H3 g3 nl fre nd lo el rows parts=>?_⟩;exact q l as rs H3 (g2.trans g3) (zR g2 nl) (λc hc=>zR g2 (fre c hc)) nd lo el rows parts
theorem zRw:FS 2 ["plan","thing"] zLN:=zm
theorem zPb (F:Fu K "shows_no_ring" zLN f fd) (B:Bt3 mg) (m3:mg "FEWEST_IN_RING"=some (.int 3 t3))
  (GC:Gd P w K mg base 5 g1 pH ["plan"] yw "check_plan")
  (GI:Gd P w K mg base 5 g2 pI ["plan","thing"] zDl "is_cut")
  (GP:Gd P w K mg base 5 g3 pJ ["plan","cut"] zAp "parts_behind"):FnOk P w K mg base zU 6 f fd ["plan","thing"] zIH:=by
 refine F.ok zRw ?_ ?_
 .rintro _ _ _ _ ⟨t,a,b,p,ns,ss,cs,rfl,_⟩
  rfl
 rintro _ A _ s H _ Q E hr ⟨t,a,b,p,ns,ss,cs,rfl,pl,hp,ri,c10,sub,q⟩;refine ⟨_,(zD (zo (zL GC hr (zA (pv 0) zB))) (zD (zd (Zi (ZN (zL GI hr (zA (pv 0) (zA (pv 1) zB))))) (zG (zM ZU)) zW) (zD (zd (zT ji (zP zQ rfl B.len qU (zA (zz zh (pv 0) zJ) zB)) (jR (v:= .int 3) rfl m3 ⟨_,rfl⟩) (zV _)) (zG (zM ZU)) zW) (zG (zM (ZT zFI (zP zQ rfl B.len qU (zA (zL GP hr (zA (pv 0) (zA (pv 1) zB))) zB)) (zP (zEx rfl) rfl B.max boot_max (zA (zP zQ rfl B.len qU (zA (pv 1) zB)) (zA zJ zB))) (zV _))))))),?_⟩;unfold sng at q;have nml:(ns.map V.int).length=ns.length:=qA _;have cml:(cs.map V.int).length=cs.length:=qA _;refine ⟨_,rfl,t,a,b,ns,ss,rfl,pl,_,rfl,_,rfl,t,a,b,p,ns,ss,cs,rfl,pl,hp,ri,c10,sub,λH2 g2=>⟨_,rfl,?_⟩⟩;by_cases c:cs.length<ns.length
 .rw [qK c,QJ] at q
  rw [qK c];refine ZG ?_;have pl2:=pl.same g2;refine ⟨_,rfl,t,_,0,_,rfl,rfl,ZD.of pl2.t,rfl,a,_,rfl, .inl (zK.of pl2.a),_,_,rfl,rfl,_,rfl,zr (λc2=>?_) (λc2=>?_)⟩
  .have h:=qZ c2
   rw [nml] at h;rw [qK (by lia:ns.length<3),Bool.true_or] at q;exact q _ g2
  .have h:¬(((ns.map V.int).length:Nat):Int)<3:=λz=>c2 (qK z)
   rw [nml] at h;rw [qa (by lia:¬ns.length<3),X3] at q;refine ⟨_,rfl,_,rfl,t,a,b,p,ns,ss,cs,rfl,pl2,g2 _ _ hp,c10,λl as rs H3 g3 nl fre nd lo el rows parts=>?_⟩;refine ⟨l,_,rfl, .inl (zK.of el),_,rfl,p,_,rfl, .inl (zK.of (g3 _ _ (g2 _ _ hp))),_,_,rfl,_,_,rfl,rfl,?_⟩;rw [Jk parts] at q;have e:decide ((if ((cs.map V.int).length:Int)<1 then (1:Int) else ((cs.map V.int).length:Int))<((as.map V.ref).length:Nat))=decide (max cs.length 1<rs.length):=by
    rw [qA,qA,rows.len];refine decide_eq_decide.mpr ?_;split <;> lia
   show Q (.bl (decide ((if ((cs.map V.int).length:Int)<1 then (1:Int) else ((cs.map V.int).length:Int))<((as.map V.ref).length:Nat)))) H3;rw [e];exact q _ (g2.trans g3)
 .rw [qa c,xG] at q
  rw [qa c];exact Yu (q _ g2)
def zBH (cs:List Int) (F:List (List Int)) (x:Int):List (List Int):=if cs.contains x=true then F++[[]] else F.dropLast++[F.getLastD []++[x]]
def jG (cs zs:List Int):List (List Int):=zs.foldl (zBH cs) [[]]
def zAq (cs zs:List Int):List (List Int):=(jG cs zs).filter λs=> !s.isEmpty
theorem zJk (cs p:List Int) (x:Int):jG cs (p++[x])=zBH cs (jG cs p) x:=by
 unfold jG;rw [List.foldl_append];rfl
structure zDO (ss cs p:List Int) (F:List (List Int)):Prop where
 ne:F≠[]
 out:∀s∈F,∀x∈s,x∈p/\cs.contains x=false
 ch:∀s∈F,yB ss s=true
 cover:∀x∈p,cs.contains x=false->∃s∈F,x∈s
 len:F.length=1+(p.filter λx=>cs.contains x).length
 last:∀y r,F.getLastD []=y::r->p.getLast?=some (Z0 y r)
theorem zLi (ss:List Int) (x:Int) (r:List Int) (y:Int):yB ss (x::r++[y])=(yB ss (x::r)&&zY ss (Z0 x r) y):=by
 rw [JY];have:yB ss [y]=true:=rfl;rw [this,xn]
theorem zGf (h:F≠[]):F.getLastD []∈F:=by
 rw [Qw,Qz h];exact vt h
theorem zDO.step {p:List Int} (h:zDO ss cs p F) (ad:cs.contains x=false->∀y,p.getLast?=some y->zY ss y x=true):zDO ss cs (p++[x]) (zBH cs F x):=by
 have fl:(p++[x]).filter (λx=>cs.contains x)=p.filter (λx=>cs.contains x)++if cs.contains x=true then [x] else []:=by rw [qz,qh,Qo]
 unfold zBH;by_cases c:cs.contains x=true
 .rw [qO c]
  refine ⟨by simp,λs hs z hz=>?_,λs hs=>?_,λz hz hc=>?_,?_,λy r e=>?_⟩
  .rcases List.mem_append.mp hs with w | w
   .exact ⟨qX _ (h.out s w z hz).1,(h.out s w z hz).2⟩
   .rw [List.mem_singleton.mp w] at hz; cases hz
  .rcases List.mem_append.mp hs with w | w
   .exact h.ch s w
   .rw [List.mem_singleton.mp w]; rfl
  .rcases List.mem_append.mp hz with w | w
   .obtain ⟨s,h1,h2⟩:=h.cover z w hc
    exact ⟨s,qX _ h1,h2⟩
   .rw [List.mem_singleton.mp w,c] at hc; cases hc
  .rw [fl,qO c,qJ,qJ,h.len]; rfl
  .rw [Qw,XZ] at e
   cases e
 .rw [qP c]
  have cf:=Bool.eq_false_iff.mpr c;have lm:=zGf h.ne;have dm:∀s∈F.dropLast,s∈F:=λs hs=>(List.dropLast_sublist F).subset hs;have split:∀s∈F,s∈F.dropLast\/s=F.getLastD []:=λs hs=>by
   have e:=QL h.ne;rw [<-e] at hs;rcases List.mem_append.mp hs with w | w
   .exact .inl w
   .right
    rw [List.mem_singleton.mp w,Qw,Qz h.ne];rfl
  refine ⟨by simp,λs hs z hz=>?_,λs hs=>?_,λz hz hc=>?_,?_,λy r e=>?_⟩
  .rcases List.mem_append.mp hs with w | w
   .exact ⟨qX _ (h.out s (dm s w) z hz).1,(h.out s (dm s w) z hz).2⟩
   .rw [List.mem_singleton.mp w] at hz
    rcases List.mem_append.mp hz with u | u
    .exact ⟨qX _ (h.out _ lm z u).1,(h.out _ lm z u).2⟩
    .rw [List.mem_singleton.mp u]; exact ⟨qS _ (List.mem_singleton.mpr rfl),cf⟩
  .rcases List.mem_append.mp hs with w | w
   .exact h.ch s (dm s w)
   .rw [List.mem_singleton.mp w]
    cases hl:F.getLastD [] with
    | nil=>rfl
    | cons y r=>
     rw [zLi,<-hl,h.ch _ lm,QJ];exact ad cf _ (h.last y r hl)
  .rcases List.mem_append.mp hz with w | w
   .obtain ⟨s,h1,h2⟩:=h.cover z w hc
    rcases split s h1 with u | u
    .exact ⟨s,qX _ u,h2⟩
    .exact ⟨_,qS _ (List.mem_singleton.mpr rfl),qX _ (u▸h2)⟩
   .exact ⟨_,qS _ (List.mem_singleton.mpr rfl),by rw [List.mem_singleton.mp w]; exact qS _ (List.mem_singleton.mpr rfl)⟩
  .rw [fl,qP c,qv,qJ,List.length_dropLast,h.len]
   show 1+_ - 1+1=_;lia
  .rw [Qw,XZ] at e
   have e':F.getLastD []++[x]=y::r:=e;rw [XZ];cases hl:F.getLastD [] with
   | nil=>
    rw [hl] at e';cases e';rfl
   | cons u v=>
    rw [hl] at e';obtain ⟨rfl,rfl⟩:=List.cons.inj e';show some x=some ((v++[x]).getLast?.getD u);rw [XZ];rfl
theorem zNl {ss cs:List Int}:∀(m:Nat) (zs:List Int),yB ss zs=true->zDO ss cs (zs.take m) (jG cs (zs.take m))
 | 0,zs,_=>by
  rw [vY];refine ⟨(λz=>nomatch z),λs hs x hx=>?_,λs hs=>?_,(λx hx=>nomatch hx),rfl,(λy r e=>nomatch e)⟩
  .have hs':s∈[([]:List Int)]:=hs
   rw [List.mem_singleton.mp hs'] at hx;cases hx
  .have hs':s∈[([]:List Int)]:=hs
   rw [List.mem_singleton.mp hs'];rfl
 | m+1,zs,h=>by
  have ih:=zNl (cs:=cs) m zs h;rcases xN m zs.length with z | z
  .have tk:zs.take (m+1)=zs.take m++[zs[m]]:=by rw [QR,qB z]; rfl
   rw [tk,zJk];refine ih.step λ_ y hy=>?_;have hm:m≠0:=λw=>by rw [w,vY] at hy; cases hy
   have pL:m - 1<zs.length:=by lia
   have ey:y=zs[m - 1]:=by
    rw [List.getLast?_eq_getElem?,QC,vU (by lia),Xg (by lia),qB pL] at hy;exact (Option.some.inj hy).symm
   rw [<-yp] at h;unfold nbB at h;have:=List.all_eq_true.mp h (m - 1) (List.mem_range.mpr (by lia));rw [qC,qC,qB pL,show m - 1+1=m by lia,qB z] at this;rw [ey];exact this
  .rw [q9 (by lia:zs.length<=m+1)]
   rw [q9 z] at ih;exact ih
theorem zAG (h:yB ss zs=true):zDO ss cs zs (jG cs zs):=by
 have:=zNl (cs:=cs) zs.length zs h
 rwa [q9 (qG _)] at this
theorem zGt:∀{s:List Int},yB ss s=true->(∀x∈s,x∈L)->∀x∈s,∀y∈s,Ze ss L x y:=by
 have key:∀(r:List Int) (a:Int),yB ss (a::r)=true->(∀x∈a::r,x∈L)->∀y∈a::r,Ze ss L a y:=λr=>by
  induction r with
  | nil=>
   intro a _ hL y hy;rw [List.mem_singleton.mp hy];exact .here (hL a qE)
  | cons b r ih=>
   intro a h hL y hy;have h':(zY ss a b&&yB ss (b::r))=true:=h;obtain ⟨h1,h2⟩:=Bool.and_eq_true_iff.mp h';rcases List.mem_cons.mp hy with z | z
   .rw [z]; exact .here (hL a qE)
   .have hb:=hL b (qF _ qE)
    exact (Ze.on (Ze.here (hL a qE)) hb h1).trans (ih b h2 (λx hx=>hL x (qF _ hx)) y z)
 intro s h hL x hx y hy;cases s with
 | nil=>cases hx
 | cons a r=>exact (key r a h hL x hx).symm.trans (key r a h hL y hy)
theorem zDD {α:Type} [DecidableEq α]:∀{xs ys:List α},xs.Nodup->(∀x∈xs,x∈ys)->xs.length<=ys.length
 | [],_,_,_=>QF _
 | x::xs,ys,nd,h=>by
  obtain ⟨h1,nd'⟩:=List.nodup_cons.mp nd;have hx:=h x qE;have ih:=zDD (ys:=ys.erase x) nd' λy hy=>(xu (λe:y=x=>h1 (e▸hy))).mpr (h y (qF _ hy));rw [Qb hx] at ih;have:0<ys.length:=xA hx;rw [qT];lia
theorem zCW {α β:Type} {R:α->β->Prop}:∀{l:List α},(∀a∈l,∃b,R a b)->∃m:List β,Paired R l m
 | [],_=>⟨[], .nil⟩
 | a::l,h=>by
  obtain ⟨b,hb⟩:=h a qE;obtain ⟨m,hm⟩:=zCW (l:=l) λx hx=>h x (qF _ hx);exact ⟨b::m, .cons hb hm⟩
def lft (ns cs:List Int):List Int:=ns.filter λx=> !cs.contains x
theorem zPk (h:Zh ns ss zs=true):∀s∈jG cs zs,∀x∈s,x∈lft ns cs:=λs hs x hx=>by
 obtain ⟨h1,h2⟩:=Bool.and_eq_true_iff.mp h;rw [yp] at h2;have o:=(zAG (cs:=cs) h2).out s hs x hx;exact List.mem_filter.mpr ⟨(List.isPerm_iff.mp h1).mem_iff.mp o.1,by rw [o.2]; rfl⟩
theorem zMX {rs:List (List Int)} (h:Zh ns ss zs=true) (P:YA ss (lft ns cs) rs) (hs:s∈jG cs zs) (ne:s≠[]):∃p∈rs,∀x∈s,x∈p:=by
 have h2:=(Bool.and_eq_true_iff.mp h).2;rw [yp] at h2;have hin:=zPk (cs:=cs) h s hs;obtain ⟨a,r,e⟩:=xD ne;have ha:a∈s:=by rw [e]; exact qE
 obtain ⟨p,hp,hap⟩:=P.cover a (hin a ha);refine ⟨p,hp,λx hx=>?_⟩;exact ((P.each p hp).all hap x).mpr (zGt ((zAG (cs:=cs) h2).ch s hs) hin a ha x hx)
theorem zCz {rs:List (List Int)} (h:Zh ns ss zs=true) (P:YA ss (lft ns cs) rs):rs.length<=(zAq cs zs).length:=by
 obtain ⟨h1,h2⟩:=Bool.and_eq_true_iff.mp h;rw [yp] at h2;have S:=zAG (cs:=cs) h2;have pm:=List.isPerm_iff.mp h1;obtain ⟨m,hm⟩:=zCW (l:=rs) (R:=λp s=>s∈zAq cs zs/\p.headD 0∈s) λp hp=>by
  have hh:=(P.each p hp).hd;have hl:=(P.each p hp).sub hh;obtain ⟨hn,hc⟩:=List.mem_filter.mp hl;obtain ⟨s,hs,hx⟩:=S.cover _ (pm.mem_iff.mpr hn) (by simpa using hc);refine ⟨s,List.mem_filter.mpr ⟨hs,?_⟩,hx⟩;cases s with
  | nil=>cases hx
  | cons a r=>rfl
 have nd:m.Nodup/\∀s∈m,s∈zAq cs zs:=by
  have gen:∀{l:List (List Int)} {m:List (List Int)},Paired (λp s=>s∈zAq cs zs/\p.headD 0∈s) l m->(∀p∈l,p∈rs)->(l.map λp=>p.headD 0).Pairwise (·<·)->m.Nodup/\(∀s∈m,s∈zAq cs zs)/\∀s∈m,∃p∈l,p.headD 0∈s:=by
   intro l m q
   induction q with
   | nil=>intro _ _; exact ⟨qr,nofun,nofun⟩
   | @cons p s l m hq t ih=>
    intro hin up;rw [qe] at up;obtain ⟨u1,u2⟩:=List.pairwise_cons.mp up;obtain ⟨i1,i2,i3⟩:=ih (λq hq=>hin q (qF _ hq)) u2;refine ⟨List.nodup_cons.mpr ⟨λz=>?_,i1⟩,λx hx=>?_,λx hx=>?_⟩
    .obtain ⟨q,hq',hx⟩:=i3 s z
     have hs:=(List.mem_filter.mp hq.1).1;obtain ⟨w,hw,all⟩:=zMX h P hs (λe=>by rw [e] at hx; cases hx);have e1:=(P.each p (hin p qE)).eq (P.each w hw) (P.each p (hin p qE)).hd (all _ hq.2);have e2:=(P.each q (hin q (qF _ hq'))).eq (P.each w hw) (P.each q (hin q (qF _ hq'))).hd (all _ hx);have:=u1 (q.headD 0) (List.mem_map.mpr ⟨q,hq',rfl⟩);rw [e1,e2] at this;lia
    .rcases List.mem_cons.mp hx with e | e
     .rw [e]; exact hq.1
     .exact i2 x e
    .rcases List.mem_cons.mp hx with e | e
     .rw [e]; exact ⟨p,qE,hq.2⟩
     .obtain ⟨q,h1,h2⟩:=i3 x e
      exact ⟨q,qF _ h1,h2⟩
  obtain ⟨a,b,_⟩:=gen hm (λ_ h=>h) P.up;exact ⟨a,b⟩
 have hl:rs.length=m.length:=Paired.length hm;rw [hl];exact zDD nd.1 nd.2
theorem zEM (nd:cs.Nodup) (h:Zh ns ss zs=true) (zn:zs.Nodup):(jG cs zs).length<=cs.length+1:=by
 have h2:=(Bool.and_eq_true_iff.mp h).2;rw [yp] at h2;rw [(zAG (cs:=cs) h2).len];have:=zDD (xs:=zs.filter λx=>cs.contains x) (ys:=cs) (zn.sublist Q9) λx hx=>List.contains_iff_mem.mp (List.mem_filter.mp hx).2;lia
theorem zHj (cs zs:List Int):(zAq cs zs).length<=(jG cs zs).length:=qY _ _
theorem zKW (hx:cs.contains x=true):(zAq cs (x::zs)).length+1<=(jG cs (x::zs)).length:=by
 have gen:∀(l:List Int) (F:List (List Int)),F≠[]->∃F',F'≠[]/\l.foldl (zBH cs) ([]::F)=[]::F':=λl=>by
  induction l with
  | nil=>exact λF h=>⟨F,h,rfl⟩
  | cons a l ih=>
   intro F h;rw [List.foldl_cons];have:∃F1,F1≠[]/\zBH cs ([]::F) a=[]::F1:=by
    unfold zBH;by_cases c:cs.contains a=true
    .rw [qO c]; exact ⟨F++[[]],by simp,rfl⟩
    .rw [qP c]
     obtain ⟨b,q,e⟩:=xD h;refine ⟨F.dropLast++[([]::F).getLastD []++[a]],by simp,?_⟩;rw [e];rfl
   obtain ⟨F1,h1,e1⟩:=this;rw [e1];exact ih F1 h1
 obtain ⟨F',_,e⟩:=gen zs [[]] (λz=>nomatch z);have e2:jG cs (x::zs)=[]::F':=by
  unfold jG;rw [List.foldl_cons];have:zBH cs [[]] x=[]::[[]]:=by unfold zBH; rw [qO hx]; rfl
  rw [this];exact e
 unfold zAq;rw [e2];have:(([]:List Int)::F').filter (λs=> !s.isEmpty)=F'.filter λs=> !s.isEmpty:=rfl;rw [this,qT];have:=qY (λs:List Int=> !s.isEmpty) F';lia
theorem zEq (h:1<=zBe ss L):∃rs,YA ss L rs:=by
 rcases Xm (∃rs,YA ss L rs) with z | z
 .exact z
 .unfold zBe at h
  rw [dif_neg z] at h;lia
theorem zHq (h:xs.Pairwise (·<·)):xs.Nodup:=h.imp λh z=>by lia
theorem zBt (ok:zf ns ss) (h:Zh ns ss zs=true):zs.Nodup:=(List.isPerm_iff.mp (Bool.and_eq_true_iff.mp h).1).nodup_iff.mpr (zHq ok.n.up)
theorem zOX (ok:zf ns ss) (nd:cs.Nodup) (h:Zh ns ss zs=true):Jm ns ss cs=false:=by
 refine Bool.eq_false_iff.mpr λz=>?_;have h2:=qZ (Bool.and_eq_true_iff.mp z).2;obtain ⟨rs,P⟩:=zEq (by lia:1<=zBe ss (ns.filter λx=> !cs.contains x));rw [Jk P] at h2;have h3:=zCz h P;have h4:=zHj cs zs;have h5:=zEM nd h (zBt ok h);lia
theorem zLV (ok:zf ns ss) (nd:cs.Nodup) (sub:∀x∈cs,x∈ns) (h:ZK ns ss zs=true):sng ns ss cs=false:=by
 refine Bool.eq_false_iff.mpr λz=>?_;have hr:Zh ns ss zs=true:=(Bool.and_eq_true_iff.mp (Bool.and_eq_true_iff.mp h).1).1;have hl:¬zs.length<3:=by
  have:=(Bool.and_eq_true_iff.mp (Bool.and_eq_true_iff.mp h).1).2;simpa using this
 have pm:=List.isPerm_iff.mp (Bool.and_eq_true_iff.mp hr).1;rw [pm.length_eq] at hl;have h2:=(Bool.and_eq_true_iff.mp z).2;rw [qa hl,X3] at h2;have h2:=qZ h2;obtain ⟨rs,P⟩:=zEq (by lia:1<=zBe ss (ns.filter λx=> !cs.contains x));rw [Jk P] at h2;cases cs with
 | nil=>
  have h3:=zCz hr P;have h4:=zHj [] zs;have h5:=zEM (cs:=[]) qr hr (zBt ok hr);have h5:(jG [] zs).length<=0+1:=h5;lia
 | cons c cs=>
  have hc:c∈zs:=pm.mem_iff.mpr (sub c qE);obtain ⟨u,v,e⟩:=XN hc;have rr:Zh ns ss (c::v++u)=true:=by
   cases u with
   | nil=>rw [e] at hr; simpa using hr
   | cons a u=>
    have h':=h;rw [e,zBu (by simp),zFa] at h';have pe:(c::v++a::u).Perm (a::u++c::v):=vG;have hp:(c::v++a::u).isPerm ns=true:=List.isPerm_iff.mpr (pe.trans (e▸pm));have cl:=(Bool.and_eq_true_iff.mp h').2;unfold Zh;rw [hp,yp];exact (Bool.and_eq_true_iff.mp cl).1
  have h3:=zCz rr P;have h4:=zKW (cs:=c::cs) (zs:=v++u) (x:=c) (List.contains_iff_mem.mpr qE);have h5:=zEM nd rr (zBt ok rr);have h3':rs.length<=(zAq (c::cs) (c::(v++u))).length:=h3;have h5':(jG (c::cs) (c::(v++u))).length<=(c::cs).length+1:=h5;lia
end Ct
abbrev zLL:Stmt:=top 82
namespace Ct
def ShV (H:Hp) (v:V) (o:Option (List Int)):Prop:=(v= .non/\o=none)\/∃(l:Addr) (c:List Int),v= .ref l/\H l=some (.lst (c.map V.int))/\o=some c
theorem ShV.same {o:Option (List Int)} (h:ShV H v o) (g:zE H H'):ShV H' v o:=h.imp id λ⟨l,c,e,el,eo⟩=>⟨l,c,e,g _ _ el,eo⟩
noncomputable def J9 (ns ss c:List Int):Bool:=Jm ns ss c&&decide (c.length<4)
noncomputable def shF (ns ss:List Int) (m:Nat):Option (List Int):=((List.range m).flatMap λk=>Zc k ns).find? (J9 ns ss)
theorem zFZ (ns ss:List Int) (m:Nat):shF ns ss (m+1)=(((List.range m).flatMap λk=>Zc k ns)++Zc m ns).find? (J9 ns ss):=by
 unfold shF;rw [xO,XJ,QH,vw,qv]
theorem zOz (h:ns.length<=m\/4<=m):shF ns ss (m+1)=shF ns ss m:=by
 rw [zFZ,Q6];have e:(Zc m ns).find? (J9 ns ss)=none:=List.find?_eq_none.mpr λc hc z=>by
  obtain ⟨z1,z2⟩:=Bool.and_eq_true_iff.mp z;have l:=(YG m ns c hc).2;have z2:=qZ z2;have z3:=qZ (Bool.and_eq_true_iff.mp z1).1;lia
 rw [e,Option.or_none];rfl
theorem zEK {ns ss:List Int} {m:Nat} (h:ns.length<=m\/4<=m):∀j,shF ns ss (m+j)=shF ns ss m
 | 0=>rfl
 | j+1=>(zOz (m:=m+j) (by lia)).trans (zEK h j)
theorem zQy (ns ss:List Int):shF ns ss ns.length=zEB ns ss:=by
 have e1:=zEK (ns:=ns) (ss:=ss) (m:=ns.length) (.inl (qG _)) 4;have e2:=zEK (ns:=ns) (ss:=ss) (m:=4) (.inr (qG _)) ns.length;rw [<-e1,Nat.add_comm,e2];unfold shF zEB;refine yX λc hc=>?_;obtain ⟨k,hk,hck⟩:=List.mem_flatMap.mp hc;have:=List.mem_range.mp hk;have l:=(YG k ns c hck).2;unfold J9;rw [qK (by lia),xn]
inductive zJQ (vs:List V) (H:Hp) (Q:VK) (E:XK):Prop
 | mk (t a b p1 p2:Addr) (ns ss:List Int) (rs1 pM:List Addr):vs=[.ref t, .ref p1, .ref p2]->zi H t a b ns ss->ns.length<=6->H p1=some (.lst (rs1.map V.ref))->zq H rs1 (Z7 ns ss)->H p2=some (.lst (pM.map V.ref))->zq H pM ((Z7 ns ss).filter (jD ss))->(∀H',zE H H'->Q (.bl true) H')->zJQ vs H Q E
theorem jB:FS 3 ["plan","rows","rings","many","short","size","sets","gone","parts","no_row","no_ring"] zLL:=zm
theorem zPv (F:Fu K "_law_cuts_good" zLL f fd) (B:jP mg)
  (GO:Gd P w K mg base 7 g1 pH ["numbers","many"] zDf "_law_orders")
  (GL:Gd P w K mg base 7 g2 pI ["plan","gone"] zIK "_law_parts")
  (GP:Gd P w K mg base 7 g3 pJ ["plan","cut"] zID "parts_left")
  (GR:Gd P w K mg base 7 g4 gd4 ["plan","thing"] zFO "shows_no_row")
  (GG:Gd P w K mg base 7 g5 gd5 ["plan","thing"] zIH "shows_no_ring")
  (GS:Gd P w K mg base 7 g6 gd6 ["plan"] zJE "short_cut"):FnOk P w K mg base zU 8 f fd ["plan","rows","rings"] zJQ:=by
 refine F.ok jB ?_ ?_
 .rintro _ _ _ _ ⟨t,a,b,p1,p2,ns,ss,rs1,pM,rfl,_⟩
  rfl
 rintro _ A _ s H _ Q E hr ⟨t,a,b,p1,p2,ns,ss,rs1,pM,rfl,pl,n6,e1,R1,e2,R2,q⟩;have ok:=pl.ok;have nml:(ns.map V.int).length=ns.length:=qA _;have B3:Bt3 mg:=B.toBt3;refine ⟨_,(zD (zt 3 jB.nd (zP zQ rfl B.len qU (zA (zz zh (pv 0) zJ) zB))) (zD (zt 4 jB.nd Y4) (zD (Zq qi rfl (yx rfl B.range (zA (pv 3) zB)) (Yk 5 jB.nd) (zD (jS ["row"] rfl (bk jB) (zj (zL GO hr (zA (zz zh (pv 0) zJ) (zA (pv 5) zB)))) (λpA C fp s3 H3=>⟨(yI jB),(Zg (zT (zPA K hr.units) (pv 0) (zP (zGl K) rfl B.sorted xx (zA (pv 0) zB)) (zV _))),(pv 0)⟩) (j:=6) jB.nd rfl (Or.inl rfl) rfl) (zG (Zq qi rfl (zj (pv 6)) (Yk 7 jB.nd) (zD (zt 8 jB.nd (zL GL hr (zA (pv 0) (zA (pv 7) zB)))) (zD (zt 9 jB.nd (ZT zCP (zP zQ rfl B.len qU (zA (pv 8) zB)) (zS ZA (pv 5) zJ) (zV _))) (zD (zt 10 jB.nd (zNp (ZT ji (pv 3) zJ (zV _)) (yf (ZT zCP (zP zQ rfl B.len qU (zA (pv 8) zB)) (zS ZA (zS ZA (pv 5) zJ) (ZE zAI rfl B.int xj (zA (ZT YQ (pv 5) zJ (zV _)) zB))) (zV _))))) (zD (zd (zT (Z3 hr.units) (zL GP hr (zA (pv 0) (zA (ZE ZP rfl B.list qq (zA (pv 7) zB)) zB))) (pv 8) (zV _)) (zG (zM ZU)) zW) (zD (zd (PW.pt (yi (zT Yl (zL GR hr (zA (pv 0) (zA (pv 7) zB))) (pv 9) (zV _)) (yA (zT Yl (zL GG hr (zA (pv 0) (zA (pv 7) zB))) (pv 10) (zV _))))) (zG (zM ZU)) zW) (zD (zd (PW.pt (yi (PW.pt (Jx (ZN (pv 9)) (Jj (zT (Z3 hr.units) (pv 1) (zv zB) (zV _))))) (yA (PW.pt (Jx (ZN (pv 10)) (Jj (zT (Z3 hr.units) (pv 2) (zv zB) (zV _)))))))) (zG (zM ZU)) zW) (zG (zd (PW.pt (Jx (ZN (pv 9)) (Jx (zT zQV (pv 4) Y4 (zV _)) (Jj (zT ji (pv 5) zJ (zV _)))))) (zG (zt 4 jB.nd (pv 7))) zW)))))))))))) (zG (zM (ZT (Z1.or (zAc hr.units) YQ) (zL GS hr (zA (pv 0) zB)) (pv 4) (zV _))))))),?_⟩;refine ⟨_,rfl,t,_,0,_,rfl,rfl,ZD.of pl.t,rfl,a,_,rfl, .inl (zK.of pl.a),?_⟩;rw [nml];refine ⟨_,rfl,_,rfl,by lia,by lia,?_⟩;rw [qy];refine yv (lo:=0) (n:=ns.length) (λi U H'=>∃(sv:V) (x5 x6 x7 x8 x9 x10:Option V),U=[some (.ref t),some (.ref p1),some (.ref p2),some (.int ns.length),some sv,x5,x6,x7,x8,x9,x10]/\zE H H'/\ShV H' sv (shF ns ss i))
  ⟨_,_,_,_,_,_,_,rfl,zE.rfl', .inl ⟨rfl,rfl⟩⟩ ?_ ?_
 .rintro i U H1 hi ⟨sv,x5,x6,x7,x8,x9,x10,rfl,g1,sh1⟩
  have pl1:=pl.same g1;have ei:(0:Int)+(i:Int)=((i:Nat):Int):=xP _;refine ⟨_,rfl,t,_,0,_,rfl,rfl,ZD.of pl1.t,rfl,_,rfl,a,ns,i,by rw [ei]; rfl,pl1.a,by lia,by lia,λl0 rs0 H2 g2 el0 R0=>?_⟩;refine ⟨l0,rfl,⟨_,zK.of el0⟩,λD hD=>?_⟩;refine jm (U:=[some (.ref t),some (.ref p1),some (.ref p2),some (.int ns.length),some sv,some (.int (0+(i:Int))),x6,x7,x8,x9,x10]) zIO (zK.of el0) R0 hD (by rw [R0.len]; exact qQ (YO (by lia) (k:=i) (by lia)) (by decide)) (λr o H' mo g er P hP=>?_) λrs H3 g3 e3 R3=>?_
  .obtain ⟨o1,o2,o3⟩:=(zAy ok.n.up).mp mo
   refine ⟨_,rfl,_,rfl,r,o,rfl,zK.of er,by lia,λl ys hl pm so=>?_⟩;have s1:=zE.new hl (.lst (ys.map V.int));refine ⟨_,jF (zK.of (s1 _ _ er)) (zK.of zC),_,rfl,?_⟩;rw [zLZ o2 pm so];exact hP _ s1
  rw [zOk ok.n.up] at R3;have g13:=g2.trans g3;have sh3:=sh1.same g13;have rml:(rs.map V.ref).length=rs.length:=qA _;refine ⟨_,rfl,D,rfl,⟨_,zK.of e3⟩,?_⟩;refine yz (xs:=rs.map V.ref) (λj U H'=>∃(sv:V) (x7 x8 x9 x10:Option V),U=[some (.ref t),some (.ref p1),some (.ref p2),some (.int ns.length),some sv,some (.int (0+(i:Int))),some (.ref D),x7,x8,x9,x10]/\zE H3 H'/\ShV H' sv ((((List.range i).flatMap λk=>Zc k ns)++(Zc i ns).take j).find? (J9 ns ss)))
   ⟨sv,_,_,_,_,rfl,zE.rfl',by rw [vY,qv]; exact sh3⟩ (λj U H' _ ⟨_,_,_,_,_,_,g,_⟩=>zK.of (g _ _ e3)) ?_ ?_
  .rintro j v U H4 hv ⟨sv4,x7,x8,x9,x10,rfl,g4,sh4⟩
   rw [qM] at hv;cases hr':rs[j]? with
   | none=>rw [hr'] at hv; cases hv
   | some r=>
   rw [hr'] at hv;cases hv;obtain ⟨cs,ec,er⟩:=R3.at_ j r hr';obtain ⟨csub,cl⟩:=YG i ns cs (qp ec);have cri:zAP cs:=⟨ok.n.up.sublist csub,λx hx=>ok.n.bd x (csub.subset hx)⟩;have cin:∀x∈cs,x∈ns:=λx hx=>csub.subset hx;have cnd:cs.Nodup:=Ja cri.up;have ck:zNv ns cs:=⟨cri,cin,by lia⟩;have G4:=g1.trans (g13.trans g4);have pl4:=pl.same G4;have er4:=g4 _ _ er;refine ⟨_,rfl,_,rfl,t,a,b,r,ns,ss,cs,rfl,pl4,er4,λl as ps H5 g5 nl el rows parts=>?_⟩;have asl:(as.map V.ref).length=ps.length:=by rw [qA]; exact rows.len
   have enr:decide ((0:Int)+(i:Int)+2<=(((as.map V.ref).length:Nat):Int))=Jm ns ss cs:=by
    unfold Jm;rw [Jk parts,qK ck.len,QJ,asl];exact decide_eq_decide.mpr (by lia)
   refine ⟨_,rfl,l,_,rfl, .inl (zK.of el),_,rfl,_,_,rfl,rfl,_,_,rfl,rfl,?_⟩;dsimp only [ZW];rw [enr];have k1:Jm ns ss cs=true->rs1=[]:=λz=>by
    cases rs1 with
    | nil=>rfl
    | cons x rs1=>
     obtain ⟨o,eo,_⟩:=R1.at_ 0 x rfl;rw [zOX ok cnd ((jr ok).mp (qp eo))] at z;cases z
   have k2:sng ns ss cs=true->pM=[]:=λz=>by
    cases pM with
    | nil=>rfl
    | cons x pM=>
     obtain ⟨o,eo,_⟩:=R2.at_ 0 x rfl;rw [zLV ok cnd cin ((zDn ok).mp (qp eo))] at z;cases z
   have fs:((((List.range i).flatMap λk=>Zc k ns)++(Zc i ns).take (j+1)).find? (J9 ns ss))=((((List.range i).flatMap λk=>Zc k ns)++(Zc i ns).take j).find? (J9 ns ss)).or (if J9 ns ss cs=true then some cs else none):=by
    rw [QR,ec,<-xS,Q6];congr 1;show [cs].find? _=_;rw [QD];cases J9 ns ss cs <;> rfl
   refine jQ (λU' H'=>U'=[some (.ref t),some (.ref p1),some (.ref p2),some (.int ns.length),some sv4,some (.int (0+(i:Int))),some (.ref D),some (.ref r),some (.ref l),some (.bl (Jm ns ss cs)),some (.bl (sng ns ss cs))]/\H'=H5) (λN hN=>?_) ?_
   .refine ⟨_,rfl,_,_,rfl,rfl,_,rfl,zr (λc=>?_) (λc=>?_)⟩
    .have c':=qZ c
     have e:sng ns ss cs=true:=by
      unfold sng;rw [qK ck.len,qK (by lia:ns.length<3)];rfl
     rw [e] at hN;exact hN _ _ ⟨rfl,rfl⟩
    .have c':¬ns.length<3:=λz=>c (qK (by lia))
     refine ⟨_,rfl,l,_,rfl, .inl (zK.of el),_,rfl,_,_,rfl,rfl,_,rfl,rfl, .inr ⟨_,rfl,_,_,rfl,rfl,_,_,rfl,rfl,?_⟩⟩;have e:∀k:Bool,k=decide (V.int ((0:Int)+(i:Int))=V.int 0)->decide ((0:Int)+(i:Int)+1+(if k=true then 1 else 0)<=(((as.map V.ref).length:Nat):Int))=sng ns ss cs:=λk hk=>by
      unfold sng;rw [Jk parts,qK ck.len,qa c',QJ,X3,asl,hk];refine decide_eq_decide.mpr ?_;by_cases z:i=0
      .rw [qO (qK (by rw [z]; rfl))]
       lia
      .rw [qP (λy=>z (by have:=V.int.inj (qZ y); lia))]
       lia
     refine hN _ _ ⟨?_,rfl⟩
     try dsimp only
     rw [e _ rfl];rfl
   rintro U' _ ⟨rfl,rfl⟩;have G5:=G4.trans g5;have pl5:=pl.same G5;have er5:=g5 _ _ er4;refine ⟨_,rfl,_,rfl,r,_,rfl, .inl (zK.of er5),λl1 hl1=>?_⟩;have s1:=zE.new hl1 (.lst (cs.map V.int));refine ⟨t,a,b,l1,ns,ss,cs,rfl,pl5.same s1,zC,ck,λl2 as2 ps2 H6 g6 nl2 fre nd lo el2 rows2 parts2=>?_⟩;have g56:=s1.trans g6;have eu:=parts2.uniq parts;subst eu;have rc:Y7 K H6 (.ref l2) (.ref l) true:=by
    have:=zLW (K:=K) el2 (g56 _ _ el) rows2 (rows.same g56);rw [QN] at this;exact this
   refine ⟨_,rfl,true,rc,_,rfl,ZG ?_⟩;have G6:=G5.trans g56;have er6:=g56 _ _ er5;have sh6:=sh4.same (g5.trans g56);have g46:=g4.trans (g5.trans g56);have nb:∀x:Bool,(!decide (V.bl x=V.bl x))=false:=λx=>by rw [qK rfl]; rfl
   clear rc el2 rows2 parts2 fre nd lo nl2 s1 hl1 rows nl g6 g56 er5 pl5 G5 sh4 er4 pl4 G4 g4 g5 el;refine ⟨_,rfl,_,rfl,t,a,b,r,ns,ss,cs,rfl,pl.same G6,er6,cri,by lia,cin,λH7 g7=>?_⟩;refine ⟨_,rfl,rfl,_,rfl,?_⟩;rw [nb];refine ZG ?_;have G7:=G6.trans g7;refine ⟨_,rfl,_,rfl,t,a,b,r,ns,ss,cs,rfl,pl.same G7,g7 _ _ er6,cri,by lia,cin,λH8 g8=>?_⟩;refine ⟨_,rfl,rfl,_,rfl,?_⟩;rw [nb];refine ZG ?_;have G8:=G7.trans g8;have er8:=g8 _ _ (g7 _ _ er6);have sh8:=sh6.same (g7.trans g8);have g48:=g46.trans (g7.trans g8);clear er6 sh6 g46 G7 G6 g7 g8;dsimp only [zCF];refine jQ (λU' H'=>U'=[some (.ref t),some (.ref p1),some (.ref p2),some (.int ns.length),some sv4,some (.int (0+(i:Int))),some (.ref D),some (.ref r),some (.ref l),some (.bl (Jm ns ss cs)),some (.bl (sng ns ss cs))]/\zE H8 H') (λN hN=>?_) ?_
   .generalize Jm ns ss cs=sr at k1 hN ⊢
    generalize sng ns ss cs=sg at k2 hN ⊢;have e18:=G8 _ _ e1;have e28:=G8 _ _ e2;refine ⟨_,rfl,_,rfl,?_⟩;cases sr with
    | false=>
     refine ZG (ZG ⟨_,rfl,_,rfl,?_⟩);cases sg with
     | false=>exact ZG (ZG (hN _ _ ⟨rfl,zE.rfl'⟩))
     | true=>
      rw [k2 rfl] at e28;refine Yu ⟨_,rfl,(by show 0<=sizeLine; decide),λz hz=>?_⟩;have gz:=zE.new hz (.lst []);exact ⟨_,jq (zK.of (gz _ _ e28)) (zK.of zC),_,rfl,ZG (hN _ _ ⟨rfl,gz⟩)⟩
    | true=>
     rw [k1 rfl] at e18;refine Yu ⟨_,rfl,(by show 0<=sizeLine; decide),λz hz=>?_⟩;have gz:=zE.new hz (.lst []);refine ⟨_,jq (zK.of (gz _ _ e18)) (zK.of zC),_,rfl,ZG ⟨_,rfl,_,rfl,?_⟩⟩;cases sg with
     | false=>exact ZG (ZG (hN _ _ ⟨rfl,gz⟩))
     | true=>
      rw [k2 rfl] at e28;refine Yu ⟨_,rfl,(by show 0<=sizeLine; decide),λz2 hz2=>?_⟩;have gz2:=zE.new hz2 (.lst []);exact ⟨_,jq (zK.of (gz2 _ _ (gz _ _ e28))) (zK.of zC),_,rfl,ZG (hN _ _ ⟨rfl,gz.trans gz2⟩)⟩
   rintro U' H9 ⟨rfl,g9⟩;have sh9:=sh8.same g9;have g49:=g48.trans g9;have er9:=g9 _ _ er8;refine ⟨_,rfl,_,rfl,?_⟩;cases sr:Jm ns ss cs with
   | false=>
    have ep:J9 ns ss cs=false:=by unfold J9; rw [sr]; rfl
    refine ZG (ZG ⟨sv4,_,_,_,_,rfl,g49,?_⟩);rw [fs,ep,qP qR,Option.or_none];exact sh9
   | true=>
    refine Yu ⟨_,rfl,rfl,_,rfl,?_⟩;rcases sh9 with ⟨rfl,eq⟩ | ⟨l9,c9,rfl,el9,eq⟩
    .refine Yu ⟨_,rfl,_,_,rfl,rfl,_,rfl,zr (λc=>?_) (λc=>?_)⟩
     .have c':=qZ c
      have ep:J9 ns ss cs=true:=by unfold J9; rw [sr,qK (by lia)]; rfl
      refine ⟨_,rfl, .ref r,_,_,_,_,rfl,g49, .inr ⟨r,cs,rfl,er9,?_⟩⟩;rw [fs,eq,ep];rfl
     .have ep:J9 ns ss cs=false:=by
       unfold J9;rw [qa λz=>c (qK (by lia)),v3]
      refine ⟨.non,_,_,_,_,rfl,g49, .inl ⟨rfl,?_⟩⟩;rw [fs,eq,ep];rfl
    .refine ZG (ZG ⟨.ref l9,_,_,_,_,rfl,g49, .inr ⟨l9,c9,rfl,el9,?_⟩⟩)
     rw [fs,eq];rfl
  .rintro U H4 ⟨sv4,x7,x8,x9,x10,rfl,g4,sh4⟩
   rw [rml,R3.len,xF,<-zFZ] at sh4;exact ⟨sv4,_,_,_,_,_,_,rfl,g1.trans (g13.trans g4),sh4⟩
 .rintro U H1 ⟨sv,x5,x6,x7,x8,x9,x10,rfl,g1,sh1⟩
  rw [zQy] at sh1;refine ⟨_,rfl,t,a,b,ns,ss,rfl,pl.same g1,λH2 g2 e=>?_,λo c H2 g2 no eo e=>?_⟩
  .refine ⟨_,rfl,?_⟩
   rcases sh1 with ⟨rfl,_⟩ | ⟨l,c,rfl,el,eq⟩
   .exact .inr ⟨rfl,q _ (g1.trans g2)⟩
   .rw [e] at eq; cases eq
  .refine ⟨_,rfl,?_⟩
   rcases sh1 with ⟨rfl,eq⟩ | ⟨l,c',rfl,el,eq⟩
   .rw [e] at eq; cases eq
   .rw [e] at eq
    cases eq;exact .inl ⟨true,Jp eo (g2 _ _ el),q _ (g1.trans g2)⟩
end Ct
abbrev sGl:Stmt:=top 63
abbrev zMC:Stmt:=top 87
def zLt (ns ss:List Int):Nat:=Zn (zO ns ss (List.range ns.length)) (2^ns.length - 1) ns.length
inductive zLH (vs:List V) (H:Hp) (Q:VK) (E:XK):Prop
 | mk (t a b:Addr) (ns ss:List Int):vs=[.ref t]->zi H t a b ns ss->(∀H',zE H H'->Q (.int (zLt ns ss:Nat)) H')->zLH vs H Q E
theorem zKV (ok:zf ns ss):zLt ns ss=(Zk ns ss).length:=(zBS ok).symm
inductive zDo (K:W.Frag) (vs:List V) (H:Hp) (Q:VK) (E:XK):Prop
 | mk (a:Addr) (ns:List Int):vs=[.ref a]->zK K H a (ns.map V.int)->ns.length<=63->(∀H',Q (.bl true) H')->zDo K vs H Q E
theorem zSZ:FS 1 ["plan"] sGl:=zm
theorem zSG (F:Fu K "greatest_length" sGl f fd) (T:RcT K C) (mW:ZC K C "most_of_all" g1) (MT:Mk K C g3) (mT:mg "Reach"=some (.ref C))
  (GI:FnOk P w K mg base zU 22 g3 pJ ["self","plan"] (zFR C)) (bI:zX K pJ ["self","plan"] [])
  (GW:FnOk P w K mg base zU 23 g1 pH ["self"] (zNC C)) (bW:zX K pH ["self"] [])
  (GC:Gd P w K mg base 23 g2 pI ["plan"] yw "check_plan"):FnOk P w K mg base zU 24 f fd ["plan"] zLH:=by
 refine F.ok zSZ ?_ ?_
 .rintro _ _ _ _ ⟨t,a,b,ns,ss,rfl,_⟩
  rfl
 rintro _ A _ s H _ Q E hr ⟨t,a,b,ns,ss,rfl,pl,q⟩;refine ⟨_,(zD (zo (zL GC hr (zA (pv 0) zB))) (zG (zM (Zs (j4 MT GI hr rfl mT bI .nil ze (zA (pv 0) zB)) T.cl mW GW hr bW .nil ze)))),?_⟩;refine ⟨_,rfl,t,a,b,ns,ss,rfl,pl,?_⟩;refine ⟨_,rfl,λx dx nx ndx nex=>?_⟩;have g3:zE H (zH (zH H dx (.own x)) x (.ins C dx [])):=λc o hc=>by
  rw [zI (zF hc nx),zI (zF hc ndx)]; exact hc
 refine ⟨x,t,a,b,dx,ns,ss,rfl,zC,pl.same g3,λnr ow H3 ex3 how s3 na3 ow3=>⟨rfl,?_⟩⟩;have how':H ow=none:=zR g3 how;have g4:zE H H3:=λc o hc=>ex3 c o (zF hc nx) (g3 _ _ hc);have S3:Ze C ⟨ns.length,zO ns ss (List.range ns.length),x,dx,nr,ow⟩ H3:=⟨s3,na3,Zw pl.ok⟩;exact ⟨x,dx,_,rfl,S3.at_,rfl,⟨ns.length,zO ns ss (List.range ns.length),x,dx,nr,ow⟩,[],rfl,S3,⟨ow3,zFC⟩,pl.ok.n1,λH4 kvs4 ex4 hk4=>q H4 (λc o hc=>ex4 c o (zF hc how') (g4 _ _ hc))⟩
def jf (ns ss:List Int) (k:Nat):List (List Int):=(Zr ns k).filter (yo ss)
theorem zKo {o:List Int} (ok:zf ns ss) {k:Nat} (k1:1<=k) (h:o∈jf ns ss k):YJ ns ss o/\o.length=k:=by
 obtain ⟨h1,p⟩:=(J1 ok).mp h;refine ⟨⟨by lia,p.nd,p.mem,?_⟩,h1⟩;rw [yp];exact (zCL ss o).mp p.ch
theorem zMg (ok:zf ns ss):1<=(Zk ns ss).length:=by
 obtain ⟨x,r,e⟩:∃x r,ns=x::r:=xD λz=>by have:=ok.n1; rw [z] at this; exact v6 this (by decide)
 have p:zCA ns ss [x]:=⟨by simp,λy hy=>by rw [List.mem_singleton.mp hy,e]; exact qE,trivial⟩;exact zGa ok p
theorem zML (ok:zf ns ss):jf ns ss 1≠[]:=λz=>by
 obtain ⟨x,r,e⟩:∃x r,ns=x::r:=xD λz=>by have:=ok.n1; rw [z] at this; exact v6 this (by decide)
 have p:zCA ns ss [x]:=⟨by simp,λy hy=>by rw [List.mem_singleton.mp hy,e]; exact qE,trivial⟩;have:[x]∈jf ns ss 1:=(J1 ok).mpr ⟨rfl,p⟩;rw [z] at this;cases this
theorem zOe (hm:m<n) (hc:c m=true) (no:∀j,m<j->j<n->c j=false):∃X,(List.range n).filter c=X++[m]:=by
 obtain ⟨d,rfl⟩:∃d,n=m+1+d:=⟨n - (m+1),by lia⟩;refine ⟨(List.range m).filter c,?_⟩;have e2:((List.range d).map (m+1+·)).filter c=[]:=List.filter_eq_nil_iff.mpr λj hj=>by
  obtain ⟨i,hi,rfl⟩:=List.mem_map.mp hj;have:=List.mem_range.mp hi;rw [no (m+1+i) (by lia) (by lia)];exact qR
 rw [List.range_add,qz,e2,qv,xO,qz,qh,qO hc,Qo]
structure BtL (mg:Str->Option Value):Prop extends jP mg where
 abs:mg "abs"=none
def zBx (H:Hp) (ns ss:List Int) (q:Addr):Prop:=∃(k:Nat) (rs:List Addr),1<=k/\k<=6/\rs≠[]/\H q=some (.lst (rs.map V.ref))/\zq H rs (jf ns ss k)
theorem zBx.same (h:zBx H ns ss q) (g:zE H H'):zBx H' ns ss q:=
 let ⟨k,rs,a,b,c,d,e⟩:=h; ⟨k,rs,a,b,c,g _ _ d,e.same g⟩
theorem zq.ne (R:zq H rs os) (h:os≠[]):rs≠[]:=λz=>h (List.length_eq_zero_iff.mp (by rw [<-R.len,z]; rfl))
theorem zRJ {k:Bool} {A:Prop} (G:Addr->Prop) (x:Addr) (key:∀y,G y->Q (.ref y) H) (hA:Q (.ref x) H->A) (hx:k=true->G x) (hb:(∀y,G y->Q (.ref y) H)->tb U H Q):if k=true then A else tb U H Q:=by
 cases k with
 | true=>exact hA (key x (hx rfl))
 | false=>exact hb key
structure jk (H:Hp) (pa:Addr) (ns ss:List Int) (k:Nat) (q:Addr):Prop where
 ne:q≠pa
 at_:∃rs:List Addr,H q=some (.lst (rs.map V.ref))/\zq H rs (jf ns ss (k+1))
theorem jk.same {k:Nat} (h:jk H pa ns ss k q) (g:zE H H'):jk H' pa ns ss k q:=
 ⟨h.ne,let ⟨rs,e,R⟩:=h.at_; ⟨rs,g _ _ e,R.same g⟩⟩
theorem zQf {r:Addr} {o:List Int} (h1:H pa=some (.lst (qs.map V.ref))) (h2:H r=some (.lst (o.map V.int))) (ho:o≠[]):r≠pa:=λz=>by
 rw [z,h1] at h2;have e:=HO.lst.inj (Option.some.inj h2);cases o with
 | nil=>exact ho rfl
 | cons x o=>
  cases qs with
  | nil=>cases e
  | cons q qs=>cases (List.cons.inj e).1
theorem jk.put {k:Nat} (up:ns.Pairwise (·<·)) (h:jk H pa ns ss k q) (e:H pa=some (.lst (qs.map V.ref))):jk (zH H pa u) pa ns ss k q:=by
 obtain ⟨rs,eq,R⟩:=h.at_;refine ⟨h.ne,rs,by rw [zI h.ne]; exact eq,R.put λz=>?_⟩;obtain ⟨i,hi⟩:=List.getElem?_of_mem z;obtain ⟨o,eo,er⟩:=R.at_ i pa hi;have l:=((zAy up).mp (List.mem_filter.mp (qp eo)).1).1;exact zQf e er (λz=>by rw [z] at l; cases l) rfl
theorem YD:FS 1 ["script","k","cell","plan","every","rows","rings","parts","size","some","longest"] zMC:=zm
theorem zQW {ce mx mp od ri rg cu fi gl lp tu kg:Addr} {ced mxd mpd odd rid rgd cud fid gld lpd tud kgd:FuncData} (F:Fu K "law" zMC f fd) (B:BtL mg)
  (GC:Gd P w K mg base 29 ce ced ["script","k"] (zFr K) "_law_cell")
  (GX:Gd P w K mg base 29 mx mxd ["cell","k"] zFT "_law_mixed")
  (GM:Gd P w K mg base 29 mp mpd ["cell","most"] zMd "_law_plan")
  (GO:Gd P w K mg base 29 od odd ["numbers","many"] zDf "_law_orders")
  (GA:Gd P w K mg base 29 al ald ["plan"] zFM "_law_all")
  (GI:Gd P w K mg base 29 ri rid ["plan","rows"] zIX "_law_rings")
  (GR:Gd P w K mg base 29 rg rgd ["plan","every","rows","rings"] zIm "_law_rows_good")
  (GU:Gd P w K mg base 29 cu cud ["plan","rows","rings"] Ct.zJQ "_law_cuts_good")
  (GF:Gd P w K mg base 29 fi fid ["plan","row"] zDi "_law_fits")
  (GG:Gd P w K mg base 29 gl gld ["plan"] zLH "greatest_length")
  (GL:Gd P w K mg base 29 lp lpd ["plan"] zIp "longest_part")
  (GT:Gd P w K mg base 29 tu tud ["plan","part"] zJF "_law_turns_good")
  (GK:Gd P w K mg base 29 kg kgd ["plan","cell"] zHy "_law_keeper_good"):FnOk P w K mg base zU 30 f fd ["script"] (zDo K):=by
 refine F.ok YD ?_ ?_
 .rintro _ _ _ _ ⟨a,ns,rfl,_⟩
  rfl
 rintro _ A _ s H _ Q E hr ⟨a0,ns0,rfl,hS,h63,q⟩;refine ⟨_,(zD (Zq qi rfl (yx rfl B.range (zA (zP (zEx rfl) rfl B.max boot_max (zA zJ (zA (zP (zEr rfl) rfl B.min boot_min (zA (zP zQ rfl B.len qU (zA (pv 0) zB)) (zA zJ zB))) zB))) zB)) (Yk 1 YD.nd) (zD (zt 2 YD.nd (zP zLu rfl B.abs boot_abs (zA (zL GC hr (zA (pv 0) (zA (pv 1) zB))) zB))) (zD (zt 3 YD.nd (zL GM hr (zA (zL GX hr (zA (pv 2) (zA (pv 1) zB))) (zA zJ zB)))) (zD (zt 4 YD.nd (zL GO hr (zA (zz zh (pv 3) zJ) (zA (zP zQ rfl B.len qU (zA (zz zh (pv 3) zJ) zB)) zB)))) (zD (zt 5 YD.nd (zL GA hr (zA (pv 3) zB))) (zD (zt 6 YD.nd (zL GI hr (zA (pv 3) (zA (pv 5) zB)))) (zD (zd (Zi (ZN (zL GR hr (zA (pv 3) (zA (pv 4) (zA (pv 5) (zA (pv 6) zB))))))) (zG (zM ZU)) zW) (zD (zd (Zi (ZN (zL GU hr (zA (pv 3) (zA (pv 5) (zA (pv 6) zB)))))) (zG (zM ZU)) zW) (zD (zt 7 YD.nd (zv zB)) (zD (Zq qi rfl (zEk rfl B.range (zA zJ (zA (zS ZA (zP zQ rfl B.len qU (zA (zz zh (pv 3) zJ) zB)) zJ) zB))) (Yk 8 YD.nd) (zD (zt 9 YD.nd (zL GO hr (zA (zz zh (pv 3) zJ) (zA (pv 8) zB)))) (zG (zo (YF qk QT QU yY (pv 7) (zA (ZR ["row"] rfl (bk YD) (zj (pv 9)) (λpA C fp s3 H3=>⟨(yI YD),(Zg (ZN (zL GF hr (zA (pv 4) (zA (pv 0) zB))))),(pv 0)⟩)) zB)))))) (zD (zt 10 YD.nd (YR zx (ZR ["some"] rfl (bk YD) (zj (pv 7)) (λpA C fp s3 H3=>⟨(yI YD),(Zg (zT (zOR K hr.units) (pv 0) (zv zB) (zV _))),(pv 0)⟩)) (Y9 Yc zJ) (λ_ _=>rfl))) (zD (zd (PW.pt (yi (zT Yl (zL GG hr (zA (pv 3) zB)) (zP zQ rfl B.len qU (zA (zz zx (pv 10) zJ) zB)) (zV _)) (yA (zT (Z3 hr.units) (zL GL hr (zA (pv 3) zB)) (zz zx (pv 10) zJ) (zV _))))) (zG (zM ZU)) zW) (zD (Zq qi rfl (zj (zv (zA (pv 10) (zA (zQN (YR zx (pv 7) (zP (zEr rfl) rfl B.min boot_min (zA zJ (zA (zS yc (zP zQ rfl B.len qU (zA (pv 7) zB)) zJ) zB))) (λ_ _=>rfl)) (yf (zz zx (pv 7) zJ))) zB)))) (Yk 9 YD.nd) (zG (zd (Zi (ZN (zL GT hr (zA (pv 3) (zA (YR zx (pv 9) (zS yq (zL GX hr (zA (pv 2) (zA zJ zB))) (zP zQ rfl B.len qU (zA (pv 9) zB))) (λ_ _=>rfl)) zB))))) (zG (zM ZU)) zW))) (zG (zd (Zi (ZN (zL GK hr (zA (pv 3) (zA (zL GX hr (zA (pv 2) (zA zJ zB))) zB))))) (zG (zM ZU)) zW))))))))))))))) (zG (zM ZU))),?_⟩;have sml:(ns0.map V.int).length=ns0.length:=qA _;refine ⟨_,rfl,a0,_,rfl, .inl hS,_,_,rfl,_,_,rfl,_,rfl,by rw [sml]; split <;> split <;> lia,by rw [sml]; split <;> split <;> lia,?_⟩;refine yv (lo:=0) (n:=_) (λi U H'=>∃(y1 y2 y3 y4 y5 y6 y7 y8 y9 y10:Option V),U=[some (.ref a0),y1,y2,y3,y4,y5,y6,y7,y8,y9,y10]/\zE H H') ⟨_,_,_,_,_,_,_,_,_,_,rfl,zE.rfl'⟩ ?_ λU H' _=>q _;rintro i U HA hi ⟨y1,y2,y3,y4,y5,y6,y7,y8,y9,y10,rfl,gA⟩;have hi64:i<64:=by rw [sml] at hi; split at hi <;> (try split at hi) <;> lia
 refine ⟨_,rfl,_,rfl,a0,ns0,_,rfl,gA.seq hS,by lia,by lia,λcell=>⟨cell,rfl,?_⟩⟩;dsimp only [ZW];generalize (if cell<0 then -cell else cell)=cell;refine ⟨_,rfl,_,rfl,_,_,rfl,by lia,by lia,λr HB gB r0=>⟨r,rfl,r0,λt a b ns ss H1 gC pl n6=>?_⟩⟩;have ok:=pl.ok;have n1:=ok.n1;have nml:(ns.map V.int).length=ns.length:=qA _;have g1:=gA.trans (gB.trans gC);clear gB gC;refine ⟨_,rfl,t,_,0,_,rfl,rfl,ZD.of pl.t,rfl,_,rfl,t,_,0,_,rfl,rfl,ZD.of pl.t,rfl,a,_,rfl, .inl (zK.of pl.a),a,ns,ns.length,by rw [nml]; rfl,pl.a,by lia,qG _,λle es H2 g2 ele RE=>?_⟩;have pl2:=pl.same g2;refine ⟨_,rfl,t,a,b,ns,ss,rfl,pl2,by lia,λlr rr H3 g3 elr RR=>?_⟩;rw [Yd ok] at RR;have pl3:=pl2.same g3;have most:(Z7 ns ss).length<=823543:=by
  rw [<-Yd ok];exact qQ (qY _ _) (YO (by lia) (by lia))
 refine ⟨_,rfl,_,rfl,t,a,b,lr,ns,ss,rr,Z7 ns ss,rfl,pl3,elr,RR,by lia,λo ho z=>?_,λlg gs H4 g4 elg RG=>?_⟩
 .have:=(zAh ((jr ok).mp ho)).length_eq
  rw [z] at this;have:0=ns.length:=this;lia
 have pl4:=pl3.same g4;refine ⟨_,rfl,_,rfl,_,rfl,_,rfl,t,a,b,le,lr,lg,ns,ss,es,rr,gs,rfl,pl4,n6,g4 _ _ (g3 _ _ ele),(RE.same g3).same g4,g4 _ _ elr,RR.same g4,elg,RG,λH5 g5=>⟨_,rfl,ZG ?_⟩⟩;have g45:=g4.trans g5;refine ⟨_,rfl,_,rfl,_,rfl,t,a,b,lr,lg,ns,ss,rr,gs,rfl,pl4.same g5,n6,g45 _ _ elr,RR.same g45,g5 _ _ elg,RG.same g5,λH6 g6=>⟨_,rfl,ZG ?_⟩⟩;have pl6:=(pl4.same g5).same g6;have G6:=g1.trans (g2.trans (g3.trans (g45.trans g6)));clear RR RG RE most g2 g3 g4 g5 g45 g6 pl2 pl3 pl4 ele elr elg;dsimp only [zCF];refine ⟨(by show 0<=sizeLine; decide),λpa hpa=>?_⟩;have s7:=zE.new hpa (.lst []);have e7:zH H6 pa (.lst []) pa=some (.lst (([]:List Addr).map V.ref)):=zC;generalize zH H6 pa (.lst [])=H7 at s7 e7 ⊢;have pl7:=pl6.same s7;have tp:t≠pa:=zF pl6.t hpa;have ap:a≠pa:=zF pl6.a hpa;have bp:b≠pa:=zF pl6.b hpa;dsimp only [ZW];refine jQ (λU' H'=>∃(y8 y9:Option V) (qs:List Addr),U'=[some (.ref a0),some (.int (0+(i:Int))),some (.int cell),some (.ref t),some (.ref le),some (.ref lr),some (.ref lg),some (.ref pa),y8,y9,y10]/\Ex (·=pa) H7 H'/\H' pa=some (.lst (qs.map V.ref))/\qs.length=ns.length/\∀j q,qs[j]?=some q->jk H' pa ns ss j q) (λN hN=>?_) ?_
 .refine ⟨_,rfl,t,_,0,_,rfl,rfl,ZD.of pl7.t,rfl,a,_,rfl, .inl (zK.of pl7.a),_,_,rfl,rfl,1,((ns.length+1:Nat):Int),by rw [nml]; rfl,⟨by decide,by decide,by lia,by lia⟩,?_⟩
  refine yv (lo:=1) (n:=(((ns.length+1:Nat):Int) - 1).toNat) (λi' U' H'=>∃(y8 y9:Option V) (qs:List Addr),U'=[some (.ref a0),some (.int (0+(i:Int))),some (.int cell),some (.ref t),some (.ref le),some (.ref lr),some (.ref lg),some (.ref pa),y8,y9,y10]/\Ex (·=pa) H7 H'/\H' pa=some (.lst (qs.map V.ref))/\qs.length=i'/\∀j q,qs[j]?=some q->jk H' pa ns ss j q)
   ⟨_,_,[],rfl,Ex.refl,e7,rfl,λj q h=>nomatch h⟩ ?_ ?_
  .rintro k U' H8 hk ⟨y8,y9,qs,rfl,E8,e8,ql,P8⟩
   have pO:k<ns.length:=by lia
   have pl8:zi H8 t a b ns ss:=⟨E8 _ _ tp pl7.t,E8 _ _ ap pl7.a,E8 _ _ bp pl7.b,ok⟩;have ek:(1:Int)+(k:Int)=((k+1:Nat):Int):=by lia
   refine ⟨_,rfl,t,_,0,_,rfl,rfl,ZD.of pl8.t,rfl,_,rfl,a,ns,k+1,by rw [ek]; rfl,pl8.a,by lia,by lia,λl9 rs9 H9 g9 el9 R9=>?_⟩;have pl9:=pl8.same g9;have e9:=g9 _ _ e8;refine ⟨_,rfl, .inl ⟨rfl,_,zK.of e9⟩,_,rfl,l9,rfl,⟨_,zK.of el9⟩,λD hD=>?_⟩;refine jm (U:=[some (.ref a0),some (.int (0+(i:Int))),some (.int cell),some (.ref t),some (.ref le),some (.ref lr),some (.ref lg),some (.ref pa),some (.int (1+(k:Int))),some (.ref l9),y10]) (yo ss) (zK.of el9) R9 hD (by rw [R9.len]; exact qQ (YO (by lia) (k:=k+1) (by lia)) (by decide)) (λr o H' mo g er P hP=>?_) λrs HC gC eC RC=>?_
   .exact ⟨_,rfl,_,rfl,t,a,b,r,ns,ss,o,rfl,pl9.same g,er,by rw [jW mo]; lia,_,rfl,hP _ zE.rfl'⟩
   have eCp:=gC _ _ e9;have Dp:D≠pa:=Ne.symm (zF e9 hD);refine ⟨pa,_,_,rfl,rfl,eCp,Zb (by rw [qA]; lia),?_⟩;refine ⟨_,_,qs++[D],rfl,(E8.trans (Ex.same (g9.trans gC))).trans (Ex.put _ rfl),by rw [zC,qN]; rfl,by rw [qJ,ql]; rfl,λj q hq=>?_⟩;by_cases z:j<qs.length
   .rw [QM z] at hq
    exact ((P8 j q hq).same (g9.trans gC)).put ok.n.up eCp
   .rw [q8 (by lia)] at hq
    have ez:j - qs.length=0:=by
     cases h:j - qs.length with
     | zero=>rfl
     | succ m=>rw [h] at hq; cases hq
    rw [ez] at hq;cases hq;have ej:j=k:=by lia
    subst ej;exact jk.put (H:=HC) ok.n.up ⟨Dp,rs,eC,RC⟩ eCp
  .rintro U' H8 ⟨y8,y9,qs,rfl,E8,e8,ql,P8⟩
   exact hN _ _ ⟨_,_,qs,rfl,E8,e8,by rw [ql]; lia,P8⟩
 rintro U' H8 ⟨y8,y9,qs,rfl,E8,e8,ql,P8⟩;have pl8:zi H8 t a b ns ss:=⟨E8 _ _ tp pl7.t,E8 _ _ ap pl7.a,E8 _ _ bp pl7.b,ok⟩;have G8:zE H H8:=λc o hc=>E8 _ _ (zF (G6 _ _ hc) hpa) (s7 _ _ (G6 _ _ hc));clear E8 pl7 s7 e7 tp ap bp pl6 G6;have qml:(qs.map V.ref).length=ns.length:=by rw [qA]; exact ql
 have L1:=zMg ok;have Ln:(Zk ns ss).length<=ns.length:=yE (zBU ok).nd (zBU ok).mem;have fne:jf ns ss (Zk ns ss).length≠[]:=λz=>by
  have h:=zEl ok;have z':(Zr ns (Zk ns ss).length).filter (yo ss)=[]:=z;rw [z'] at h;cases h
 have fno:∀j,(Zk ns ss).length - 1<j->j<ns.length->(!(jf ns ss (j+1)).isEmpty)=false:=λj h1 h2=>by
  have:jf ns ss (j+1)=[]:=zKO ok (by lia);rw [this];rfl
 obtain ⟨X,eX⟩:=zOe (n:=ns.length) (m:=(Zk ns ss).length - 1) (c:=λj=> !(jf ns ss (j+1)).isEmpty) (by lia) (by
  rw [Nat.sub_add_cancel L1];cases h:jf ns ss (Zk ns ss).length with
  | nil=>exact v6 h fne
  | cons _ _=>rfl) fno
 refine ⟨_,rfl,pa,rfl,⟨_,zK.of e8⟩,λD hD=>?_⟩;refine yt (xs:=qs.map V.ref) (λj=> !(jf ns ss (j+1)).isEmpty) (λj=>V.ref (qs.getD j 0)) (zK.of e8) hD (by lia) (λj H' hj g P hP=>?_) (λj H' hj _ g P hP=>?_) λH9 g9 e9=>?_
 .have hj':j<qs.length:=by lia
  obtain ⟨rs,eq,R⟩:=((P8 j _ (qB hj')).same g).at_;have ev:(qs.map V.ref).getD j .non=V.ref qs[j]:=by rw [qC,qM,qB hj']; rfl
  rw [ev];refine ⟨_,rfl,(by show 0<=sizeLine; decide),λe he=>?_⟩;have se:=zE.new he (.lst []);refine ⟨_,jq (zK.of (se _ _ eq)) (zK.of zC),_,rfl,?_⟩;have en:(rs.map V.ref).isEmpty=(jf ns ss (j+1)).isEmpty:=by
   have:=R.len;cases rs with
   | nil=>rw [List.length_eq_zero_iff.mp this.symm]; rfl
   | cons _ _=>
    cases h:jf ns ss (j+1) with
    | nil=>rw [h] at this; cases this
    | cons _ _=>rfl
  rw [en];exact hP _ se
 .have hj':j<qs.length:=by lia
  have ev:(qs.map V.ref).getD j .non=V.ref (qs.getD j 0):=by rw [qC,qM,qC,qB hj']; rfl
  rw [ev];exact ⟨_,rfl,hP _ zE.rfl'⟩
 rw [qml,eX,qN] at e9;have iL:(Zk ns ss).length - 1<qs.length:=by lia
 have PL:=(P8 _ _ (qB iL)).same g9;have eL:qs.getD ((Zk ns ss).length - 1) 0=qs[(Zk ns ss).length - 1]:=by rw [qC,qB iL]; rfl
 rw [qe,List.map_nil,eL] at e9;refine ⟨_,rfl,D,_,-1,_,rfl,rfl,zK.of e9,Jr _ _,?_⟩;generalize qs[(Zk ns ss).length - 1]=qL at PL e9;have qm:∀j,j<ns.length->∃q rs,qs[j]?=some q/\H9 q=some (.lst (rs.map V.ref))/\zq H9 rs (jf ns ss (j+1)):=λj hj=>by
  have hj':j<qs.length:=by lia
  obtain ⟨rs,eq,R⟩:=((P8 j _ (qB hj')).same g9).at_;exact ⟨_,rs,qB hj',eq,R⟩
 obtain ⟨rsL,eqL,RL⟩:=PL.at_;rw [Nat.sub_add_cancel L1] at RL;have pl9:=pl8.same g9;have G9:=G8.trans g9;have e89:=g9 _ _ e8;clear P8 PL e9 eX X g9 G8 pl8 e8 hD fno;obtain ⟨r0,rs',eR⟩:∃r0 rs',rsL=r0::rs':=xD (RL.ne fne);have er0:H9 r0=some (.lst ((Zk ns ss).map V.int)):=by
  obtain ⟨o,eo,er⟩:=RL.at_ 0 r0 (by rw [eR]; rfl);have h:=zEl ok;rw [List.head?_eq_getElem?] at h;have eo':((Zr ns (Zk ns ss).length).filter (yo ss))[0]?=some o:=eo;rw [h] at eo';cases eo';exact er
 have at0:YH (rsL.map V.ref) 0=some (.ref r0):=by rw [eR]; exact Zx (j:=0) rfl
 have gL:zBx H9 ns ss qL:=⟨_,rsL,L1,by lia,RL.ne fne,eqL,RL⟩;refine ⟨_,rfl,t,a,b,ns,ss,rfl,pl9,λH10 g10=>?_⟩;refine ⟨_,rfl,qL,_,0,_,rfl,rfl,zK.of (g10 _ _ eqL),at0,r0,_,rfl, .inl (zK.of (g10 _ _ er0)),rfl,_,rfl,?_⟩;have en:(!decide (V.int ((zLt ns ss:Nat):Int)=V.int ((((Zk ns ss).map V.int).length:Nat):Int)))=false:=by
  rw [qA,zKV ok,qK rfl];rfl
 rw [en];refine ZG ?_;refine ⟨_,rfl,t,a,b,ns,ss,rfl,pl9.same g10,λl1 H11 g11 nl1 el1=>?_⟩;have g911:=g10.trans g11;refine ⟨_,rfl,qL,_,0,_,rfl,rfl,zK.of (g911 _ _ eqL),at0,true,Jp el1 (g911 _ _ er0),_,rfl,ZG ?_⟩;have pl11:=pl9.same g911;have G11:=G9.trans g911;have gL11:=gL.same g911;dsimp only [zCF];clear el1 nl1 er0 at0 eR;refine jQ (λU' H'=>∃y9:Option V,U'=[some (.ref a0),some (.int (0+(i:Int))),some (.int cell),some (.ref t),some (.ref le),some (.ref lr),some (.ref lg),some (.ref pa),y8,y9,some (.ref qL)]/\zE H11 H') (λN hN=>?_) ?_
 .obtain ⟨q2,pM,a2,e2,R2⟩:=qm (min 2 (ns.length - 1)) (by lia)
  obtain ⟨q0,rs0,a0',e0,R0⟩:=qm 0 (by lia);have e11:=g911 _ _ e89;refine ⟨_,rfl,_,rfl,_,rfl,pa,_,rfl, .inl (zK.of e11),_,_,rfl,rfl,_,_,rfl,?_⟩;refine ⟨pa,_,((min 2 (ns.length - 1):Nat):Int),_,rfl,Qe V.int (by rw [qml]; split <;> lia),zK.of e11,Zx (j:=min 2 (ns.length - 1)) (v:= .ref q2) (by rw [qM,a2]; rfl),?_⟩;refine ⟨_, .inl ⟨_,zK.of (g911 _ _ e2),rfl⟩,?_⟩;refine zRJ (zBx H11 ns ss) q2 (λx gx=>?_) id (λc=>?_) λkey=>⟨_,rfl,pa,_,((0:Nat):Int),_,rfl,rfl,zK.of e11,Zx (j:=0) (v:= .ref q0) (by rw [qM,a0']; rfl),key q0 ?_⟩;rotate_left
  .exact ⟨_,pM,Nat.le_add_left 1 _,by lia,(λz=>by rw [z] at c; cases c),g911 _ _ e2,R2.same g911⟩
  .exact ⟨1,rs0,qG 1,by decide,R0.ne (zML ok),g911 _ _ e0,R0.same g911⟩
  refine ⟨yU,λl2 pK=>?_⟩;have s12:=zE.new pK (.lst [.ref qL, .ref x]);have e12:zH H11 l2 (.lst [.ref qL, .ref x]) l2=some (.lst [.ref qL, .ref x]):=zC;generalize zH H11 l2 (.lst [.ref qL, .ref x])=H12 at s12 e12 ⊢;refine ⟨l2,rfl,⟨_,zK.of e12⟩,?_⟩;refine yz (xs:=[.ref qL, .ref x]) (λj U H'=>∃y9:Option V,U=[some (.ref a0),some (.int (0+(i:Int))),some (.int cell),some (.ref t),some (.ref le),some (.ref lr),some (.ref lg),some (.ref pa),y8,y9,some (.ref qL)]/\zE H12 H') ⟨_,rfl,zE.rfl'⟩ (λj U H' _ ⟨_,_,g⟩=>zK.of (g _ _ e12)) ?_ λU H' ⟨y9,e,g⟩=>hN _ _ ⟨y9,e,s12.trans g⟩;rintro j v U H13 hv ⟨y9',rfl,g13⟩;have g11:=s12.trans g13;obtain ⟨y,rfl,k,rs,k1,k6,rne,ey,Ry⟩:∃y,v= .ref y/\zBx H13 ns ss y:=by
   rcases List.mem_cons.mp (qp hv) with z | z
   .exact ⟨qL,z,gL11.same g11⟩
   .exact ⟨x,List.mem_singleton.mp z,gx.same g11⟩
  have rml:(rs.map V.ref).length=rs.length:=qA _;have rl0:0<rs.length:=List.length_pos_iff.mpr rne;refine ⟨_,rfl,_,rfl,_,rfl,cell,30,rfl,by decide,by decide,λm H14 g14 m0=>?_⟩;have ln0:(0:Int)<((rs.length:Nat):Int):=by lia
  have i0:=XO m (Int.ne_of_gt ln0);have i1:=Xn m ln0;obtain ⟨jj,hj⟩:=XL i0;have jl:jj<rs.length:=by lia
  obtain ⟨o,eo,er⟩:=(Ry.same g14).at_ jj _ (qB jl);have at1:YH (rs.map V.ref) (m % (((rs.map V.ref).length:Nat):Int))=some (.ref rs[jj]):=by
   rw [rml,hj];exact Zx (by rw [qM,qB jl]; rfl)
  obtain ⟨pk,ol⟩:=zKo ok k1 (qp eo);have ey14:=g14 _ _ ey;refine ⟨_,rfl,y,_,rfl, .inl (zK.of ey14),_,_,rfl,rfl,(by rw [rml]; exact ln0),y,_,_,_,rfl,rfl,zK.of ey14,at1,?_⟩;refine ⟨t,a,b,rs[jj],ns,ss,o,rfl,(pl11.same g11).same g14,er,pk,by lia,λH15 g15=>⟨_,rfl,ZG ?_⟩⟩;exact ⟨_,rfl,g13.trans (g14.trans g15)⟩
 rintro U' H12 ⟨z9,rfl,g12⟩;have pl12:=pl11.same g12;refine ⟨_,rfl,_,rfl,cell,31,rfl,by decide,by decide,λr2 H13 g13 r20=>?_⟩;refine ⟨t,a,b,ns,ss,r2,rfl,r20,pl12.same g13,n6,λH14 g14=>⟨_,rfl,ZG ?_⟩⟩;exact ⟨_,_,_,_,_,_,_,_,_,_,rfl,G11.trans (g12.trans (g13.trans g14))⟩
def NV (K:W.Frag) (x:Str) (v:Option Value):Prop:=W.nsIn K mainGlobals x=some v
theorem nv_mk {x:Str} {v:Option Value} (h:W.nsIn K mainGlobals x=some v):NV K x v:=h
def DF (K:W.Frag) (x q:Str) (ps:List Str) (st:Stmt) (f:Addr):Prop:=∃fd,Zv K x q st f fd/\zX K fd ps []/\W.keepIn K (Value.ref f)=true
def DG (K:W.Frag) (x:Str) (ps:List Str) (st:Stmt) (f:Addr):Prop:=NV K x (some (.ref f))/\DF K x x ps st f
def DM (K:W.Frag) (C:Addr) (x q:Str) (ps:List Str) (st:Stmt) (f:Addr):Prop:=W.findIn K (.ref C) x=some (some (.ref f))/\W.isFn K (.ref f)=true/\DF K x q ps st f
section
variable {x q p1 p2 p3 p4:Str} {od an:Option Addr} {kV doc pm cdv ct:Value}
theorem zFb (h:us.length=2):∃u v,us=[u,v]:=by
 obtain ⟨u,us,rfl⟩:=Qx h;obtain ⟨v,rfl⟩:=List.length_eq_one_iff.mp (Nat.succ.inj h);exact ⟨u,v,rfl⟩
theorem zDc (l:K.lookup f=some ⟨oc,od, .func (W.fnOf x q (Z6 st) (Zz st) (Za st) .none kV doc pm an cdv ct),osl⟩) (c:W.codeIn K cdv q=true) (k:W.keepIn K (Value.ref f)=true)
  (h:∀(kV doc pm:Value) (an:Option Addr) (cdv ct:Value) (us:List Value),us.length=ps.length->bindArgs (W.fnOf x q (Z6 st) (Zz st) (Za st) .none kV doc pm an cdv ct) ⟨us,[]⟩=pure (ps.zip us)):DF K x q ps st f:=⟨_,zKM l c k,(zKM l c k).binds h,k⟩
theorem df0 (l:K.lookup f=some ⟨oc,od, .func (W.fnOf x q (Z6 st) (Zz st) (Za st) .none kV doc pm an cdv ct),osl⟩) (c:W.codeIn K cdv q=true) (k:W.keepIn K (Value.ref f)=true)
  (h:∀(kV doc pm:Value) (an:Option Addr) (cdv ct:Value),bindArgs (W.fnOf x q (Z6 st) (Zz st) (Za st) .none kV doc pm an cdv ct) ⟨[],[]⟩=pure []):DF K x q [] st f:=zDc l c k λa b c d e g us hl=>by obtain rfl:=List.length_eq_zero_iff.mp hl; exact h a b c d e g
theorem df1 (l:K.lookup f=some ⟨oc,od, .func (W.fnOf x q (Z6 st) (Zz st) (Za st) .none kV doc pm an cdv ct),osl⟩) (c:W.codeIn K cdv q=true) (k:W.keepIn K (Value.ref f)=true)
  (h:∀(kV doc pm:Value) (an:Option Addr) (cdv ct u:Value),bindArgs (W.fnOf x q (Z6 st) (Zz st) (Za st) .none kV doc pm an cdv ct) ⟨[u],[]⟩=pure [(p1,u)]):DF K x q [p1] st f:=zDc l c k λa b c d e g us hl=>by obtain ⟨u,rfl⟩:=List.length_eq_one_iff.mp hl; exact h a b c d e g u
theorem df2 (l:K.lookup f=some ⟨oc,od, .func (W.fnOf x q (Z6 st) (Zz st) (Za st) .none kV doc pm an cdv ct),osl⟩) (c:W.codeIn K cdv q=true) (k:W.keepIn K (Value.ref f)=true)
  (h:∀(kV doc pm:Value) (an:Option Addr) (cdv ct u v:Value),bindArgs (W.fnOf x q (Z6 st) (Zz st) (Za st) .none kV doc pm an cdv ct) ⟨[u,v],[]⟩=pure [(p1,u),(p2,v)]):DF K x q [p1,p2] st f:=zDc l c k λa b c d e g us hl=>by obtain ⟨u,v,rfl⟩:=zFb hl; exact h a b c d e g u v
theorem df3 (l:K.lookup f=some ⟨oc,od, .func (W.fnOf x q (Z6 st) (Zz st) (Za st) .none kV doc pm an cdv ct),osl⟩) (c:W.codeIn K cdv q=true) (k:W.keepIn K (Value.ref f)=true)
  (h:∀(kV doc pm:Value) (an:Option Addr) (cdv ct u v y:Value),bindArgs (W.fnOf x q (Z6 st) (Zz st) (Za st) .none kV doc pm an cdv ct) ⟨[u,v,y],[]⟩=pure [(p1,u),(p2,v),(p3,y)]):DF K x q [p1,p2,p3] st f:=zDc l c k λa b c d e g us hl=>by obtain ⟨u,us,rfl⟩:=Qx hl; obtain ⟨v,y,rfl⟩:=zFb (Nat.succ.inj hl); exact h a b c d e g u v y
theorem df4 (l:K.lookup f=some ⟨oc,od, .func (W.fnOf x q (Z6 st) (Zz st) (Za st) .none kV doc pm an cdv ct),osl⟩) (c:W.codeIn K cdv q=true) (k:W.keepIn K (Value.ref f)=true)
  (h:∀(kV doc pm:Value) (an:Option Addr) (cdv ct u v y z:Value),bindArgs (W.fnOf x q (Z6 st) (Zz st) (Za st) .none kV doc pm an cdv ct) ⟨[u,v,y,z],[]⟩=pure [(p1,u),(p2,v),(p3,y),(p4,z)]):DF K x q [p1,p2,p3,p4] st f:=zDc l c k λa b c d e g us hl=>by obtain ⟨u,us,rfl⟩:=Qx hl; obtain ⟨v,us,rfl⟩:=Qx (Nat.succ.inj hl); obtain ⟨y,z,rfl⟩:=zFb (Nat.succ.inj (Nat.succ.inj hl)); exact h a b c d e g u v y z
theorem dg_mk (a:W.nsIn K mainGlobals x=some (some (.ref f))) (d:DF K x x ps st f):DG K x ps st f:=⟨a,d⟩
theorem dm_mk (a:W.findIn K (.ref C) x=some (some (.ref f))) (i:W.isFn K (.ref f)=true) (d:DF K x q ps st f):DM K C x q ps st f:=⟨a,i,d⟩
end
def CM (K:W.Frag) (C:Addr) (x:Str):Prop:=NV K x (some (.ref C))/\Cls K C/\W.makesIn K C=true/\W.keepIn K (Value.ref C)=true
theorem cm_mk {x:Str} (a:W.nsIn K mainGlobals x=some (some (.ref C))) (pg:W.plainGet K C Str.empty=true) (hd:W.hasDictIn K C=true) (po:W.plainOver K C=true) (sa:W.findIn K (.ref C) "__setattr__"=some (some (.builtin "object.__setattr__"))) (mk:W.makesIn K C=true) (kc:W.keepIn K (Value.ref C)=true):CM K C x:=⟨a,⟨pg,hd,po,sa⟩,mk,kc⟩
theorem na_mk {x:Str} (h:W.findIn K (.ref C) x=some none):ZM K C x:=h
theorem all_mk {l:W.OpenLaw} {w:World} {fa f1 f2 f3 f4 f5 f6 f7 f8 f9 f10 f11 f12 f13 f14 f15 f16 f17 f18 f19 f20 f21 f22 f23 f24 f25 f26 f27 f28 f29 f30 f31 f32 f33 f34 f35 f36 f37 f38 f39 f40 f41 f42 f43 f44 f45 f46 f47 f48 f49 f50 f51 f52 f53 f54 f55 f56 f57 f58 f59 f60 f61 f62 f63 f64 f65 f66 f67 f68 f69 f70 f71 f72 f73 f74 f75 f76 f77 f78 f79 f80 f81 f82 f83 f84 f85 f86 f87 f88 f89 f90 f91 f92 C1 C2 C3 C4 B1:Addr} (X:K.In h) (G:h.Ns mainGlobals mg) (hfa:mg "law"=some (.ref fa))
  {t1 t2:Tok}
  (e1:DG K "is_whole" ["thing"] zFe f1)
  (e2:DG K "is_list_of_wholes" ["thing"] sLw f2)
  (e4:DG K "is_plan" ["thing"] zMV f4)
  (e5:DG K "check_plan" ["plan"] zMW f5)
  (e8:DG K "all_places" ["plan"] zIc f8)
  (e16:DG K "first_row" ["plan"] zIM f16)
  (e17:DG K "first_ring" ["plan"] zGN f17)
  (e18:DG K "tally_of_rows" ["plan"] sTr f18)
  (e19:DG K "count_rows" ["plan"] sCr f19)
  (e20:DG K "count_rings" ["plan"] sCg f20)
  (e33:DG K "short_cut" ["plan"] Ct.zMI f33)
  (e34:DG K "check_room" ["numbers"] zIW f34)
  (e39:DG K "greatest_length" ["plan"] sGl f39)
  (e40:DG K "longest_part" ["plan"] zLD f40)
  (e59:DG K "_law_all" ["plan"] zNH f59)
  (e61:DG K "law" ["script"] zMC f61)
  (e3:DG K "is_rising_list" ["thing","fewest"] zIS f3)
  (e6:DG K "check_number" ["plan","number"] zMv f6)
  (e9:DG K "near_places" ["plan","number"] zIJ f9)
  (e10:DG K "numbers_at" ["plan","places"] zIf f10)
  (e11:DG K "are_neighbours" ["plan","numbers"] sNb f11)
  (e12:DG K "holds_all" ["plan","thing"] sHo f12)
  (e13:DG K "is_row" ["plan","thing"] zLd f13)
  (e14:DG K "is_ring" ["plan","thing"] zLm f14)
  (e22:DG K "row_by" ["plan","number"] sRb f22)
  (e23:DG K "number_of" ["plan","thing"] sNo f23)
  (e24:DG K "is_cut" ["plan","thing"] Ct.zMN f24)
  (e28:DG K "parts_behind" ["plan","cut"] Ct.sPb f28)
  (e29:DG K "parts_left" ["plan","cut"] Ct.zMq f29)
  (e30:DG K "shows_no_row" ["plan","thing"] Ct.zME f30)
  (e31:DG K "shows_no_ring" ["plan","thing"] Ct.zLN f31)
  (e32:DG K "rising_lists" ["numbers","size"] Ct.zFu f32)
  (e35:DG K "stands_in" ["numbers","thing"] zNb f35)
  (e36:DG K "is_new" ["numbers","thing"] zMQ f36)
  (e37:DG K "with_one" ["numbers","number"] sWi f37)
  (e38:DG K "without_one" ["numbers","number"] sWo f38)
  (e41:DG K "is_part" ["plan","thing"] zND f41)
  (e42:DG K "check_part" ["plan","part"] zLB f42)
  (e43:DG K "places_to_turn" ["plan","part"] zMO f43)
  (e44:DG K "turned_behind" ["part","place"] zNV f44)
  (e45:DG K "turn_places" ["plan","part"] zLU f45)
  (e47:DG K "all_ends" ["plan","part"] sAe f47)
  (e48:DG K "_law_cell" ["script","k"] zHu f48)
  (e49:DG K "_law_mixed" ["cell","k"] zLl f49)
  (e50:DG K "_law_plan" ["cell","most"] sMp f50)
  (e51:DG K "_law_orders" ["numbers","many"] zNU f51)
  (e52:DG K "_law_fits" ["plan","row"] zIZ f52)
  (e53:DG K "_law_rings" ["plan","rows"] zMh f53)
  (e55:DG K "_law_parts" ["plan","gone"] zNF f55)
  (e57:DG K "_law_turned" ["plan","part"] zLF f57)
  (e58:DG K "_law_turns_good" ["plan","part"] zLT f58)
  (e60:DG K "_law_keeper_good" ["plan","cell"] zLg f60)
  (e7:DG K "add_up" ["plan","one","other"] zLx f7)
  (e15:DG K "first_from" ["plan","first_places","last_places"] zHz f15)
  (e21:DG K "count_between" ["plan","one","other"] sCb f21)
  (e25:DG K "belongs_to" ["plan","part","number"] Ct.zNS f25)
  (e26:DG K "widened" ["plan","part","left"] Ct.zLz f26)
  (e27:DG K "part_with" ["plan","number","left"] Ct.sPw f27)
  (e46:DG K "turned_at" ["plan","part","place"] zNf f46)
  (e56:DG K "_law_cuts_good" ["plan","rows","rings"] zLL f56)
  (e54:DG K "_law_rows_good" ["plan","every","rows","rings"] zLK f54)
  (y1_:CM K C1 "Search")
  (y2_:CM K C2 "Tally")
  (y3_:CM K C3 "Keeper")
  (y4_:CM K C4 "Reach")
  (nn1_1:ZM K C1 "ahead")
  (nn1_2:ZM K C1 "near")
  (nn1_3:ZM K C1 "whole")
  (nn1_4:ZM K C1 "last_places")
  (nn1_5:ZM K C1 "onward")
  (nn2_1:ZM K C2 "ahead")
  (nn2_2:ZM K C2 "near")
  (nn2_3:ZM K C2 "whole")
  (nn2_4:ZM K C2 "last_places")
  (nn2_5:ZM K C2 "known")
  (nn3_1:ZM K C3 "numbers")
  (nn3_2:ZM K C3 "sums")
  (nn4_1:ZM K C4 "ahead")
  (nn4_2:ZM K C4 "near")
  (nn4_3:ZM K C4 "whole")
  (nn4_4:ZM K C4 "known")
  (aB1:W.nsIn K mainGlobals "Steps"=some (some (.ref B1))) (ty1:W.typeIn K (.ref B1)=some mc1) (ga1:W.specialIn K (.ref B1) "__getattribute__"=some (some (.builtin "type.__getattribute__"))) (rd1:W.readsIn K B1 mc1=true)
  (e65:DM K C1 "found_places" "Search.found_places" ["self"] zLq f65)
  (e70:DM K C2 "all_ways" "Tally.all_ways" ["self"] sAw f70)
  (e77:DM K C3 "plan" "Keeper.plan" ["self"] zMb f77)
  (e78:DM K C3 "count" "Keeper.count" ["self"] zLn f78)
  (e79:DM K C3 "first" "Keeper.first" ["self"] zMH f79)
  (e89:DM K C4 "longest_places" "Reach.longest_places" ["self"] sLp f89)
  (e90:DM K C4 "most_of_all" "Reach.most_of_all" ["self"] sMa f90)
  (e73:DM K C2 "places_by" "Tally.places_by" ["self","number"] sPb f73)
  (e74:DM K C2 "number_at" "Tally.number_at" ["self","places"] sNa f74)
  (e76:DM K C3 "__init__" "Keeper.__init__" ["self","plan"] zLJ f76)
  (e81:DM K C3 "come" "Keeper.come" ["self","number"] zMP f81)
  (e82:DM K C3 "go" "Keeper.go" ["self","number"] zNO f82)
  (e83:DM K C3 "sum_comes" "Keeper.sum_comes" ["self","number"] zNZ f83)
  (e84:DM K C3 "sum_goes" "Keeper.sum_goes" ["self","number"] zLp f84)
  (e85:DM K C4 "__init__" "Reach.__init__" ["self","plan"] zLC f85)
  (e63:DM K C1 "can_end" "Search.can_end" ["self","left","end"] zHw f63)
  (e64:DM K C1 "first_step" "Search.first_step" ["self","left","end"] zIQ f64)
  (e66:DM K C1 "steps" "Steps.steps" ["self","left","end"] zBY f66)
  (e68:DM K C2 "ways" "Tally.ways" ["self","left","end"] sWy f68)
  (e69:DM K C2 "ways_by" "Tally.ways_by" ["self","left","place"] sWb f69)
  (e75:DM K C2 "steps" "Steps.steps" ["self","left","end"] zBY f75)
  (e80:DM K C3 "change_to" "Keeper.change_to" ["self","numbers","sums"] zLA f80)
  (e86:DM K C4 "most" "Reach.most" ["self","left","end"] sMs f86)
  (e87:DM K C4 "most_by" "Reach.most_by" ["self","left","place"] sMb f87)
  (e88:DM K C4 "longest_step" "Reach.longest_step" ["self","left","end"] sLs f88)
  (e91:DM K C4 "steps" "Steps.steps" ["self","left","end"] zBY f91)
  (e62:DM K C1 "__init__" "Search.__init__" ["self","plan","first_places","last_places"] zLY f62)
  (e67:DM K C2 "__init__" "Tally.__init__" ["self","plan","first_places","last_places"] zMT f67)
  (e71:DM K C2 "ways_ahead" "Tally.ways_ahead" ["self","left","end","place"] zLv f71)
  (e72:DM K C2 "step_by" "Tally.step_by" ["self","left","end","number"] sSb f72)
  (a92:W.findCls K (.ref B1) mc1 "__init__"=some (.val (.ref f92))) (i92:W.isFn K (.ref f92)=true) (e92:DF K "__init__" "Steps.__init__" ["self","plan","first_places"] zJU f92)
  (m1:NV K "MOST" (some (.int 10 t1)))
  (m2:NV K "FEWEST_IN_RING" (some (.int 3 t2)))
  (m3:NV K "MOST_IN_SHORT_CUT" (some (.int 3 t3)))
  (z1:NV K "len" none)
  (z2:NV K "max" none)
  (z3:NV K "min" none)
  (z4:NV K "range" none)
  (z5:NV K "list" none)
  (z6:NV K "int" none)
  (z7:NV K "all" none)
  (z8:NV K "isinstance" none)
  (z9:NV K "bool" none)
  (z10:NV K "str" none)
  (z11:NV K "tuple" none)
  (z12:NV K "sorted" none)
  (z13:NV K "enumerate" none)
  (z14:NV K "zip" none)
  (z15:NV K "sum" none)
  (z16:NV K "set" none)
  (z17:NV K "any" none)
  (z18:NV K "reversed" none)
  (z19:NV K "abs" none)
  :∃fd:FuncData,(∀(s:Shared) (v:Value),BindsTo s fd ⟨[v],[]⟩ [("script",v)])/\∀base:Heap,K.In base->base.Ns mainGlobals mg->FnOk l.prog w K mg base zU 30 fa fd ["script"] (zDo K):=by
 obtain ⟨a1,_,F1,b1,k1⟩:=e1;obtain ⟨a2,_,F2,b2,k2⟩:=e2;obtain ⟨a4,_,F4,b4,k4⟩:=e4;obtain ⟨a5,_,F5,b5,k5⟩:=e5;obtain ⟨a8,_,F8,b8,k8⟩:=e8;obtain ⟨a16,_,F16,b16,k16⟩:=e16;obtain ⟨a17,_,F17,b17,k17⟩:=e17;obtain ⟨a18,_,F18,b18,k18⟩:=e18;obtain ⟨a19,_,F19,b19,k19⟩:=e19;obtain ⟨a20,_,F20,b20,k20⟩:=e20;obtain ⟨a33,_,F33,b33,k33⟩:=e33;obtain ⟨a34,_,F34,b34,k34⟩:=e34;obtain ⟨a39,_,F39,b39,k39⟩:=e39;obtain ⟨a40,_,F40,b40,k40⟩:=e40;obtain ⟨a59,_,F59,b59,k59⟩:=e59;obtain ⟨a61,d61_,F61,b61,k61⟩:=e61;obtain ⟨a3,_,F3,b3,k3⟩:=e3;obtain ⟨a6,_,F6,b6,k6⟩:=e6;obtain ⟨a9,_,F9,b9,k9⟩:=e9;obtain ⟨a10,_,F10,b10,k10⟩:=e10;obtain ⟨a11,_,F11,b11,k11⟩:=e11;obtain ⟨a12,_,F12,b12,k12⟩:=e12;obtain ⟨a13,_,F13,b13,k13⟩:=e13;obtain ⟨a14,_,F14,b14,k14⟩:=e14;obtain ⟨a22,_,F22,b22,k22⟩:=e22;obtain ⟨a23,_,F23,b23,k23⟩:=e23;obtain ⟨a24,_,F24,b24,k24⟩:=e24;obtain ⟨a28,_,F28,b28,k28⟩:=e28;obtain ⟨a29,_,F29,b29,k29⟩:=e29;obtain ⟨a30,_,F30,b30,k30⟩:=e30;obtain ⟨a31,_,F31,b31,k31⟩:=e31;obtain ⟨a32,_,F32,b32,k32⟩:=e32;obtain ⟨a35,_,F35,b35,k35⟩:=e35;obtain ⟨a36,_,F36,b36,k36⟩:=e36;obtain ⟨a37,_,F37,b37,k37⟩:=e37;obtain ⟨a38,_,F38,b38,k38⟩:=e38;obtain ⟨a41,_,F41,b41,k41⟩:=e41;obtain ⟨a42,_,F42,b42,k42⟩:=e42;obtain ⟨a43,_,F43,b43,k43⟩:=e43;obtain ⟨a44,_,F44,b44,k44⟩:=e44;obtain ⟨a45,_,F45,b45,k45⟩:=e45;obtain ⟨a47,_,F47,b47,k47⟩:=e47;obtain ⟨a48,_,F48,b48,k48⟩:=e48;obtain ⟨a49,_,F49,b49,k49⟩:=e49;obtain ⟨a50,_,F50,b50,k50⟩:=e50;obtain ⟨a51,_,F51,b51,k51⟩:=e51;obtain ⟨a52,_,F52,b52,k52⟩:=e52;obtain ⟨a53,_,F53,b53,k53⟩:=e53;obtain ⟨a55,_,F55,b55,k55⟩:=e55;obtain ⟨a57,_,F57,b57,k57⟩:=e57;obtain ⟨a58,_,F58,b58,k58⟩:=e58;obtain ⟨a60,_,F60,b60,k60⟩:=e60;obtain ⟨a7,_,F7,b7,k7⟩:=e7;obtain ⟨a15,_,F15,b15,k15⟩:=e15;obtain ⟨a21,_,F21,b21,k21⟩:=e21;obtain ⟨a25,_,F25,b25,k25⟩:=e25;obtain ⟨a26,_,F26,b26,k26⟩:=e26;obtain ⟨a27,_,F27,b27,k27⟩:=e27;obtain ⟨a46,_,F46,b46,k46⟩:=e46;obtain ⟨a56,_,F56,b56,k56⟩:=e56;obtain ⟨a54,_,F54,b54,k54⟩:=e54;obtain ⟨aC1,⟨pg1,hd1,po1,sa1⟩,mk1,kc1⟩:=y1_;obtain ⟨aC2,⟨pg2,pN,po2,sa2⟩,mk2,kc2⟩:=y2_;obtain ⟨aC3,⟨pg3,hd3,po3,sa3⟩,mk3,kc3⟩:=y3_;obtain ⟨aC4,⟨pg4,hd4,po4,sa4⟩,mk4,kc4⟩:=y4_;obtain ⟨a65,i65,_,F65,b65,k65⟩:=e65;obtain ⟨a70,i70,_,F70,b70,k70⟩:=e70;obtain ⟨a77,i77,_,F77,b77,k77⟩:=e77;obtain ⟨a78,i78,_,F78,b78,k78⟩:=e78;obtain ⟨a79,i79,_,F79,b79,k79⟩:=e79;obtain ⟨a89,i89,_,F89,b89,k89⟩:=e89;obtain ⟨a90,i90,_,F90,b90,k90⟩:=e90;obtain ⟨a73,i73,_,F73,b73,k73⟩:=e73;obtain ⟨a74,i74,_,F74,b74,k74⟩:=e74;obtain ⟨a76,i76,_,F76,b76,k76⟩:=e76;obtain ⟨a81,i81,_,F81,b81,k81⟩:=e81;obtain ⟨a82,i82,_,F82,b82,k82⟩:=e82;obtain ⟨a83,i83,_,F83,b83,k83⟩:=e83;obtain ⟨a84,i84,_,F84,b84,k84⟩:=e84;obtain ⟨a85,i85,_,F85,b85,k85⟩:=e85;obtain ⟨a63,i63,_,F63,b63,k63⟩:=e63;obtain ⟨a64,i64,_,F64,b64,k64⟩:=e64;obtain ⟨a66,i66,_,F66,b66,k66⟩:=e66;obtain ⟨a68,i68,_,F68,b68,k68⟩:=e68;obtain ⟨a69,i69,_,F69,b69,k69⟩:=e69;obtain ⟨a75,i75,_,F75,b75,k75⟩:=e75;obtain ⟨a80,i80,_,F80,b80,k80⟩:=e80;obtain ⟨a86,i86,_,F86,b86,k86⟩:=e86;obtain ⟨a87,i87,_,F87,b87,k87⟩:=e87;obtain ⟨a88,i88,_,F88,b88,k88⟩:=e88;obtain ⟨a91,i91,_,F91,b91,k91⟩:=e91;obtain ⟨a62,i62,_,F62,b62,k62⟩:=e62;obtain ⟨a67,i67,_,F67,b67,k67⟩:=e67;obtain ⟨a71,i71,_,F71,b71,k71⟩:=e71;obtain ⟨a72,i72,_,F72,b72,k72⟩:=e72;obtain ⟨_,F92,b92,k92⟩:=e92;cases hfa.symm.trans (W.mg_of X G a61);have M:∀{x:Str} {v:Value},W.nsIn K mainGlobals x=some (some v)->mg x=some v:=λh=>W.mg_of X G h;have zb:∀x:Str,W.nsIn K mainGlobals x=some none->mg x=none:=λx h=>W.mg_none_of X G h;refine ⟨d61_,?_,λbase _ _=>?_⟩
 .obtain ⟨_,_,_,_,_,_,_,_,_,rfl,_⟩:=F61.ex
  exact λs v=> .of_eq rfl
 have B4:jP mg:={len:=zb "len" z1,max:=zb "max" z2,min:=zb "min" z3,range:=zb "range" z4,list:=zb "list" z5,int:=zb "int" z6,all:=zb "all" z7,isinstance:=zb "isinstance" z8,bool:=zb "bool" z9,str:=zb "str" z10,tuple:=zb "tuple" z11,sorted:=zb "sorted" z12,enumerate:=zb "enumerate" z13,zip:=zb "zip" z14,sum:=zb "sum" z15};have B:=B4.toBt3;have BL:BtL mg:={B4 with abs:=zb "abs" z19};have TS:zCx K C1:={cl:=⟨pg1,hd1,po1,sa1⟩,nA:=nn1_1,nN:=nn1_2,nW:=nn1_3,nL:=nn1_4,nO:=nn1_5};have T:J3 K C2:={cl:=⟨pg2,pN,po2,sa2⟩,nA:=nn2_1,nN:=nn2_2,nW:=nn2_3,nL:=nn2_4,nK:=nn2_5};have TK:KpT K C3:=⟨⟨pg3,hd3,po3,sa3⟩,nn3_1,nn3_2⟩;have TR:RcT K C4:={cl:=⟨pg4,hd4,po4,sa4⟩,nA:=nn4_1,nN:=nn4_2,nW:=nn4_3,nK:=nn4_4};have OW:=zMn (P:=l.prog) (w:=w) (base:=base) F1 B.toBt2;have OR:=zOg F3 B.toBt2 (M m1) ⟨OW,b1,k1,M a1⟩;have OI:=zQl F4 B.toBt2 ⟨OR,b3,k3,M a3⟩;have OC:=zQD F5 ⟨OI,b4,k4,M a4⟩;have OA:=zQj (P:=l.prog) (w:=w) (mg:=mg) (base:=base) F7;have OAP:=zOH (P:=l.prog) (w:=w) (base:=base) F8 B;have ON:=zOi F9 B ⟨OA,b7,k7,M a7⟩;have ONM:=zOy (P:=l.prog) (w:=w) (mg:=mg) (base:=base) F10;have OI0:=zEc F92 B T.toSrT ⟨ON,b9,k9,M a9⟩;have OTI:=zQt F67 B T ⟨ga1,rd1,a92,k92⟩ (M aB1) OI0 b92;have OST:=zCy (P:=l.prog) (w:=w) (mg:=mg) (base:=base) F75 T.toSrT;have OWY:=zDu F68 F69 B4 T ⟨a68,i68,k68⟩ ⟨a69,i69,k69⟩ ⟨a75,i75,k75⟩ OST b75 b68 b69 10;have OWB:=zNr F69 T ⟨a68,i68,k68⟩ (zDu F68 F69 B4 T ⟨a68,i68,k68⟩ ⟨a69,i69,k69⟩ ⟨a75,i75,k75⟩ OST b75 b68 b69 9) b68;have OAW:=zRv F70 T ⟨a68,i68,k68⟩ OWY b68;have OWA:=zPZ F71 B4 T ⟨a69,i69,k69⟩ ⟨a75,i75,k75⟩ (OWB.mono (by decide:21<=22)) b69 (OST.mo) b75;have OSB:=zSH F72 T ⟨a71,i71,k71⟩ ⟨a75,i75,k75⟩ OWA b71 (OST.mo) b75;have OPB:=zIR F73 T ⟨a71,i71,k71⟩ ⟨a72,i72,k72⟩ (OWA.mo) b71 OSB b72;have ONA:=zRP F74 T ⟨a71,i71,k71⟩ OWA b71;have OTR:=zRy F18 ⟨mk2,a67,i67,kc2⟩ (M aC2) OTI b67 ⟨OAP.mo,b8,k8,M a8⟩;have OCR:=zRY F19 T ⟨a70,i70,k70⟩ OAW b70 ⟨OC.mo,b5,k5,M a5⟩ ⟨OTR.mo,b18,k18,M a18⟩;have OCG:=zRM F20 B T (M m2) ⟨a70,i70,k70⟩ ⟨mk2,a67,i67,kc2⟩ (M aC2) (OTI.mo) b67 OAW b70 ⟨OC.mo,b5,k5,M a5⟩ ⟨ON.mo,b9,k9,M a9⟩;have ORB:=zRX F22 T ⟨a70,i70,k70⟩ ⟨a73,i73,k73⟩ (OAW.mo) b70 OPB b73 ⟨OC.mo,b5,k5,M a5⟩ ⟨OTR.mo,b18,k18,M a18⟩ ⟨OW.mo,b1,k1,M a1⟩ ⟨ONM.mo,b10,k10,M a10⟩;have OL:=zSL F2 B4 ⟨OW,b1,k1,M a1⟩;have ONB:=zRV F11 B4 ⟨OA,b7,k7,M a7⟩;have OH:=zRS F12 B4 ⟨OL,b2,k2,M a2⟩;have OIR:=zPR F13 ⟨OC.mo,b5,k5,M a5⟩ ⟨OH.mo,b12,k12,M a12⟩ ⟨ONB.mo,b11,k11,M a11⟩;have OIG:=zQg F14 B4 (M m2) ⟨OIR,b13,k13,M a13⟩ ⟨OA.mo,b7,k7,M a7⟩;have ONO:=zPE F23 T ⟨a74,i74,k74⟩ ONA b74 ⟨OIR.mo,b13,k13,M a13⟩ ⟨OTR.mo,b18,k18,M a18⟩;have OI1:=zEc F92 B TS.toSrT ⟨ON,b9,k9,M a9⟩;have OIN:=zQp F62 B TS ⟨ga1,rd1,a92,k92⟩ (M aB1) OI1 b92;have OSS:=zCy (P:=l.prog) (w:=w) (mg:=mg) (base:=base) F66 TS.toSrT;have OCA:=zHW F63 F64 TS ⟨a63,i63,k63⟩ ⟨a64,i64,k64⟩ ⟨a66,i66,k66⟩ OSS b66 b63 b64 10;have OFN:=zPI (P:=l.prog) (w:=w) (mg:=mg) (base:=base) F65 TS;have OFR:=zOh F15 TS ⟨mk1,a62,i62,kc1⟩ (M aC1) ⟨a63,i63,k63⟩ ⟨a65,i65,k65⟩ (OIN.mo) b62 OCA b63 (OFN.mo) b65 ⟨ONM.mo,b10,k10,M a10⟩;have ORW:=zOp F16 ⟨OC.mo,b5,k5,M a5⟩ ⟨OFR,b15,k15,M a15⟩ ⟨OAP.mo,b8,k8,M a8⟩;have ORG:=zMt F17 B (M m2) ⟨OC.mo,b5,k5,M a5⟩ ⟨OFR,b15,k15,M a15⟩ ⟨ON.mo,b9,k9,M a9⟩;have OCN:=zQS F6 ⟨OW,b1,k1,M a1⟩;have OCB:=zSM F21 T ⟨a70,i70,k70⟩ ⟨mk2,a67,i67,kc2⟩ (M aC2) (OTI.mo) b67 OAW b70 ⟨OC.mo,b5,k5,M a5⟩ ⟨OCN.mo,b6,k6,M a6⟩;have OIT:=zPP F41 B4 ⟨OL.mo,b2,k2,M a2⟩ ⟨ONB.mo,b11,k11,M a11⟩;have OCT:=zQX F42 ⟨OC.mo,b5,k5,M a5⟩ ⟨OIT,b41,k41,M a41⟩;have OPP:=zQv F43 B4 ⟨OA,b7,k7,M a7⟩;have OTB:=zQB (P:=l.prog) (w:=w) (base:=base) F44 B4 (zb "reversed" z18);have OTP:=zQG F45 ⟨OCT,b42,k42,M a42⟩ ⟨OPP.mo,b43,k43,M a43⟩;have OTT:=zPq F46 ⟨OCT,b42,k42,M a42⟩ ⟨OPP.mo,b43,k43,M a43⟩ ⟨OW.mo,b1,k1,M a1⟩ ⟨OTB.mo,b44,k44,M a44⟩;have OAE:=zRO F47 B4 (zb "set" z16) ⟨OCT,b42,k42,M a42⟩ ⟨OPP.mo,b43,k43,M a43⟩ ⟨OTB.mo,b44,k44,M a44⟩;have OI3:=zEc F92 B TR.toSrT ⟨ON,b9,k9,M a9⟩;have ORI:=zQC F85 TR ⟨ga1,rd1,a92,k92⟩ (M aB1) OI3 b92 ⟨OAP.mo,b8,k8,M a8⟩;have OSR:=zCy (P:=l.prog) (w:=w) (mg:=mg) (base:=base) F91 TR.toSrT;have OMO:=zEA F86 F87 B4 TR ⟨a86,i86,k86⟩ ⟨a87,i87,k87⟩ ⟨a91,i91,k91⟩ OSR b91 b86 b87 10;have OMB:=zNt F87 TR ⟨a86,i86,k86⟩ (zEA F86 F87 B4 TR ⟨a86,i86,k86⟩ ⟨a87,i87,k87⟩ ⟨a91,i91,k91⟩ OSR b91 b86 b87 9) b86;have OLS:=zRE F88 TR ⟨a86,i86,k86⟩ ⟨a87,i87,k87⟩ ⟨a91,i91,k91⟩ (OMO.mono (by decide:22<=23)) b86 (OMB.mo) b87 (OSR.mo) b91;have OLP:=zRN F89 TR ⟨a86,i86,k86⟩ ⟨a88,i88,k88⟩ (OMO.mo) b86 OLS b88;have OPT:=zQZ F40 TR ⟨a89,i89,k89⟩ ⟨mk4,a85,i85,kc4⟩ (M aC4) (ORI.mo) b85 OLP b89 ⟨OC.mo,b5,k5,M a5⟩ ⟨ONM.mo,b10,k10,M a10⟩;have OMA:=zRr F90 TR ⟨a86,i86,k86⟩ OMO b86;have OGL:=zSG F39 TR ⟨a90,i90,k90⟩ ⟨mk4,a85,i85,kc4⟩ (M aC4) (ORI.mo) b85 OMA b90 ⟨OC.mo,b5,k5,M a5⟩;have OIC:=Ct.zQJ F24 B4 ⟨OR,b3,k3,M a3⟩;have OBE:=Ct.zPX F25 (zb "any" z17) ⟨OA,b7,k7,M a7⟩;have OWI:=Ct.zQR F26 ⟨OBE,b25,k25,M a25⟩;have OPW:=Ct.zRx F27 ⟨OWI,b26,k26,M a26⟩;have OPH:=Ct.zIR F28 ⟨OPW,b27,k27,M a27⟩;have OPF:=Ct.zPn F29 ⟨OC.mo,b5,k5,M a5⟩ ⟨OIC.mo,b24,k24,M a24⟩ ⟨OPH,b28,k28,M a28⟩;have OSN:=Ct.zQT F30 B ⟨OC.mo,b5,k5,M a5⟩ ⟨OIC.mo,b24,k24,M a24⟩ ⟨OPH,b28,k28,M a28⟩;have OSG:=Ct.zPb F31 B (M m2) ⟨OC.mo,b5,k5,M a5⟩ ⟨OIC.mo,b24,k24,M a24⟩ ⟨OPH,b28,k28,M a28⟩;have ORL:=Ct.zKy (P:=l.prog) (w:=w) (base:=base) F32 B b32 k32 (M a32) 4;have OSC:=Ct.zQd F33 B (M m3) ⟨OC.mo,b5,k5,M a5⟩ ⟨ORL.mo,b32,k32,M a32⟩ ⟨OSN,b30,k30,M a30⟩;have ORM:=zOP (P:=l.prog) (w:=w) (base:=base) F34 B (M m1);have OSD:=zQz F35 ⟨OW,b1,k1,M a1⟩;have ONE:=zPe F36 ⟨OW,b1,k1,M a1⟩;have OWH:=zRn (P:=l.prog) (w:=w) (base:=base) F37 B;have OWO:=zRk (P:=l.prog) (w:=w) (mg:=mg) (base:=base) F38;have OK0:=zOl F76 B TK ⟨OC,b5,k5,M a5⟩;have OKP:=zQo (P:=l.prog) (w:=w) (base:=base) F77 B TK;have OKC:=zPl F78 TK ⟨a77,i77,k77⟩ (OKP.mo) b77 ⟨OCR,b19,k19,M a19⟩;have OKF:=zQm F79 TK ⟨a77,i77,k77⟩ (OKP.mo) b77 ⟨ORW,b16,k16,M a16⟩;have OKH:=zPS F80 TK ⟨a78,i78,k78⟩ OKC b78;have OCO:=zQK F81 TK ⟨ORM.mo,b34,k34,M a34⟩ ⟨ONE.mo,b36,k36,M a36⟩ ⟨OWH.mo,b37,k37,M a37⟩ ⟨a80,i80,k80⟩ OKH b80;have OGO:=zQA F82 B TK ⟨OSD.mo,b35,k35,M a35⟩ ⟨OWO.mo,b38,k38,M a38⟩ ⟨a80,i80,k80⟩ OKH b80
 have OKS:=zPH F83 TK ⟨ORM.mo,b34,k34,M a34⟩ ⟨ONE.mo,b36,k36,M a36⟩ ⟨OWH.mo,b37,k37,M a37⟩ ⟨a80,i80,k80⟩ OKH b80;have OKG:=zQx F84 TK ⟨OSD.mo,b35,k35,M a35⟩ ⟨OWO.mo,b38,k38,M a38⟩ ⟨a80,i80,k80⟩ OKH b80;have OCE:=zOu (P:=l.prog) (w:=w) (base:=base) F48 B;have OMX:=zPf (P:=l.prog) (w:=w) (mg:=mg) (base:=base) F49;have OMP:=zRl F50 B.toBt2 (zb "set" z16) ⟨OMX,b49,k49,M a49⟩;have OOR:=zQL (P:=l.prog) (w:=w) (base:=base) F51 B;have OFI:=zOS (P:=l.prog) (w:=w) (base:=base) F52 B;have OGS:=zPU (P:=l.prog) (w:=w) (base:=base) F53 B;have OAL:=zQu F59 B ⟨OOR,b51,k51,M a51⟩ ⟨OFI,b52,k52,M a52⟩;have ORD:=zQs F54 B4 ⟨ORW.mo,b16,k16,M a16⟩ ⟨ORG.mo,b17,k17,M a17⟩ ⟨OCR.mo,b19,k19,M a19⟩ ⟨OCG.mo,b20,k20,M a20⟩ ⟨ORB.mo,b22,k22,M a22⟩ ⟨ONO.mo,b23,k23,M a23⟩ ⟨OIR.mo,b13,k13,M a13⟩ ⟨OIG.mo,b14,k14,M a14⟩ ⟨OCB.mo,b21,k21,M a21⟩;have OKD:=zPz F60 B TK ⟨OAL.mo,b59,k59,M a59⟩ ⟨mk3,a76,i76,kc3⟩ (M aC3) (OK0.mo) b76 ⟨a77,i77,k77⟩ (OKP.mo) b77 ⟨a78,i78,k78⟩ (OKC.mo) b78 ⟨a79,i79,k79⟩ (OKF.mo) b79 ⟨a81,i81,k81⟩ (OCO.mo) b81 ⟨a82,i82,k82⟩ (OGO.mo) b82 ⟨a83,i83,k83⟩ (OKS.mo) b83 ⟨a84,i84,k84⟩ (OKG.mo) b84;have OTD:=zPc (P:=l.prog) (w:=w) (base:=base) F57 B4;have OTG:=zQi F58 B4 (zb "set" z16) ⟨OTD.mo,b57,k57,M a57⟩ ⟨OTP,b45,k45,M a45⟩ ⟨OTT,b46,k46,M a46⟩ ⟨OAE,b47,k47,M a47⟩;have OPS:=Ct.zQb (P:=l.prog) (w:=w) (base:=base) F55 B;have OCD:=Ct.zPv F56 B4 ⟨OOR.mo,b51,k51,M a51⟩ ⟨OPS.mo,b55,k55,M a55⟩ ⟨OPF.mo,b29,k29,M a29⟩ ⟨OSN.mo,b30,k30,M a30⟩ ⟨OSG.mo,b31,k31,M a31⟩ ⟨OSC,b33,k33,M a33⟩;exact zQW F61 BL ⟨OCE.mo,b48,k48,M a48⟩ ⟨OMX.mo,b49,k49,M a49⟩ ⟨OMP.mo,b50,k50,M a50⟩ ⟨OOR.mo,b51,k51,M a51⟩ ⟨OAL.mo,b59,k59,M a59⟩ ⟨OGS.mo,b53,k53,M a53⟩ ⟨ORD.mo,b54,k54,M a54⟩ ⟨OCD.mo,b56,k56,M a56⟩ ⟨OFI.mo,b52,k52,M a52⟩ ⟨OGL.mo,b39,k39,M a39⟩ ⟨OPT.mo,b40,k40,M a40⟩ ⟨OTG.mo,b58,k58,M a58⟩ ⟨OKD,b60,k60,M a60⟩
theorem walk {l:W.OpenLaw} {q:Program} {K:Params->W.Frag} (hn:l.most=some 63) (hdf:d.params.defaults=[])
  (hY:∀(w:World) (h:Heap),YP w h->(K w.params).In h)
  (F:∀(w:World) (mg:Str->Option Value) (fa:Addr) (h:Heap),(K w.params).In h->h.Ns mainGlobals mg->mg d.name=some (.ref fa)->
   ∃fd:FuncData,(∀(s:Shared) (u:Value),BindsTo s fd ⟨[u],[]⟩ [("script",u)])/\∀base:Heap,(K w.params).In base->base.Ns mainGlobals mg->FnOk l.prog w (K w.params) mg base zU 30 fa fd ["script"] (zDo (K w.params))):
  W.WalkO q loose XP YP l.row.toRowW d [] (λf vs=>PySem.call f vs):=
 L2.zON (n:=63) (k:=30) (x:="script") (CX:=λ_=>zU) (sp:=λw=>zDo (K w.params)) hn (by decide) hdf ⟨rfl,by decide,by decide⟩ hY F (λ_ _ a ns hl _ hS=>⟨a,ns,rfl,hS,hl,λ_=>rfl⟩) λ_ _ _ _ _ z=>z
end N55
namespace PySem.W.Fast
def tw11845828361693830796:=0
def tw12154589074689519910:=0
def tw7934155809206934238:=0
def tw17341205910532494803:=0
def tw13890643530368625621:=0
def tw18340615200593005103:=0
def tw18401539348977606604:=0
def tw16207094442898611992:=0
def tw6756810676311602266:=0
def tw1308303108869535754:=0
def tw3020807521712627710:=0
def tw6468014243883814114:=0
def tw3352618843298648892:=0
def tw13034955453813149345:=0
def tw13812383094496609329:=0
def tw9771644113572499947:=0
def tw7156489623259192846:=0
def tw215245561706763849:=0
def tw3093400501852741233:=0
def tw3020657004031598123:=0
def tw4767053521999206834:=0
def tw15681353776707960393:=0
def tw15597785195919988058:=0
def tw13357009765687693688:=0
def tw15577936084612377561:=0
def tw9256336763239945558:=0
def tw15140848731021297966:=0
def tw6654448565835980794:=0
def tw16833560697756775743:=0
def tw16735550289625949658:=0
def tw5310080204474953712:=0
def tw6794162897288218339:=0
def tw12264813985709822006:=0
def tw14164645887418458470:=0
def tw14185907517880217407:=0
def tw4956276920492622397:=0
def tw16308489861331416422:=0
def tw12272320377950874867:=0
def tw10385662386762389013:=0
def tw8589968951991212074:=0
def tw13141246496392332080:=0
def tw16358240409136871716:=0
def tw14765940638276653543:=0
def tw8824964409074976782:=0
def tw7172849884316911630:=0
def tw7517057639494869891:=0
def tw12693484896072452078:=0
def tw13872515649005360231:=0
def tw10975421040494242698:=0
def tw10948879097443931844:=0
def tw4734307684221856546:=0
def tw9432092656310852168:=0
def tw13227536455574097906:=0
def tw6032970830609099367:=0
def tw3821812865025928196:=0
def tw10921958614722306797:=0
def tw8741023126512526351:=0
def tw6203602077915619531:=0
def tw11490962016371727211:=0
def tw7023485355143962960:=0
def tw10783072787233868041:=0
def tw9260702727296211559:=0
def tw14797406271030126810:=0
def tw552844279520978628:=0
def tw5089313270760140928:=0
def tw1907126570604656779:=0
def tw12078544377119227818:=0
def tw8526828878979827898:=0
def tw5281409274456760493:=0
def tw10343116799500015171:=0
def tw3039701284756718614:=0
def tw8400870605593374640:=0
def tw9950401128118508476:=0
def tw14896920990634612745:=0
def tw6320761747324908340:=0
def tw9375640711421847588:=0
def tw15966552255686417005:=0
def tw13991993123242782825:=0
def tw16181856589213378868:=0
def tw9365232964594587108:=0
def tw13064243596907942534:=0
def tw14770507167044034671:=0
def tw16159855116961770529:=0
def tw1973322915688156788:=0
def tw18291052063288871129:=0
def tw6691412760259851014:=0
def tw823865978524892294:=0
def tw7974106389397187540:=0
def tw17355860274906800373:=0
def tw7570168444716935047:=0
def tw15524209026209065830:=0
def tw13694461098689461019:=0
def tw13298198119252769399:=0
def tw17210190369229832309:=0
def tw6491390166258020887:=0
def tw9540990082984286545:=0
def tw12507652316399320758:=0
def tw1108041433691684265:=0
def tw1764091766908459277:=0
def tw16423930894466612492:=0
def tw11152608992851985758:=0
def tw12942490351202118604:=0
def tw12495510152186303658:=0
def tw16249922261859148038:=0
def tw8401540187407015558:=0
def tw9047564682423518936:=0
def tw17888149043459557181:=0
def tw3548010693809292828:=0
def tw4397651370115209267:=0
def tw15356612778608356047:=0
def tw1563502343474890536:=0
def tw678895860666774005:=0
def tw11906630191592570337:=0
def tw6371939871167091610:=0
def tw9608940983899004566:=0
def tw7663014668247941697:=0
def tw4618473873471993869:=0
def tw3383192420428664734:=0
def tw1239383288877611315:=0
def tw17066905019724418007:=0
def tw3296438920110122589:=0
def tw8711125345022838446:=0
def tw4105126995028592400:=0
def tw4621469354153975764:=0
def tw781215295211695317:=0
def tw7546337732204042507:=0
def tw14011632803571517472:=0
def tw17441605665157523824:=0
def tw8499200520778811635:=0
def tw17729529407653331984:=0
def tw7741126377901586042:=0
def tw17842354582199133801:=0
def tw16945552353701272015:=0
def tw9389383795438214094:=0
def tw10338327689352056693:=0
def tw11288218238060177681:=0
def tw17724559923195023596:=0
def tw6790325056777029507:=0
def tw2335816702524907565:=0
def tw1512309804536774894:=0
def tw14804911818516333890:=0
def tw1825256269957285058:=0
def tw2288233665757661996:=0
def tw17689546431460709501:=0
def tw2489574391278672330:=0
def tw9306302491799558091:=0
def tw15127557819654006459:=0
def tw14022852577747936099:=0
def tw5585489720174323623:=0
def tw10237450270661430083:=0
def tw2627821958187242261:=0
def tw7466618351279352880:=0
def tw5440470723639190009:=0
def tw5052485583655821841:=0
def tw18083815378048998162:=0
def tw12618810993696029775:=0
def tw1029386432420070843:=0
def tw17362939660748748401:=0
def tw5881513891217281959:=0
def tw18386195847677816016:=0
def tw13657413568385975111:=0
def tw12420975557799704311:=0
def tw623619102936709268:=0
def tw4688757435997178831:=0
def tw18403922453934931421:=0
def tw10565569528984891855:=0
def tw14144508845633336356:=0
def tw10391094991197040314:=0
def tw11150460037186067726:=0
def tw698055025934843065:=0
def tw11801553591982601723:=0
def tw13866012791053513392:=0
def tw18221907309913067376:=0
def tw1897324662780397396:=0
def tw15820667360149018850:=0
def tw18214790557859941332:=0
def tw5217604002988673922:=0
def tw2774356628377918041:=0
def tw12430910866845856484:=0
def tw13995783569968770512:=0
def tw8756889975257894302:=0
def tw2366073257451438020:=0
def tw11796595555721106633:=0
def tw13443281644345382690:=0
def tw7772906396158620574:=0
def tw15480660898093317706:=0
def tw8565697817650174958:=0
def tw10416765069811699257:=0
def tw3213466760607472737:=0
def tw13625992038037714581:=0
def tw10706243233581937101:=0
def tw1125071722107421677:=0
def tw9149097368399536076:=0
def tw11559833428042917934:=0
def tw13232364473053499034:=0
def tw10402558897316774893:=0
def tw1686274542493393813:=0
def tw11956379930664311431:=0
def tw16383983184651361462:=0
def tw614251820231501774:=0
def tw10240874994014894416:=0
def tw1498521140268663395:=0
def tw15440822636413173815:=0
def tw8679879616383202328:=0
def tw17340940480451370515:=0
def tw11194147266387056960:=0
def tw7657841084005171662:=0
def tw17769724551688764851:=0
def tw16188012212887451552:=0
def tw16536323444553506006:=0
def tw13994457738844659263:=0
def tw5045810143976415945:=0
def tw565671914736300388:=0
def tw3844986853517717456:=0
def tw8865327811060849670:=0
def tw2807491952073146920:=0
def tw9587146571374253630:=0
def tw12769085622468604621:=0
def tw9202649827854715032:=0
def tw167220991173169601:=0
def tw677335765753307819:=0
def tw9795844903019059301:=0
def tw5875270333240637006:=0
def tw483293192174365012:=0
end PySem.W.Fast

open PySem PySem.W PyProof.Rows
set_option maxRecDepth 100000 in
set_option maxHeartbeats 0 in
theorem PySem.Challenge.cw_nearsums_k55_whole_all_orders_tried_holds : PySem.Challenge.rw_nearsums_k55_whole_all_orders_tried.Holds := by
 w_on; o_law; k_head; (case hw => w_witness2)
 k_fill
 refine N55.walk (l := PySem.Challenge.rw_nearsums_k55_whole_all_orders_tried) rfl rfl (fun w h Y => PySem.W.kIn_of Y) ?F
 case F =>
  intro w mg fa h KX G hmg
  apply N55.all_mk KX G hmg
  iterate 16 (apply N55.dg_mk; k_is; apply N55.df1; (iterate 3 k_is); exact fun _ _ _ _ _ _ _=>rfl)
  iterate 36 (apply N55.dg_mk; k_is; apply N55.df2; (iterate 3 k_is); exact fun _ _ _ _ _ _ _ _=>rfl)
  iterate 8 (apply N55.dg_mk; k_is; apply N55.df3; (iterate 3 k_is); exact fun _ _ _ _ _ _ _ _ _=>rfl)
  apply N55.dg_mk; k_is; apply N55.df4; (iterate 3 k_is); exact fun _ _ _ _ _ _ _ _ _ _=>rfl
  iterate 4 (apply N55.cm_mk; (iterate 7 k_is))
  iterate 16 (apply N55.na_mk; k_is)
  iterate 4 (k_is)
  iterate 7 (apply N55.dm_mk; (iterate 2 k_is); apply N55.df1; (iterate 3 k_is); exact fun _ _ _ _ _ _ _=>rfl)
  iterate 8 (apply N55.dm_mk; (iterate 2 k_is); apply N55.df2; (iterate 3 k_is); exact fun _ _ _ _ _ _ _ _=>rfl)
  iterate 11 (apply N55.dm_mk; (iterate 2 k_is); apply N55.df3; (iterate 3 k_is); exact fun _ _ _ _ _ _ _ _ _=>rfl)
  iterate 4 (apply N55.dm_mk; (iterate 2 k_is); apply N55.df4; (iterate 3 k_is); exact fun _ _ _ _ _ _ _ _ _ _=>rfl)
  iterate 2 (k_is)
  apply N55.df3; (iterate 3 k_is); exact fun _ _ _ _ _ _ _ _ _=>rfl
  iterate 3 (apply N55.nv_mk; k_is)
  iterate 19 (apply N55.nv_mk; k_is)
