import PyProof.Rows.All
import Wide.All
import OpenK.AllK
import Wide.FinOn
import Lean
import PyProof.EqAt
import PyProof.EqKinds
import PyProof.TupleCall
import PyProof.StationsW
import PyProof.NsDelKeeps
import PyProof.PassesOwn
import PyProof.ZipIter
import PyProof.NeKinds
import PyProof.CompFree
import KE.KDictList
import PyProof.ConsumeWalk
import PyProof.WalkInts
import PyProof.WalksMore
import PyProof.SumAny
import PyProof.Rows.MinMaxN
import PyProof.Rows.SortWalk
import PyProof.ListRange
import KE.KTupSum
import PyProof.EnumFor
import PyProof.EnumMake
import PyProof.EnumStmt
import OpenK.KMake
import PyProof.DictWalks
import PyProof.FitsBits
import PyProof.CompUse
import KE.KSortTup
import PyProof.MinMaxWalk
import PyProof.SeqI3
import PyProof.DictItems
import KE.KItemsList
import KE.KEqDict
import KE.KDictSum
import PyProof.DictValues
import KE.KLam
import KE.KNestM
import PyProof.ExcClass3
import PySem.Challenge.RW_wornpages_k46_whole_who_with_whom
set_option Elab.async false
set_option linter.all false
set_option maxRecDepth 100000
set_option maxHeartbeats 0
noncomputable abbrev hG:=@decide_eq_true
noncomputable abbrev hU:=@List.getElem?_eq_getElem
noncomputable abbrev hV:=@List.mem_singleton
noncomputable abbrev hX:=@List.mem_cons_of_mem
noncomputable abbrev h9:=@List.length_map
noncomputable abbrev kB:=@PySem.wpAny_bind
noncomputable abbrev kC:=@PySem.Heap.get?_push_of_some
noncomputable abbrev kD:=@decide_eq_false
noncomputable abbrev kE:=@List.getElem?_eq_some_iff
noncomputable abbrev kF:=@if_neg
noncomputable abbrev kI:=@if_pos
noncomputable abbrev kJ:=@List.getD_eq_getElem?_getD
noncomputable abbrev kL:=@List.mem_cons
noncomputable abbrev kM:=@Nat.le_refl
noncomputable abbrev kN:=@List.mem_append_right
noncomputable abbrev kO:=@Bool.false_ne_true
noncomputable abbrev kP:=@List.length_append
noncomputable abbrev kQ:=@Option.some.inj
noncomputable abbrev kU:=@decide_eq_true_eq
noncomputable abbrev kW:=@List.mem_cons_self
noncomputable abbrev kX:=@PySem.Heap.lt_size
noncomputable abbrev kY:=@PySem.Heap.get?_update_other
noncomputable abbrev kZ:=@List.mem_map
noncomputable abbrev mB:=@PySem.wpAny_pure
noncomputable abbrev mC:=@List.size_toArray
noncomputable abbrev mD:=@List.getElem?_map
noncomputable abbrev mE:=@List.length_filter_le
noncomputable abbrev mF:=@Nat.le_trans
noncomputable abbrev mG:=@List.length_cons
noncomputable abbrev mH:=@Option.map_eq_some_iff
noncomputable abbrev mI:=@PySem.Heap.get?_push_size
noncomputable abbrev mJ:=@List.mem_filter
noncomputable abbrev mK:=@Int.toNat_natCast
noncomputable abbrev mL:=@Nat.ne_of_lt
noncomputable abbrev mM:=@List.mem_range
noncomputable abbrev mO:=@Nat.zero_le
noncomputable abbrev mP:=@List.length_singleton
noncomputable abbrev mQ:=@Array.length_toList
noncomputable abbrev mR:=@Bool.and_eq_true
noncomputable abbrev mU:=@List.map_cons
noncomputable abbrev mV:=@of_decide_eq_true
noncomputable abbrev mW:=@List.take_append_getElem
noncomputable abbrev mY:=@Nat.lt_of_lt_of_le
noncomputable abbrev mZ:=@List.length_range
noncomputable abbrev m7:=@List.map_append
noncomputable abbrev m8:=@List.mem_of_getElem?
noncomputable abbrev m9:=@List.nodup_cons
noncomputable abbrev gA:=@PySem.F.plain_min_loop
noncomputable abbrev gC:=@List.filter_cons
noncomputable abbrev gD:=@List.getElem_mem
noncomputable abbrev gE:=@List.take_length
noncomputable abbrev gF:=@List.length_replicate
noncomputable abbrev gG:=@List.length_set
noncomputable abbrev gH:=@PySem.boot_len
noncomputable abbrev gJ:=@Int.le_refl
noncomputable abbrev gK:=@PySem.wpAny_holding
noncomputable abbrev gL:=@List.length_take
noncomputable abbrev gM:=@PySem.sizeLine_eq
noncomputable abbrev gN:=@PySem.mem_of_lookup
noncomputable abbrev gO:=@List.mem_append
noncomputable abbrev gP:=@List.getElem?_append_right
noncomputable abbrev gQ:=@PySem.wpAny_truthy_bool
noncomputable abbrev gR:=@PySem.W.mg_of
noncomputable abbrev gT:=@List.drop_eq_getElem_cons
noncomputable abbrev gU:=@List.pairwise_cons
noncomputable abbrev gW:=@List.filter_append
noncomputable abbrev gX:=@PySem.W.kia_one
noncomputable abbrev gY:=@List.not_mem_nil
noncomputable abbrev gZ:=@Nat.add_mul
noncomputable abbrev g0:=@Nat.mul_le_mul_right
noncomputable abbrev g3:=@List.Pairwise.filter
noncomputable abbrev g4:=@PySem.PassesOwn.never
noncomputable abbrev g5:=@Int.natCast_ediv
noncomputable abbrev g7:=@List.exists_mem_of_ne_nil
noncomputable abbrev g8:=@Nat.lt_succ_of_lt
noncomputable abbrev g9:=@List.pairwise_map
noncomputable abbrev dA:=@List.append_nil
noncomputable abbrev dB:=@PySem.wpAny_mono
noncomputable abbrev dC:=@PySem.wpAny_Call_Name_kw
noncomputable abbrev dD:=@List.mem_append_left
noncomputable abbrev dE:=@Nat.le_succ
noncomputable abbrev dG:=@List.pairwise_lt_range
noncomputable abbrev dH:=@PySem.F.entry_min_loop
noncomputable abbrev dJ:=@PySem.wpAny_tryCatch
noncomputable abbrev dL:=@List.replicate_succ
noncomputable abbrev dM:=@List.getElem_of_mem
noncomputable abbrev dN:=@List.find?_cons
noncomputable abbrev dO:=@Int.natCast_mul
noncomputable abbrev dP:=@Nat.one_mul
noncomputable abbrev dQ:=@Decidable.byContradiction
noncomputable abbrev dR:=@congrArg
noncomputable abbrev dS:=@PySem.Heap.get?_update_self
noncomputable abbrev dU:=@Nat.lt_succ_self
noncomputable abbrev dW:=@List.lookup_cons
noncomputable abbrev dX:=@List.all_eq_true
noncomputable abbrev dY:=@of_decide_eq_false
noncomputable abbrev dZ:=@Nat.lt_irrefl
noncomputable abbrev d3:=@Nat.mul_comm
noncomputable abbrev d5:=@List.sum_cons
noncomputable abbrev d6:=@List.length_filterMap_le
noncomputable abbrev d7:=@PySem.Around.under_plainId
noncomputable abbrev d8:=@List.getElem?_replicate
noncomputable abbrev d9:=@Int.eq_ofNat_of_zero_le
noncomputable abbrev rA:=@Bool.not_eq_true'
noncomputable abbrev rB:=@decide_eq_false_iff_not
noncomputable abbrev rC:=@List.find?_some
noncomputable abbrev rD:=@beq_eq_false_iff_ne
noncomputable abbrev rE:=@List.filter_eq_self
noncomputable abbrev rF:=@PySem.BindsTo.of_defaults
noncomputable abbrev rG:=@Nat.ne_of_gt
noncomputable abbrev rH:=@List.ext_getElem
noncomputable abbrev rJ:=@List.find?_eq_none
noncomputable abbrev rK:=@PySem.W.methodCall_KW
noncomputable abbrev rL:=@List.getElem?_eq_none
noncomputable abbrev rM:=@PySem.Obj.isFreed_of_fields
noncomputable abbrev rN:=@List.getElem?_append_left
noncomputable abbrev rO:=@List.pairwise_iff_getElem
noncomputable abbrev rP:=@List.mem_of_find?_eq_some
noncomputable abbrev rQ:=@PySem.wpAny_passesOwn
noncomputable abbrev rR:=@List.nil_append
noncomputable abbrev rS:=@PySem.W.mg_none_of
noncomputable abbrev rT:=@beq_iff_eq
noncomputable abbrev rV:=@PySem.plainId_quiet
noncomputable abbrev rW:=@PySem.F.slot_list_append
noncomputable abbrev rX:=@PySem.F.type_list_append
noncomputable abbrev rZ:=@List.filterMap_cons
noncomputable abbrev r6:=@List.map_congr_left
noncomputable abbrev r9:=@List.length_pos_iff
noncomputable abbrev wA:=@PySem.F.plainAttrs_list
noncomputable abbrev wC:=@PySem.wpAny_letGo
noncomputable abbrev wD:=@Ne.symm
noncomputable abbrev wE:=@List.mem_filterMap
noncomputable abbrev wF:=@PySem.W.callWith_K
noncomputable abbrev wG:=@List.map_replicate
noncomputable abbrev wH:=@Bool.eq_iff_iff
noncomputable abbrev wI:=@List.length_nil
noncomputable abbrev wJ:=@Bool.or_eq_true
noncomputable abbrev wK:=@PyProof.Rows.get?_update_seq
noncomputable abbrev wL:=@List.countP_eq_length_filter
noncomputable abbrev wM:=@PySem.codeAny_builtin
noncomputable abbrev wN:=@PySem.wpAny_updateSeq
noncomputable abbrev wO:=@PyProof.Rows.listUpdate_at
noncomputable abbrev wP:=@PyProof.Rows.callWith_type1
noncomputable abbrev wQ:=@List.flatten_cons
noncomputable abbrev wR:=@List.nodup_append
noncomputable abbrev wS:=@PySem.PassesOwn.leaving
noncomputable abbrev wT:=@List.getElem?_set_ne
noncomputable abbrev wU:=@PySem.W.looks_findIn
noncomputable abbrev wV:=@PySem.wpAny_seqItems
noncomputable abbrev wW:=@Nat.add_le_add_right
noncomputable abbrev wX:=@Nat.succ_mul
noncomputable abbrev wY:=@List.any_eq_true
noncomputable abbrev wZ:=@List.filter_sublist
noncomputable abbrev cA:=@Option.isSome_iff_exists
noncomputable abbrev cB:=@List.any_cons
noncomputable abbrev cC:=@or_false
noncomputable abbrev cD:=@PySem.wpAny_newList
noncomputable abbrev cE:=@PySem.F.slot_dict_itemiterator_iter
noncomputable abbrev cF:=@PySem.wpAny_call
noncomputable abbrev cG:=@Nat.lt_of_le_of_lt
noncomputable abbrev cH:=@PySem.Obj.data_mapFields
noncomputable abbrev cI:=@Bool.false_eq_true
noncomputable abbrev cJ:=@List.mem_mergeSort
noncomputable abbrev cK:=@PySem.Heap.size_push
noncomputable abbrev cL:=@Nat.le_of_eq
noncomputable abbrev cM:=@PySem.codeAny_mono
noncomputable abbrev cN:=@PySem.W.cellsFrom_some
noncomputable abbrev cO:=@PySem.Calls.callWith_builtin
noncomputable abbrev cP:=@List.append_assoc
noncomputable abbrev cQ:=@Int.le_trans
noncomputable abbrev cR:=@Int.le_of_lt
noncomputable abbrev cS:=@List.length_pos_of_mem
noncomputable abbrev cT:=@List.countP_mono_left
noncomputable abbrev cU:=@List.Pairwise.sublist
noncomputable abbrev cV:=@PySem.W.any_some
noncomputable abbrev cW:=@Option.bind_some
noncomputable abbrev cX:=@List.countP_cons
noncomputable abbrev cY:=@Nat.div_eq_of_lt
noncomputable abbrev cZ:=@List.nodup_range
noncomputable abbrev c6:=@Nat.mod_eq_of_lt
noncomputable abbrev c7:=@List.Nodup.length_le_of_subset
noncomputable abbrev c8:=@Int.mul_le_mul_of_nonneg_right
noncomputable abbrev c9:=@List.cons_append
noncomputable abbrev pA:=@PySem.wpAny_standAt
noncomputable abbrev pC:=@PySem.Heap.get?_none_of_le
noncomputable abbrev pD:=@PySem.codeAny_call_builtin
noncomputable abbrev pE:=@PySem.wpAny_newFunctionEnv
noncomputable abbrev pF:=@List.eq_nil_of_length_eq_zero
noncomputable abbrev pG:=@PySem.wpAny_execs_nil
noncomputable abbrev pH:=@List.of_mem_zip
noncomputable abbrev pJ:=@Nat.mul_add_div
noncomputable abbrev pK:=@Nat.mul_add_mod
noncomputable abbrev pL:=@PySem.W.plainGet_of
noncomputable abbrev pM:=@PySem.W.callWith_K0
noncomputable abbrev pN:=@List.mem_map_of_mem
noncomputable abbrev pO:=@List.map_eq_nil_iff
noncomputable abbrev pP:=@Nat.le_of_lt
noncomputable abbrev pQ:=@Array.getD_eq_getD_getElem?
noncomputable abbrev pR:=@PySem.SeqAt.EqAt.int_int
noncomputable abbrev pT:=@PySem.tupleKind_room_in1
noncomputable abbrev pU:=@Int.mul_nonneg
noncomputable abbrev pV:=@List.getElem_range
noncomputable abbrev pW:=@Sum.inl.inj
noncomputable abbrev pX:=@bne_self_eq_false
noncomputable abbrev pZ:=@List.filter_congr
noncomputable abbrev p6:=@List.length_drop
noncomputable abbrev p7:=@beq_self_eq_true
noncomputable abbrev p8:=@Nat.le_add_right
noncomputable abbrev p9:=@Array.toList_inj
noncomputable abbrev sE:=@Array.toList_map
noncomputable abbrev sF:=@List.getElem_map
noncomputable abbrev sG:=@List.drop_length
noncomputable abbrev sI:=@List.map_map
noncomputable abbrev sJ:=@Nat.zero_add
noncomputable abbrev sK:=@Nat.not_lt_zero
noncomputable abbrev sL:=@Int.natCast_add
noncomputable abbrev sO:=@Int.le_antisymm
noncomputable abbrev sP:=@List.range_succ
noncomputable abbrev sQ:=@if_false
set_option genSizeOf false
namespace L2
open PySem PySem.Spec PyProof.Rows
noncomputable abbrev Key:=Sum Int Str
noncomputable def q6U:Key→Value→Bool
 | .inl k,v=>Value.isInt k v
 | .inr x,v=>Value.isStrOf x v
noncomputable def keyH(w:World):Key→Int
 | .inl k=>hashInt k
 | .inr x=>hashStr w x
theorem yA:∀{k:Key} {v:Value},q6U k v=true→(∃i t,k=Sum.inl i∧v=Value.int i t)∨(∃x t,k=Sum.inr x∧v=Value.str x t)
 | .inl i,v,h=>by
  obtain⟨t,e⟩:=Value.isInt_shape (k:=i) (v:=v) h
  exact .inl ⟨i,t,rfl,e⟩
 | .inr x,v,h=>by
  obtain⟨t,e⟩:=Value.isStrOf_shape (x:=x) (v:=v) h
  exact .inr ⟨x,t,rfl,e⟩
theorem qBZ(i:Int)(t:Tok):q6U (.inl i) (.int i t)=true:=by simp[q6U,Value.isInt]
theorem qC0(x:Str)(t:Tok):q6U (.inr x) (.str x t)=true:=by simp[q6U,Value.isStrOf]
theorem qHG(a b:Int):decide ((Sum.inl a:Key)=Sum.inl b)=(a==b):=by
 by_cases e:a=b
 ·subst e;simp
 ·have h:¬(Sum.inl a:Key)=Sum.inl b:=λq=>e (pW q)
  rw[kD h]
  exact(rD.mpr e).symm
theorem qHH(a b:Str):decide ((Sum.inr a:Key)=Sum.inr b)=decide (a=b):=by
 by_cases e:a=b
 ·subst e;simp
 ·have h:¬(Sum.inr a:Key)=Sum.inr b:=λq=>e (Sum.inr.inj q)
  rw[kD h,kD e]
theorem qHI(a:Int)(b:Str):decide ((Sum.inl a:Key)=Sum.inr b)=false:=kD (λq=>nomatch q)
theorem qHJ(a:Str)(b:Int):decide ((Sum.inr a:Key)=Sum.inl b)=false:=kD (λq=>nomatch q)
noncomputable def y7(prog:Program)(w:World):PySem.KeyKind prog w Key where
 is:=q6U
 hash:=keyH w
 inj:=λv a b ha hb=>by
  rcases yA ha with⟨i,t,rfl,rfl⟩|⟨x,t,rfl,rfl⟩
  ·rcases yA hb with⟨j,u,rfl,e⟩|⟨y,u,rfl,e⟩
   ·injection e with e1 _;rw[e1]
   ·exact nomatch e
  ·rcases yA hb with⟨j,u,rfl,e⟩|⟨y,u,rfl,e⟩
   ·exact nomatch e
   ·injection e with e1 _;rw[e1]
 byValue:=λk v h=>by
  rcases yA h with⟨i,t,rfl,rfl⟩|⟨x,t,rfl,rfl⟩<;>rfl
 pyHash:=λhv h=>by
  rcases yA hv with⟨i,t,rfl,rfl⟩|⟨x,t,rfl,rfl⟩
  ·exact wpAny_pyHash_int h
  ·exact wpAny_pyHash_str h
 eqBool:=λhu hv h=>by
  rcases yA hu with⟨i,t,rfl,rfl⟩|⟨x,t,rfl,rfl⟩
  ·rcases yA hv with⟨j,u,rfl,rfl⟩|⟨y,u,rfl,rfl⟩
   ·rw[qHG]at h;exact wpAny_eqBool_int h
   ·rw[qHI]at h;exact SeqAt.EqAt.int_str i t y u _ _ _ _ h
  ·rcases yA hv with⟨j,u,rfl,rfl⟩|⟨y,u,rfl,rfl⟩
   ·rw[qHJ]at h;exact SeqAt.EqAt.str_int x t j u _ _ _ _ h
   ·rw[qHH]at h;exact wpAny_eqBool_str h
 «strs»:=λk x t v h=>by
  rcases yA h with⟨i,u,rfl,e⟩|⟨y,u,rfl,e⟩
  ·exact nomatch e
  ·injection e with e1 _
   subst e1
   cases v<;>rfl
theorem q8O(prog:Program)(w:World)(i:Int)(t:Tok):(y7 prog w).is (.inl i) (.int i t)=true:=qBZ i t
theorem q8P(prog:Program)(w:World)(x:Str)(t:Tok):(y7 prog w).is (.inr x) (.str x t)=true:=qC0 x t
inductive V where
 |non|bl (b:Bool)|int (i:Int)|str (x:Str)|byt (b:Array UInt8)|flt (b:UInt64)|ref (a:Addr)|ty (n:String)
 deriving DecidableEq
noncomputable def RelV:V→Value→Prop
 | .non,u=>u=Value.none
 | .bl b,u=>u=Value.bool b
 | .int i,u=>∃t,u=Value.int i t
 | .str x,u=>∃t,u=Value.str x t
 | .byt b,u=>∃t,u=Value.bytes b t
 | .flt b,u=>∃t,u=Value.float b t
 | .ref a,u=>u=Value.ref a
 | .ty n,u=>u=Value.type n
noncomputable abbrev Vals:List V→List Value→Prop:=Paired RelV
theorem Vals.length{xs:List V}{us:List Value}(r:Vals xs us):xs.length=us.length:=Paired.length r
theorem Vals.get:∀{xs:List V} {us:List Value} {i:Nat} {x:V},Vals xs us→xs[i]?=some x→∃u,us[i]?=some u∧RelV x u
 |_,_,_,_,.nil,e=>by simp at e
 |_,_,0,_,.cons r _,e=>by simp at e;subst e;exact⟨_,rfl,r⟩
 |_,_,i+1,x,.cons _ t,e=>by
  obtain⟨u,h1,h2⟩:=Vals.get (i:=i) (x:=x) t (by simpa using e)
  exact⟨u,by simpa using h1,h2⟩
theorem Vals.set{x:V}{u:Value}(r:RelV x u):∀{xs:List V} {us:List Value} (i:Nat),Vals xs us→Vals (xs.set i x) (us.set i u)
 |_,_,_,.nil=>.nil
 |_,_,0,.cons _ t=>.cons r t
 |_,_,i+1,.cons q t=>.cons q (Vals.set r i t)
theorem Vals.append:∀{xs ys:List V} {us ws:List Value},Vals xs us→Vals ys ws→Vals (xs++ys) (us++ws)
 |_,_,_,_,.nil,s=>s
 |_,_,_,_,.cons r t,s=>.cons r (Vals.append t s)
theorem Vals.take:∀{xs:List V} {us:List Value} (n:Nat),Vals xs us→Vals (xs.take n) (us.take n)
 |_,_,0,_=>.nil
 |_,_,_ +1,.nil=>.nil
 |_,_,n+1,.cons r t=>.cons r (Vals.take n t)
theorem Vals.drop:∀{xs:List V} {us:List Value} (n:Nat),Vals xs us→Vals (xs.drop n) (us.drop n)
 |_,_,0,r=>r
 |_,_,_ +1,.nil=>.nil
 |_,_,n+1,.cons _ t=>Vals.drop n t
noncomputable def RelO:Option V→Option Value→Prop
 |some v,some u=>RelV v u
 |none,none=>True
 |_,_=>False
noncomputable def KV{κ:Type}:List (κ×V)→List (κ×Value)→Prop:=Paired λ(p:κ×V) (q:κ×Value)=>p.1=q.1∧RelV p.2 q.2
noncomputable def kV:Key→V
 | .inl i=>.int i
 | .inr x=>.str x
inductive HO where
 |lst (xs:List V)
 |tup (xs:List V)
 |dK (kvs:List (Key×V))|dT (kvs:List (List Key×V))
 |set (S:Int→Bool) (n:Nat)
 |ins (C dx:Addr) (fs:List (Str×V))
 |own (x:Addr)
 |xd (fs:List (Str×V))
 |met (f x:Addr)
 |rng (lo hi:Int)
 |frz (o:Obj) (u:HO)
 |tbl (ps:Array Value)
 |ext (φ:Heap→Prop)
noncomputable abbrev Hp:=Addr→Option HO
noncomputable def upd(H:Hp)(a:Addr)(o:HO):Hp:=λb=>if b=a then some o else H b
theorem qI{H:Hp}{a:Addr}{o:HO}:upd H a o a=some o:=by unfold upd;rw[kI rfl]
theorem qD{H:Hp}{a b:Addr}{o:HO}(h:b≠a):upd H a o b=H b:=by unfold upd;rw[kF h]
theorem q7I{H:Hp}{a:Addr}{o u:HO}:upd (upd H a o) a u=upd H a u:=by
 funext b;unfold upd;split<;>rfl
theorem jU{H:Hp}{a b:Addr}{o u:HO}(h:H a=some o)(h':H b=some u)(d:o≠u):a≠b:=by
 intro e;subst e;rw[h]at h';exact d (kQ h')
theorem qH{H:Hp}{a b:Addr}{o:HO}(h:H a=some o)(h':H b=none):a≠b:=by
 intro e;subst e;rw[h]at h';cases h'
section
variable(P:Program)(w:World)
noncomputable def jK(H:Hp)(h:Heap)(a:Addr):HO→Prop
 | .lst xs=>xs.length≤sizeLine∧∃(its:List Value) (n:Nat),Vals xs its∧h.get? a=some { cls:=.type "list",data:=.seq its.toArray n }
 | .tup xs=>xs.length≤sizeLine∧∃its:List Value,Vals xs its∧IsTup h a its.toArray
 | .dK kvs=>kvs.length≤sizeLine∧(a==sysModules)=false∧∃vs,KV kvs vs∧h.DictOf (y7 P w) a vs
 | .dT kvs=>kvs.length≤sizeLine∧(a==sysModules)=false∧∃xs:List (List Key×Addr×Value),
   Paired (λ(p:List Key×V) (q:List Key×Addr×Value)=>p.1=q.1∧H q.2.1=some (.tup (p.1.map kV))∧RelV p.2 q.2.2) kvs xs∧
   ∃o es ep,h.get? a=some o∧o.ExactDict∧o.data=.dict es ep∧es.toList=xs.map (entryOfKey (tupleKind (y7 P w)))∧(xs.map (·.1)).Nodup
 | .set S n=>h.SetOf (intKind P w) a S n
 | .ins C dx fs=>H dx=some (.own a)∧fs.length≤1000∧dx≠a∧h.get? a=some (PySem.W.instObj C dx)∧
   ∃mA,h.Ns1 dx mA∧(∀f,RelO (fs.lookup f) (mA f))∧PySem.Within mA (fs.map (·.1))
 | .own _=>∃o,h.get? a=some o
 | .xd fs=>∃mA,h.Ns1 a mA∧∀f,RelO (fs.lookup f) (mA f)
 | .rng lo hi=>∃t u v,h.get? a=some { cls:=.type "range",data:=.fields #[.int lo t,.int hi u,.int 1 v] }
 | .frz o u=>h.get? a=some o∧jK H h a u
 | .tbl ps=>h.get? a=some { cls:=.none,data:=.fields ps }
 | .met f x=>h.get? a=some (PySem.W.methodObj (.ref f) (.ref x))
 | .ext φ=>φ h∧(∃o,h.get? a=some o)∧∀h1 h2:Heap,φ h1→(∀o,h1.get? a=some o→h2.get? a=some o)→φ h2
noncomputable def HOk(H:Hp)(h:Heap):Prop:=∀a o,H a=some o→jK P w H h a o
end
section
variable{P:Program}{w:World}{H H':Hp}{h h':Heap}{a:Addr}{o:HO}
theorem jK.lt(x:jK P w H h a o):a<h.objs.size:=by
 cases o with
 |lst xs=>obtain⟨_,_,_,_,e⟩:=x;exact kX e
 |tup xs=>obtain⟨_,_,_,p⟩:=x;exact p.lt
 |dK kvs=>obtain⟨_,_,_,_,o,_,_,e,_⟩:=x;exact kX e
 |dT kvs=>obtain⟨_,_,_,_,o,_,_,e,_⟩:=x;exact kX e
 |set S n=>obtain⟨o,_,_,_,e,_⟩:=x;exact kX e
 |ins C dx fs=>obtain⟨_,_,_,e,_⟩:=x;exact kX e
 |own y=>obtain⟨_,e⟩:=x;exact kX e
 |xd fs=>obtain⟨_,⟨_,_,_,e,_⟩,_⟩:=x;exact kX e
 |rng lo hi=>obtain⟨_,_,_,e⟩:=x;exact kX e
 |frz ob u=>obtain⟨e,_⟩:=x;exact kX e
 |tbl ps=>exact kX (show h.get? a=some _ from x)
 |met f y=>exact kX (show h.get? a=some _ from x)
 |ext φ=>obtain⟨_,⟨_,e⟩,_⟩:=x;exact kX e
theorem Paired.mapP{α β:Type}{F G:α→β→Prop}:∀{l₁:List α} {l₂:List β},Paired F l₁ l₂→(∀a b,F a b→G a b)→Paired G l₁ l₂
 |_,_,.nil,_=>.nil
 |_,_,.cons r t,f=>.cons (f _ _ r) (Paired.mapP t f)
theorem jK.stay(x:jK P w H h a o)(k:∀b u,(b=a∨H b=some (.own a))→h.get? b=some u→h'.get? b=some u)
 (ho:∀b,H b=some (.own a)→H' b=some (.own a)) (ht:∀b xs,H b=some (.tup xs)→H' b=some (.tup xs)):jK P w H' h' a o:=by
 induction o with
 |lst xs=>obtain⟨z,its,n,r,e⟩:=x;exact⟨z,its,n,r,k _ _ (.inl rfl) e⟩
 |tup xs=>obtain⟨z,its,r,ob,e,c⟩:=x;exact⟨z,its,r,ob,k _ _ (.inl rfl) e,c⟩
 |dK kvs=>obtain⟨z,y,vs,r,ob,es,ep,e,c⟩:=x;exact⟨z,y,vs,r,ob,es,ep,k _ _ (.inl rfl) e,c⟩
 |dT kvs=>
  obtain⟨z,y,xs,r,ob,es,ep,e,c⟩:=x
  exact⟨z,y,xs,Paired.mapP r λp q z=>⟨z.1,ht _ _ z.2.1,z.2.2⟩,ob,es,ep,k _ _ (.inl rfl) e,c⟩
 |set S n=>obtain⟨ob,es,ep,t,e,c⟩:=x;exact⟨ob,es,ep,t,k _ _ (.inl rfl) e,c⟩
 |ins C dx fs=>
  obtain⟨d,z,ne,e,mA,⟨od,es,ep,e2,c⟩,r⟩:=x
  exact⟨ho _ d,z,ne,k _ _ (.inl rfl) e,mA,⟨od,es,ep,k _ _ (.inr d) e2,c⟩,r⟩
 |own y=>obtain⟨ob,e⟩:=x;exact⟨ob,k _ _ (.inl rfl) e⟩
 |xd fs=>obtain⟨mA,⟨od,es,ep,e,c⟩,r⟩:=x;exact⟨mA,⟨od,es,ep,k _ _ (.inl rfl) e,c⟩,r⟩
 |rng lo hi=>obtain⟨t,u,v,e⟩:=x;exact⟨t,u,v,k _ _ (.inl rfl) e⟩
 |frz ob u ih=>obtain⟨e,q⟩:=x;exact⟨k _ _ (.inl rfl) e,ih q⟩
 |tbl ps=>
  have e:h.get? a=some { cls:=.none,data:=.fields ps }:=x
  show h'.get? a=some { cls:=.none,data:=.fields ps }
  exact k a _ (.inl rfl) e
 |met f y=>
  have e:h.get? a=some (PySem.W.methodObj (.ref f) (.ref y)):=x
  show h'.get? a=some (PySem.W.methodObj (.ref f) (.ref y))
  exact k a _ (.inl rfl) e
 |ext φ=>obtain⟨p,⟨o,e⟩,st⟩:=x;exact⟨st _ _ p λo q=>k _ _ (.inl rfl) q,⟨o,k _ _ (.inl rfl) e⟩,st⟩
theorem HOk.lt(x:HOk P w H h)(e:H a=some o):a<h.objs.size:=(x a o e).lt
theorem HOk.fresh(x:HOk P w H h)(e:h.objs.size≤a):H a=none:=by
 cases q:H a with
 |none=>rfl
 |some u=>exact absurd (mY (x.lt q) e) (dZ _)
theorem HOk.kept(x:HOk P w H h)(k:∀b u,h.get? b=some u→h'.get? b=some u):HOk P w H h':=λa o e=>
 (x a o e).stay (λb u _ q=>k b u q) (λ_ q=>q) λ_ _ q=>q
theorem HOk.laid(x:HOk P w H h)(k:∀b u,h.get? b=some u→h'.get? b=some u)(hp:h.objs.size≤a)(new:jK P w (upd H a o) h' a o):HOk P w (upd H a o) h':=λb u e=>by
 have hn:=x.fresh hp
 by_cases hb:b=a
 ·subst hb;rw[qI]at e;cases e;exact new
 ·rw[qD hb]at e
  exact(x b u e).stay (λc v _ q=>k c v q) (λc q=>by rw[qD (qH q hn)];exact q) λc xs q=>by rw[qD (qH q hn)];exact q
end
noncomputable def Rd(H:Hp)(a:Addr)(u:HO):Prop:=H a=some u∨∃o,H a=some (.frz o u)
theorem Rd.ok{P:Program}{w:World}{H:Hp}{h:Heap}{a:Addr}{u:HO}(r:Rd H a u)(x:HOk P w H h):jK P w H h a u:=by
 rcases r with r|⟨o,r⟩
 ·exact x a u r
 ·obtain⟨_,q⟩:=x a _ r
  exact q
noncomputable def Mut:Option HO→Prop
 |some (.lst _)=>True
 |some (.dK _)=>True
 |some (.dT _)=>True
 |some (.set _ _)=>True
 |some (.ins _ _ _)=>True
 |some (.ext _)=>True
 |_=>False
section
variable{P:Program}{w:World}{H:Hp}{h h':Heap}{x e:Addr}{o':HO}
theorem HOk.write(ok:HOk P w H h)(mu:Mut (H x))(he:e=x∨H e=some (.own x))(k:∀b u,b≠e→h.get? b=some u→h'.get? b=some u)(heo:∃u,h'.get? e=some u)
 (new:jK P w (upd H x o') h' x o'):HOk P w (upd H x o') h':=λb u q=>by
 have nown:∀c y,H c=some (.own y)→c≠x:=λc y r z=>by subst z;rw[r]at mu;exact mu
 have ntup:∀c xs,H c=some (.tup xs)→c≠x:=λc xs r z=>by subst z;rw[r]at mu;exact mu
 by_cases hb:b=x
 ·subst hb;rw[qI]at q;cases q;exact new
 ·rw[qD hb]at q
  by_cases hbe:b=e
  ·have q':H b=some (.own x):=by
    rcases he with z|z
    ·exact absurd (hbe.trans z) hb
    ·rw[hbe];exact z
   rw[q]at q';cases q'
   obtain⟨v,hv⟩:=heo
   exact⟨v,by rw[hbe];exact hv⟩
  ·refine(ok b u q).stay (λc v hc r=>k c v ?_ r) (λc r=>by rw[qD (nown c b r)];exact r) λc xs r=>by rw[qD (ntup c xs r)];exact r
   rcases hc with rfl|hc
   ·exact hbe
   ·rintro rfl
    rcases he with z|z
    ·exact nown c b hc z
    ·rw[hc]at z;cases z;exact hb rfl
end
structure Un(fs ex:List Addr)(H H':Hp)(h h':Heap):Prop where
 keep:∀b o,h.get? b=some o→H b=none→b∉fs→b∉ex→h'.get? b=some o
 slot:∀b o,h.get? b=some o→H b=none→b∈fs→b∉ex→∃sl,h'.get? b=some { o with slots:=sl }
 free:∀b o,h.get? b=some o→H b=none→b∉ex→H' b=none
 there:∀b o,h.get? b=some o→b∉ex→∃o',h'.get? b=some o'
 tups:∀b xs,H b=some (.tup xs)→H' b=some (.tup xs)
 frzs:∀b o u,H b=some (.frz o u)→H' b=some (.frz o u)
 tbls:∀b ps,H b=some (.tbl ps)→∃more,H' b=some (.tbl (ps++more))
section
variable{fs fs' ex ex':List Addr}{H H1 H2:Hp}{h h1 h2 h':Heap}{a x e:Addr}{o:HO}
theorem Un.any(u:Un fs ex H H1 h h1){b:Addr}{ob:Obj}(q:h.get? b=some ob)(n:H b=none)(hx:b∉ex):∃sl,h1.get? b=some { ob with slots:=sl }:=by
 by_cases hb:b∈fs
 ·exact u.slot b ob q n hb hx
 ·exact⟨ob.slots,u.keep b ob q n hb hx⟩
theorem Un.trans(a:Un fs ex H H1 h h1)(b:Un fs ex H1 H2 h1 h2):Un fs ex H H2 h h2 where
 keep:=λc ob q n hc hx=>b.keep c ob (a.keep c ob q n hc hx) (a.free c ob q n hx) hc hx
 slot:=λc ob q n hc hx=>by
  obtain⟨sl,e1⟩:=a.slot c ob q n hc hx
  obtain⟨sl',e2⟩:=b.slot c _ e1 (a.free c ob q n hx) hc hx
  exact⟨sl',e2⟩
 free:=λc ob q n hx=>by
  obtain⟨o',e1⟩:=a.there c ob q hx
  exact b.free c o' e1 (a.free c ob q n hx) hx
 there:=λc ob q hx=>by
  obtain⟨o',e1⟩:=a.there c ob q hx
  exact b.there c o' e1 hx
 tups:=λc xs q=>b.tups c xs (a.tups c xs q)
 frzs:=λc ob xs q=>b.frzs c ob xs (a.frzs c ob xs q)
 tbls:=λc ps q=>by
  obtain⟨m1,e1⟩:=a.tbls c ps q
  obtain⟨m2,e2⟩:=b.tbls c _ e1
  exact⟨m1++m2,by rw[e2,Array.append_assoc]⟩
theorem Un.kept(k:∀b u,h.get? b=some u→h'.get? b=some u):Un fs ex H H h h':=
 ⟨λb ob q _ _ _=>k b ob q,λb ob q _ _ _=>⟨ob.slots,k b ob q⟩,λ_ _ _ n _=>n,λb ob q _=>⟨ob,k b ob q⟩,λ_ _ q=>q,λ_ _ _ q=>q,λ_ ps q=>⟨#[],by rw[q];simp⟩⟩
theorem Un.refl:Un fs ex H H h h:=Un.kept λ_ _ q=>q
theorem Un.laid(k:∀b u,h.get? b=some u→h'.get? b=some u)(hp:h.objs.size≤a)(hn:H a=none):Un fs ex H (upd H a o) h h' where
 keep:=λb u q _ _ _=>k b u q
 slot:=λb u q _ _ _=>⟨u.slots,k b u q⟩
 free:=λb u q n _=>by rw[qD (mL (mY (kX q) hp))];exact n
 there:=λb u q _=>⟨u,k b u q⟩
 tups:=λb xs q=>by rw[qD (qH q hn)];exact q
 frzs:=λb u xs q=>by rw[qD (qH q hn)];exact q
 tbls:=λb ps q=>⟨#[],by rw[qD (qH q hn),q];simp⟩
theorem Un.write(mu:Mut (H x))(he:e=x∨H e=some (.own x))(k:∀b u,b≠e→h.get? b=some u→h'.get? b=some u)(heo:∃u,h'.get? e=some u):Un fs ex H (upd H x o) h h':=by
 have hx:∀b,H b=none→b≠x:=λb n z=>by subst z;rw[n]at mu;exact mu
 have hb:∀b,H b=none→b≠e:=λb n z=>by
  subst z
  rcases he with r|r
  ·exact hx b n r
  ·rw[n]at r;cases r
 have hm:∀b u,H b=some u→¬Mut (some u)→b≠x:=λb u q nm z=>by subst z;rw[q]at mu;exact nm mu
 refine⟨λb u q n _ _=>k b u (hb b n) q,λb u q n _ _=>⟨u.slots,k b u (hb b n) q⟩,λb u q n _=>by rw[qD (hx b n)];exact n,λb u q _=>?_,
  λb xs q=>by rw[qD (hm b _ q λz=>z)];exact q,λb u xs q=>by rw[qD (hm b _ q λz=>z)];exact q,λb ps q=>⟨#[],by rw[qD (hm b _ q λz=>z),q];simp⟩⟩
 by_cases hbe:b=e
 ·subst hbe;exact heo
 ·exact⟨u,k b u hbe q⟩
end
noncomputable def trk(h:Heap)(H:Hp):List Addr:=(List.range h.objs.size).filter λa=>(H a).isSome
noncomputable def hidT(h:Heap)(H:Hp):Heap:=PySem.W.hideAll h (trk h H)
theorem q6V(h:Heap)(H:Hp):(hidT h H).objs.size=h.objs.size:=PySem.W.hideAll_size _ _
theorem q5A{h:Heap}{H:Hp}{b:Addr}{o:Obj}(e:h.get? b=some o)(n:H b=none):(hidT h H).get? b=some o:=
 PySem.W.hideAll_get _ e λhm=>by
  have q:(H b).isSome=true:=(mJ.mp hm).2
  rw[n]at q;simp at q
theorem qAT{h:Heap}{H:Hp}{b:Addr}{o:Obj}(e:(hidT h H).get? b=some o):h.get? b=some o∧H b=none:=by
 have e':h.get? b=some o:=PySem.W.of_hideAll (trk h H) e
 refine⟨e',?_⟩
 cases q:H b with
 |none=>rfl
 |some x=>
  have hm:b∈trk h H:=mJ.mpr ⟨mM.mpr (kX e'),by simp[q]⟩
  have z:(hidT h H).get? b=none:=PySem.W.hideAll_none (trk h H) hm
  rw[z]at e;cases e
structure Mod(K:PySem.W.Frag)(mg:Str→Option Value)(base:Heap):Prop where
 kin:K.In base
 glob:base.Ns mainGlobals mg
 blt:∃mb,base.Ns builtinsNs mb∧∀x:Str,x≠"__name__"→mb x=bootBuiltins x
 nolimit:base.NoLimit
structure Cx where
 prog:Program
 w:World
 K:PySem.W.Frag
 mg:Str→Option Value
 base:Heap
 A:Around
 N:List Str
 s₀:Shared
 H₀:Hp
 env:Env
 outer:List Env
 stack:List Env
 ex:List Addr
 fn:Str→Bool
 calm:Bool
 pn:List (Addr×Obj)
 xe:Value→Shared→Prop
noncomputable def frs(l:List Env):List Addr:=l.filterMap (·.frame)
noncomputable abbrev Cx.fs(X:Cx):List Addr:=frs X.outer
noncomputable def Vis(sc:Scope)(x:Str):Prop:=sc.names.lookup x=some .local∨sc.names.lookup x=some .cell∨sc.names.lookup x=some .free
noncomputable def Loc(sc:Scope)(x:Str):Prop:=sc.names.lookup x=some .local∨sc.names.lookup x=some .cell
noncomputable def Look(env:Env)(h:Heap)(m:Str→Option Value)(x:Str)(u:Value):Prop:=
 (env.kindOf x=some .local∧m x=some u)∨((env.kindOf x=some .cell∨env.kindOf x=some .free)∧∃c,env.cells.lookup x=some c∧h.IsCell c (some u))
structure Cx.Ok(X:Cx):Prop where
 mod:Mod X.K X.mg X.base
 kind:X.env.scope.kind=.function
 glob:X.env.globals=mainGlobals
 blt:X.env.builtins=builtinsNs
 above:X.s₀.heap.objs.size≤X.env.locals
 inj:∀x y c,X.env.cells.lookup x=some c→X.env.cells.lookup y=some c→x=y
 has:∀x,(X.env.kindOf x=some .cell∨X.env.kindOf x=some .free)→∃c,X.env.cells.lookup x=some c
 cab:∀x c,X.fn x=true→X.env.cells.lookup x=some c→X.s₀.heap.objs.size≤c
 hd:X.calm=true→X.A.handled=none
 frames:X.A.frames=some X.stack
 stk:X.stack=X.outer∨(X.stack=X.env::X.outer∧X.env.frame=some X.env.locals)
 exf:∀b∈X.ex,b≠X.env.locals∧∀x c,X.env.cells.lookup x=some c→c≠b
 bs:∀b o,X.base.get? b=some o→X.s₀.heap.get? b=some o∧X.H₀ b=none
 bsz:X.base.objs.size≤X.s₀.heap.objs.size
 noex:∀b o,X.base.get? b=some o→b∉X.ex
 exfs:∀b∈X.ex,b∉X.fs
 funs:X.s₀.heap.FunFrames X.base X.outer
 frf:∀b∈X.fs,X.H₀ b=none
structure Inv(X:Cx)(pins:List (Addr×Obj))(σ:List (Option V))(H:Hp)(s:Shared):Prop where
 ok:X.Ok
 os:s.os=X.s₀.os
 bare:AllBare s.gens
 base:Un X.fs X.ex X.H₀ H X.s₀.heap s.heap
 loc:∃m,s.heap.Ns X.env.locals m∧∀(i:Nat) (x:Str) (v:V),X.N[i]?=some x→σ[i]?=some (some v)→Vis X.env.scope x→∃u,RelV v u∧Look X.env s.heap m x u
 cell:∀x c,X.env.cells.lookup x=some c→∃v,s.heap.IsCell c v
 free:H X.env.locals=none
 freeC:∀x c,X.env.cells.lookup x=some c→H c=none
 pin:∀p∈X.pn++pins,s.heap.get? p.1=some p.2∧H p.1=none∧p.1≠X.env.locals∧p.1∉X.fs∧∀v,p.2.data≠ .cell v
 hok:HOk X.prog X.w H s.heap
 len:σ.length=X.N.length
section
variable{X:Cx}{pins:List (Addr×Obj)}{σ:List (Option V)}{H H':Hp}{s:Shared}{h':Heap}
theorem Cx.Ok.nofr(ok:X.Ok){b:Addr}{o:Obj}(e:X.base.get? b=some o):b∉X.fs:=λhb=>by
 have:=(ok.funs.mem hb).1
 rw[e]at this;cases this
theorem Inv.bs(I:Inv X pins σ H s):∀b o,X.base.get? b=some o→s.heap.get? b=some o∧H b=none:=λb o e=>
 ⟨I.base.keep b o (I.ok.bs b o e).1 (I.ok.bs b o e).2 (I.ok.nofr e) (I.ok.noex b o e),I.base.free b o (I.ok.bs b o e).1 (I.ok.bs b o e).2 (I.ok.noex b o e)⟩
theorem Inv.bk(I:Inv X pins σ H s):∀b o,X.base.get? b=some o→s.heap.get? b=some o:=λb o e=>(I.bs b o e).1
theorem Inv.mod(I:Inv X pins σ H s):Mod X.K X.mg X.base:=I.ok.mod
theorem Inv.kIn(I:Inv X pins σ H s):X.K.In s.heap:=I.ok.mod.kin.keeps I.bk
theorem Inv.fr(I:Inv X pins σ H s):∃m,Fr X.base X.env.locals s.heap m:=
 let⟨m,hn,_⟩:=I.loc
 ⟨m,hn,I.bk,mF I.ok.bsz I.ok.above⟩
theorem Inv.lt(I:Inv X pins σ H s):X.env.locals<s.heap.objs.size:=let⟨_,hn,_⟩:=I.loc;hn.lt
theorem Inv.sz(I:Inv X pins σ H s):X.s₀.heap.objs.size≤s.heap.objs.size:=mF I.ok.above (pP I.lt)
theorem Inv.nofs(I:Inv X pins σ H s){a:Addr}(h:s.heap.objs.size≤a):a∉X.fs:=λhb=>by
 obtain⟨_,o,ho,_⟩:=I.ok.funs.mem hb
 exact absurd (mY (kX ho) (mF I.sz h)) (dZ _)
theorem Inv.cne(I:Inv X pins σ H s):∀x c,X.env.cells.lookup x=some c→c≠X.env.locals:=λx c e z=>by
 obtain⟨v,o,ho,hd⟩:=I.cell x c e
 obtain⟨m,⟨o',es,ep,ho',hd',_⟩,_⟩:=I.loc
 rw[z,ho']at ho;cases ho;rw[hd']at hd;cases hd
theorem Inv.funs(I:Inv X pins σ H s):s.heap.FunFrames X.base X.outer:=by
 have all:∀(l:List Env),(∀b∈frs l,b∈X.fs)→X.s₀.heap.FunFrames X.base l→s.heap.FunFrames X.base l:=by
  intro l
  induction l with
  |nil=>intro _ _;trivial
  |cons env r ih=>
   intro hs hl
   obtain⟨hk,⟨L,o,hf,hn,ho,hd⟩,hr⟩:=hl
   have hL:L∈X.fs:=hs L (by unfold frs;rw[rZ,hf];exact kW)
   obtain⟨sl,e⟩:=I.base.slot L o ho (I.ok.frf L hL) hL λz=>I.ok.exfs L z hL
   exact⟨hk,⟨L,_,hf,hn,e,hd⟩,ih (λb hb=>hs b (by unfold frs;rw[rZ,hf];exact hX _ hb)) hr⟩
 exact all X.outer (λ_ hb=>hb) I.ok.funs
theorem Inv.stack(I:Inv X pins σ H s):s.heap.FunFrames X.base X.stack:=by
 rcases I.ok.stk with e|⟨e,hf⟩
 ·rw[e];exact I.funs
 ·rw[e]
  obtain⟨m,hn,_⟩:=I.loc
  refine .cons (by rw[I.ok.kind];decide) hf hn ?_ I.funs
  exact pC (mF I.ok.bsz I.ok.above)
theorem Inv.stkSub(I:Inv X pins σ H s):∀b∈frs X.stack,b∈X.env.locals::X.fs:=λb hb=>by
 rcases I.ok.stk with e|⟨e,hf⟩
 ·rw[e]at hb;exact hX _ hb
 ·rw[e]at hb
  unfold frs at hb
  rw[rZ,hf]at hb
  exact hb
theorem Inv.stkFree(I:Inv X pins σ H s):∀b∈frs X.stack,H b=none:=λb hb=>by
 rcases kL.mp (I.stkSub b hb)with e|hb
 ·rw[e];exact I.free
 ·obtain⟨_,o,ho,_⟩:=I.ok.funs.mem hb
  exact I.base.free b o ho (I.ok.frf b hb) λz=>I.ok.exfs b z hb
theorem Inv.step{g':Array GenState}{t':Nat}{d':Drawn}{ch:List Addr}(I:Inv X pins σ H s)
 (hch:∀b∈ch,(b∈X.ex∨X.s₀.heap.objs.size≤b)∧b≠X.env.locals∧(∀x c,X.env.cells.lookup x=some c→c≠b)∧∀p∈X.pn++pins,p.1≠b)
 (keep:∀b o,b≠X.env.locals→b∉X.fs→b∉ch→s.heap.get? b=some o→H b=none→h'.get? b=some o)
 (slot:∀b o,b≠X.env.locals→b∈X.fs→b∉ch→s.heap.get? b=some o→H b=none→∃sl,h'.get? b=some { o with slots:=sl }) (free:∀b o,b∉ch→s.heap.get? b=some o→H b=none→H' b=none)
 (there:∀b o,b∉ch→s.heap.get? b=some o→∃o',h'.get? b=some o')
 (tups:∀b xs,H b=some (.tup xs)→H' b=some (.tup xs)) (frzs:∀b o u,H b=some (.frz o u)→H' b=some (.frz o u)) (tbls:∀b ps,H b=some (.tbl ps)→∃more,H' b=some (.tbl (ps++more)))
 (ns:∀m,s.heap.Ns X.env.locals m→h'.Ns X.env.locals m) (hok:HOk X.prog X.w H' h') (hg:AllBare g'):
 Inv X pins σ H' { s with heap:=h',gens:=g',drawn:=d',toks:=t' }:=by
 have neL:∀b o,X.s₀.heap.get? b=some o→b≠X.env.locals:=λb o e=>mL (mY (kX e) I.ok.above)
 have neC:∀b o,X.s₀.heap.get? b=some o→b∉X.ex→b∉ch:=λb o e hx hb=>by
  rcases(hch b hb).1 with z|z
  ·exact hx z
  ·exact absurd (mY (kX e) z) (dZ _)
 have cellK:∀x c,X.env.cells.lookup x=some c→∀v,s.heap.IsCell c v→h'.IsCell c v:=λx c e v ⟨o,ho,hd⟩=>by
  have nch:c∉ch:=λz=>(hch c z).2.2.1 x c e rfl
  by_cases hc:c∈X.fs
  ·obtain⟨sl,q⟩:=slot c o (I.cne x c e) hc nch ho (I.freeC x c e)
   exact⟨_,q,hd⟩
  ·exact⟨o,keep c o (I.cne x c e) hc nch ho (I.freeC x c e),hd⟩
 refine⟨I.ok,I.os,hg,⟨λb o e n hb hx=>?_,λb o e n hb hx=>?_,λb o e n hx=>?_,λb o e hx=>?_,λb xs e=>tups b xs (I.base.tups b xs e),λb o xs e=>frzs b o xs (I.base.frzs b o xs e),λb ps e=>?_⟩,?_,λx c e=>?_,?_,λx c e=>?_,λp hp=>?_,hok,I.len⟩
 ·exact keep b o (neL b o e) hb (neC b o e hx) (I.base.keep b o e n hb hx) (I.base.free b o e n hx)
 ·obtain⟨sl,e1⟩:=I.base.slot b o e n hb hx
  obtain⟨sl',e2⟩:=slot b _ (neL b o e) hb (neC b o e hx) e1 (I.base.free b o e n hx)
  exact⟨sl',e2⟩
 ·obtain⟨o',e1⟩:=I.base.there b o e hx
  exact free b o' (neC b o e hx) e1 (I.base.free b o e n hx)
 ·obtain⟨o',e1⟩:=I.base.there b o e hx
  exact there b o' (neC b o e hx) e1
 ·obtain⟨m1,e1⟩:=I.base.tbls b ps e
  obtain⟨m2,e2⟩:=tbls b _ e1
  exact⟨m1++m2,by rw[e2,Array.append_assoc]⟩
 ·obtain⟨m,hn,hl⟩:=I.loc
  refine⟨m,ns m hn,λi x v e1 e2 e3=>?_⟩
  obtain⟨u,r,l⟩:=hl i x v e1 e2 e3
  refine⟨u,r,?_⟩
  rcases l with l|⟨k,c,e,z⟩
  ·exact .inl l
  ·exact .inr ⟨k,c,e,cellK x c e _ z⟩
 ·obtain⟨v,z⟩:=I.cell x c e
  exact⟨v,cellK x c e v z⟩
 ·obtain⟨m,⟨o,_,_,ho,_⟩,_⟩:=I.loc
  exact free _ o (λz=>(hch _ z).2.1 rfl) ho I.free
 ·obtain⟨v,o,ho,hd⟩:=I.cell x c e
  exact free c o (λz=>(hch c z).2.2.1 x c e rfl) ho (I.freeC x c e)
 ·obtain⟨e,n,ne,nf,d⟩:=I.pin p hp
  have nch:p.1∉ch:=λz=>(hch p.1 z).2.2.2 p hp rfl
  exact⟨keep p.1 p.2 ne nf nch e n,free p.1 p.2 nch e n,ne,nf,d⟩
theorem Inv.un{t':Nat}(I:Inv X pins σ H s)(u:Un X.fs [] H H' s.heap h')(hok:HOk X.prog X.w H' h'):Inv X pins σ H' { s with heap:=h',toks:=t' }:=by
 obtain⟨m,⟨o,es,ep,ho,r⟩,_⟩:=id I.loc
 obtain⟨sl,hL⟩:=u.any ho I.free (by simp)
 exact I.step (g':=s.gens) (d':=s.drawn) (ch:=[]) (λ_ z=>nomatch z) (λb o _ hb _ e n=>u.keep b o e n hb (by simp)) (λb o _ hb _ e n=>u.slot b o e n hb (by simp)) (λb o _ e n=>u.free b o e n (by simp)) (λb o _ e=>u.there b o e (by simp)) u.tups u.frzs u.tbls (λm' hm=>by
  obtain⟨o',es',ep',ho',r'⟩:=hm
  rw[ho]at ho';cases ho'
  exact⟨_,es',ep',hL,r'⟩) hok I.bare
theorem Inv.call{g':Array GenState}{t':Nat}{d':Drawn}{ch:List Addr}(I:Inv X pins σ H s)(u:Un (frs X.stack) ch H H' s.heap h')(hok:HOk X.prog X.w H' h')(hg:AllBare g')
 (hch:∀b∈ch,(b∈X.ex∨X.s₀.heap.objs.size≤b)∧b≠X.env.locals∧(∀x c,X.env.cells.lookup x=some c→c≠b)∧∀p∈X.pn++pins,p.1≠b):
 Inv X pins σ H' { s with heap:=h',gens:=g',drawn:=d',toks:=t' }:=by
 obtain⟨m,⟨o,es,ep,ho,r⟩,_⟩:=id I.loc
 obtain⟨sl,hL⟩:=u.any ho I.free λz=>(hch _ z).2.1 rfl
 exact I.step (ch:=ch) hch (λb o hL hb hc e n=>u.keep b o e n (λz=>(kL.mp (I.stkSub b z)).elim hL hb) hc) (λb o _ _ hc e n=>u.any e n hc) (λb o hc e n=>u.free b o e n hc) (λb o hc e=>u.there b o e hc) u.tups u.frzs u.tbls (λm' hm=>by
  obtain⟨o',es',ep',ho',r'⟩:=hm
  rw[ho]at ho';cases ho'
  exact⟨_,es',ep',hL,r'⟩) hok hg
theorem Inv.turned{t':Nat}{it:Addr}(I:Inv X pins σ H s)(k:∀b o,b≠it→s.heap.get? b=some o→h'.get? b=some o)(hn:H it=none)(hL:it≠X.env.locals)
 (h1:it∈X.ex∨X.s₀.heap.objs.size≤it) (h2:∀x c,X.env.cells.lookup x=some c→c≠it) (h3:∀p∈X.pn++pins,p.1≠it):Inv X pins σ H { s with heap:=h',toks:=t' }:=by
 have nit:∀b u,H b=some u→b≠it:=λb u e z=>by rw[z,hn]at e;cases e
 refine I.step (g':=s.gens) (d':=s.drawn) (ch:=[it]) (λb hb=>?_) (λb o _ _ hc e _=>k b o (λz=>hc (by simp[z])) e) (λb o _ _ hc e _=>⟨o.slots,k b o (λz=>hc (by simp[z])) e⟩) (λ_ _ _ _ n=>n)
  (λb o hc e=>⟨o,k b o (λz=>hc (by simp[z])) e⟩) (λ_ _ e=>e) (λ_ _ _ e=>e) (λb ps e=>⟨#[],by rw[e];simp⟩) (λm hm=>?_) (λb u e=>?_) I.bare
 ·have e:b=it:=by simpa using hb
  subst e
  exact⟨h1,hL,h2,h3⟩
 ·obtain⟨o,es,ep,ho,r⟩:=hm
  exact⟨o,es,ep,k _ o (wD hL) ho,r⟩
 ·refine(I.hok b u e).stay (λc v hc q=>k c v ?_ q) (λ_ q=>q) λ_ _ q=>q
  rcases hc with z|z
  ·rw[z];exact nit b u e
  ·exact nit c _ z
theorem Inv.tok(I:Inv X pins σ H s)(t:Nat):Inv X pins σ H { s with toks:=t }:=I.un (h':=s.heap) (t':=t) Un.refl I.hok
theorem Inv.kept{t':Nat}(I:Inv X pins σ H s)(k:∀b u,s.heap.get? b=some u→h'.get? b=some u):Inv X pins σ H { s with heap:=h',toks:=t' }:=I.un (Un.kept k) (I.hok.kept k)
theorem Inv.laid{a:Addr}{o:HO}{t':Nat}(I:Inv X pins σ H s)(k:∀b u,s.heap.get? b=some u→h'.get? b=some u)(hp:s.heap.objs.size≤a)(new:jK X.prog X.w (upd H a o) h' a o):
 Inv X pins σ (upd H a o) { s with heap:=h',toks:=t' }:=I.un (Un.laid k hp (I.hok.fresh hp)) (I.hok.laid k hp new)
theorem Inv.write{x e:Addr}{o:HO}{t':Nat}(I:Inv X pins σ H s)(mu:Mut (H x))(he:e=x∨H e=some (.own x))(k:∀b u,b≠e→s.heap.get? b=some u→h'.get? b=some u)(heo:∃u,h'.get? e=some u)
 (new:jK X.prog X.w (upd H x o) h' x o):Inv X pins σ (upd H x o) { s with heap:=h',toks:=t' }:=I.un (Un.write mu he k heo) (I.hok.write mu he k heo new)
theorem Inv.weak{σ':List (Option V)}(I:Inv X pins σ H s)(hl:σ'.length=σ.length)(w:∀(i:Nat) v,σ'[i]?=some (some v)→σ[i]?=some (some v)):Inv X pins σ' H s:=
 ⟨I.ok,I.os,I.bare,I.base,let⟨m,hn,hl'⟩:=I.loc;⟨m,hn,λi x v e1 e2 e3=>hl' i x v e1 (w i v e2) e3⟩,I.cell,I.free,I.freeC,I.pin,I.hok,hl.trans I.len⟩
theorem Inv.pins_of{pins':List (Addr×Obj)}(I:Inv X pins σ H s)(h:∀p∈pins',s.heap.get? p.1=some p.2∧H p.1=none∧p.1≠X.env.locals∧p.1∉X.fs∧∀v,p.2.data≠ .cell v):Inv X pins' σ H s:=
 ⟨I.ok,I.os,I.bare,I.base,I.loc,I.cell,I.free,I.freeC,λp hp=>(gO.mp hp).elim (λz=>I.pin p (dD _ z)) (h p),I.hok,I.len⟩
theorem q8Q{N:List Str}(hN:N.Nodup){i j:Nat}{x:Str}(a:N[i]?=some x)(b:N[j]?=some x):i=j:=by
 obtain⟨h1,e1⟩:=kE.mp a
 obtain⟨h2,e2⟩:=kE.mp b
 exact(List.getElem_inj hN).mp (e1.trans e2.symm)
theorem q6W{M:Model}{A:Around}{E:Value→Shared→Prop}{i:Nat}{x:Str}{v:V}{u:Value}{Q:Unit→Shared→Prop}(I:Inv X pins σ H s)(hN:X.N.Nodup)(hi:X.N[i]?=some x)(hx:Loc X.env.scope x)(r:RelV v u)
 (h:∀s',Inv X pins (σ.set i (some v)) H s'→(∃a,Heap.SameBut a s.heap s'.heap∧(a=X.env.locals∨X.env.cells.lookup x=some a))→Q () s') (hf:X.fn x=true∨X.env.scope.names.lookup x=some .local:=by first|exact .inl rfl|exact .inr rfl|assumption):wpAny M A (storeName X.env x u) Q E s:=by
 obtain⟨m,hn,hl⟩:=id I.loc
 have hcls:(X.env.scope.kind== .class||(X.env.scope.kind== .module&&X.env.locals !=X.env.globals))=false:=by rw[I.ok.kind];rfl
 have hiσ:i<σ.length:=by rw[I.len];exact(kE.mp hi).1
 have cne:=I.cne
 have tracked:∀{a:Addr} {h':Heap},(∃o,s.heap.get? a=some o∧H a=none)→Heap.SameBut a s.heap h'→HOk X.prog X.w H h':=fun {a h'} ha hs b ob e=>by
  obtain⟨_,_,hfree⟩:=ha
  refine(I.hok b ob e).stay (λc w' hc q=>(hs.2 c ?_).trans q) (λ_ q=>q) λ_ _ q=>q
  rintro rfl
  rcases hc with rfl|hc
  ·rw[hfree]at e;cases e
  ·rw[hfree]at hc;cases hc
 rcases hx with hk|hk
 ·refine wpAny_storeName_local hk hn (λh' hn' hs=>?_) hcls
  obtain⟨oL,_,_,hoL,_⟩:=id hn
  refine h _ ⟨I.ok,I.os,I.bare,⟨λb o e n hb hx=>?_,λb o e n hb hx=>?_,I.base.free,λb o e hx=>?_,I.base.tups,I.base.frzs,I.base.tbls⟩,⟨_,hn',λj y v' e1 e2 e3=>?_⟩,λy c e=>?_,I.free,I.freeC,λp hp=>?_,tracked ⟨oL,hoL,I.free⟩ hs,by simpa using I.len⟩ ⟨_,hs,.inl rfl⟩
  ·exact(hs.2 b (mL (mY (kX e) I.ok.above))).trans (I.base.keep b o e n hb hx)
  ·obtain⟨sl,e1⟩:=I.base.slot b o e n hb hx
   exact⟨sl,(hs.2 b (mL (mY (kX e) I.ok.above))).trans e1⟩
  ·obtain⟨o',e1⟩:=I.base.there b o e hx
   exact⟨o',(hs.2 b (mL (mY (kX e) I.ok.above))).trans e1⟩
  ·by_cases hj:j=i
   ·subst hj
    rw[hi]at e1;cases e1
    rw[List.getElem?_set_self hiσ]at e2
    cases e2
    exact⟨u,r,.inl ⟨hk,by simp⟩⟩
   ·rw[wT (wD hj)]at e2
    obtain⟨u',r',q⟩:=hl j y v' e1 e2 e3
    refine⟨u',r',?_⟩
    rcases q with⟨k,e⟩|⟨k,c,e,z⟩
    ·refine .inl ⟨k,?_⟩
     have:y≠x:=λe=>hj (q8Q hN e1 (e▸hi))
     simp[this,e]
    ·exact .inr ⟨k,c,e,z.sameBut hs (cne y c e)⟩
  ·obtain⟨w',z⟩:=I.cell y c e
   exact⟨w',z.sameBut hs (cne y c e)⟩
  ·obtain⟨e,n,ne,nf,d⟩:=I.pin p hp
   exact⟨(hs.2 p.1 ne).trans e,n,ne,nf,d⟩
 ·have hfn:X.fn x=true:=by
   rcases hf with z|z
   ·exact z
   ·rw[z]at hk;cases hk
  obtain⟨c,hc⟩:=I.ok.has x (.inl hk)
  obtain⟨w',z⟩:=I.cell x c hc
  refine wpAny_storeName_cell I.ok.kind hk hc z (λh' hc' hs=>?_)
  obtain⟨oc,hoc,hocd⟩:=id z
  refine h { s with heap:=h' } ⟨I.ok,I.os,I.bare,⟨λb o e n hb hx=>?_,λb o e n hb hx=>?_,I.base.free,λb o e hx=>?_,I.base.tups,I.base.frzs,I.base.tbls⟩,⟨m,hn.sameBut hs (wD (cne x c hc)),λj y v' e1 e2 e3=>?_⟩,λy c' e=>?_,I.free,I.freeC,λp hp=>?_,tracked ⟨oc,hoc,I.freeC x c hc⟩ hs,by simpa using I.len⟩ ⟨c,hs,.inr hc⟩
  ·exact(hs.2 b (mL (mY (kX e) (I.ok.cab x c hfn hc)))).trans (I.base.keep b o e n hb hx)
  ·obtain⟨sl,e1⟩:=I.base.slot b o e n hb hx
   exact⟨sl,(hs.2 b (mL (mY (kX e) (I.ok.cab x c hfn hc)))).trans e1⟩
  ·obtain⟨o',e1⟩:=I.base.there b o e hx
   exact⟨o',(hs.2 b (mL (mY (kX e) (I.ok.cab x c hfn hc)))).trans e1⟩
  ·by_cases hj:j=i
   ·subst hj
    rw[hi]at e1;cases e1
    rw[List.getElem?_set_self hiσ]at e2
    cases e2
    exact⟨u,r,.inr ⟨.inl hk,c,hc,hc'⟩⟩
   ·rw[wT (wD hj)]at e2
    obtain⟨u',r',q⟩:=hl j y v' e1 e2 e3
    refine⟨u',r',?_⟩
    rcases q with q|⟨k,c',e,z'⟩
    ·exact .inl q
    ·refine .inr ⟨k,c',e,z'.sameBut hs ?_⟩
     rintro rfl
     exact hj (q8Q hN e1 (I.ok.inj _ _ _ e hc▸hi))
  ·by_cases hcc:c'=c
   ·subst hcc;exact⟨_,hc'⟩
   ·obtain⟨w2,z2⟩:=I.cell y c' e
    exact⟨w2,z2.sameBut hs hcc⟩
  ·obtain⟨e,n,ne,nf,d⟩:=I.pin p hp
   refine⟨(hs.2 p.1 ?_).trans e,n,ne,nf,d⟩
   intro q
   rw[q,hoc]at e
   have q':oc=p.2:=kQ e
   exact d w' (by rw[←q'];exact hocd)
theorem q5B{M:Model}{A:Around}{E:Value→Shared→Prop}{i:Nat}{x:Str}{v:V}{u:Value}{Q:Unit→Shared→Prop}(I:Inv X pins σ H s)(hN:X.N.Nodup)(hi:X.N[i]?=some x)(hx:Loc X.env.scope x)(r:RelV v u)
 (h:∀s',Inv X pins (σ.set i (some v)) H s'→Q () s') (hf:X.fn x=true∨X.env.scope.names.lookup x=some .local:=by first|exact .inl rfl|exact .inr rfl|assumption):wpAny M A (storeName X.env x u) Q E s:=
 q6W I hN hi hx r (λs' I' _=>h s' I') hf
theorem Inv.call'{s':Shared}{ch:List Addr}(I:Inv X pins σ H s)(ho:s'.os=s.os)(u:Un (frs X.stack) ch H H' s.heap s'.heap)(hok:HOk X.prog X.w H' s'.heap)(hg:AllBare s'.gens)
 (hch:∀b∈ch,(b∈X.ex∨X.s₀.heap.objs.size≤b)∧b≠X.env.locals∧(∀x c,X.env.cells.lookup x=some c→c≠b)∧∀p∈X.pn++pins,p.1≠b):Inv X pins σ H' s':=by
 obtain⟨h',g',d',t',o'⟩:=s'
 have e:o'=s.os:=ho
 subst e
 exact I.call (g':=g') (t':=t') (d':=d') u hok hg hch
end
noncomputable abbrev XK:=Value→Option Addr→Hp→Prop
noncomputable abbrev St:=List (Option V)
noncomputable abbrev VK:=V→Hp→Prop
noncomputable abbrev TE:=St→Hp→VK→Prop
noncomputable abbrev TT:=St→Hp→(Bool→Hp→Prop)→Prop
noncomputable abbrev TA:=St→Hp→(List V→Hp→Prop)→Prop
structure Ends where
 nx:St→Hp→Prop
 rt:VK
 bk:St→Hp→Prop:=λ_ _=>False
 ct:St→Hp→Prop:=λ_ _=>False
noncomputable abbrev TS:=Ends→St→Hp→Prop
noncomputable def EP(X:Cx)(pins:List (Addr×Obj))(σ:St)(Q:VK)(u:Value)(s':Shared):Prop:=∃v H',Inv X pins σ H' s'∧RelV v u∧Q v H'
noncomputable def TP(X:Cx)(pins:List (Addr×Obj))(σ:St)(Q:Bool→Hp→Prop)(b:Bool)(s':Shared):Prop:=∃H',Inv X pins σ H' s'∧Q b H'
noncomputable def AP(X:Cx)(pins:List (Addr×Obj))(σ:St)(Q:List V→Hp→Prop)(us:List Value)(s':Shared):Prop:=∃vs H',Inv X pins σ H' s'∧Vals vs us∧Q vs H'
noncomputable def SP(X:Cx)(pins:List (Addr×Obj))(D:Ends)(f:Flow)(s':Shared):Prop:=
 match f with
 | .next=>∃σ' H',Inv X pins σ' H' s'∧D.nx σ' H'
 | .brk=>∃σ' H',Inv X pins σ' H' s'∧D.bk σ' H'
 | .cont=>∃σ' H',Inv X pins σ' H' s'∧D.ct σ' H'
 | .ret u=>∃v σ' H',Inv X pins σ' H' s'∧RelV v u∧D.rt v H'
noncomputable def PE(X:Cx)(e:Expr)(t:TE):Prop:=
 ∀(pins:List (Addr×Obj)) (s:Shared) (σ:St) (H:Hp) (Q:VK),Inv X pins σ H s→t σ H Q→wpAny (model X.prog X.w) X.A (eval e X.env) (EP X pins σ Q) X.xe s
noncomputable def PT(X:Cx)(e:Expr)(t:TT):Prop:=
 ∀(pins:List (Addr×Obj)) (s:Shared) (σ:St) (H:Hp) (Q:Bool→Hp→Prop),Inv X pins σ H s→t σ H Q→wpAny (model X.prog X.w) X.A (isTrue e X.env (eval e X.env)) (TP X pins σ Q) X.xe s
noncomputable def PW(X:Cx)(e:Expr)(t:TT):Prop:=
 ∀(whole:Sem Value) (pins:List (Addr×Obj)) (s:Shared) (σ:St) (H:Hp) (Q:Bool→Hp→Prop),Inv X pins σ H s→t σ H Q→wpAny (model X.prog X.w) X.A (isTrue e X.env whole) (TP X pins σ Q) X.xe s
theorem PW.pt{X:Cx}{e:Expr}{t:TT}(h:PW X e t):PT X e t:=h _
noncomputable def PA(X:Cx)(es:List Expr)(t:TA):Prop:=
 ∀(pos:Pos) (pins:List (Addr×Obj)) (s:Shared) (σ:St) (H:Hp) (Q:List V→Hp→Prop),Inv X pins σ H s→t σ H Q→wpAny (model X.prog X.w) X.A (spliced (backTo pos (starEach es X.env))) (AP X pins σ Q) X.xe s
noncomputable def PS(X:Cx)(st:Stmt)(t:TS):Prop:=
 ∀(pins:List (Addr×Obj)) (s:Shared) (σ:St) (H:Hp) (D:Ends),Inv X pins σ H s→t D σ H→wpAny (model X.prog X.w) X.A (exec st X.env) (SP X pins D) X.xe s
noncomputable def PSs(X:Cx)(st:List Stmt)(t:TS):Prop:=
 ∀(pins:List (Addr×Obj)) (s:Shared) (σ:St) (H:Hp) (D:Ends),Inv X pins σ H s→t D σ H→wpAny (model X.prog X.w) X.A (execs st X.env) (SP X pins D) X.xe s
theorem thn{α:Type}{t:Sem α}{Q Q':α→Shared→Prop}{M:Model}{A:Around}{E:Value→Shared→Prop}{s:Shared}(h:wpAny M A t Q E s)(hQ:∀a s,Q a s→Q' a s):wpAny M A t Q' E s:=dB h hQ λ_ _ x=>x
section
variable{X:Cx}
theorem bin{a b:Expr}{ta tb:TE}(ha:PE X a ta)(hb:PE X b tb){pins:List (Addr×Obj)}{s:Shared}{σ:St}{H:Hp}{R:V→V→Hp→Prop}(I:Inv X pins σ H s)(h:ta σ H λx H1=>tb σ H1 λy H2=>R x y H2)
 {α:Type} {Q:α→Shared→Prop} {f:Value→Value→Sem α}
 (hf:∀v u s2 x y H2,Inv X pins σ H2 s2→RelV x v→RelV y u→R x y H2→wpAny (model X.prog X.w) X.A (f v u) Q X.xe s2):
 wpAny (model X.prog X.w) X.A (eval a X.env) (λv s₁=>wpAny (model X.prog X.w) X.A (eval b X.env) (λu s₂=>wpAny (model X.prog X.w) X.A (f v u) Q X.xe s₂) X.xe s₁) X.xe s:=by
 refine thn (ha pins s σ H _ I h) λv s1 hZ=>?_
 obtain⟨x,H1,I1,r1,q1⟩:=hZ
 refine thn (hb pins s1 σ H1 _ I1 q1) λu s2 hZ=>?_
 obtain⟨y,H2,I2,r2,q2⟩:=hZ
 exact hf v u s2 x y H2 I2 r1 r2 q2
noncomputable def tVar(i:Nat):TE:=λσ H Q=>∃v,σ[i]?=some (some v)∧Q v H
noncomputable def tC(v:V):TE:=λ_ H Q=>Q v H
theorem qHK{i:Nat}{x:Str}{pos:Pos}(hN:X.N[i]?=some x)(hv:Vis X.env.scope x)(hd:(x==("__debug__":Str))=false:=by decide)(hcd:(x==("__classdict__":Str))=false:=by decide):PE X (.Name x pos) (tVar i):=by
 intro pins s σ H Q I h
 obtain⟨v,e,h⟩:=h
 obtain⟨m,hn,hl⟩:=I.loc
 obtain⟨u,r,l⟩:=hl i x v hN e hv
 have fin:EP X pins σ Q u s:=⟨v,H,I,r,h⟩
 rcases l with⟨hk,hm⟩|⟨hk,c,hc,hcell⟩
 ·exact wpAny_Name (wpAny_loadName_local I.ok.kind hk hn hm fin) hd
 ·rcases hk with hk|hk
  ·exact wpAny_Name (wpAny_loadName_cell I.ok.kind hk hc hcell fin) hd
  ·exact wpAny_Name (wpAny_loadName_free I.ok.kind hk hc hcell fin hcd) hd
theorem qG{i j pos}:PE X (.Constant (.int i) j pos) (tC (.int i)):=λ_ _ _ H _ I h=>wpAny_Constant_int ⟨.int i,H,I.tok _,⟨_,rfl⟩,h⟩
theorem zK{b j pos}:PE X (.Constant (.bool b) j pos) (tC (.bl b)):=λ_ _ _ H _ I h=>Constant_bool ⟨.bl b,H,I,rfl,h⟩
theorem vJ{j pos}:PE X (.Constant .none j pos) (tC .non):=λ_ _ _ H _ I h=>Constant_none ⟨.non,H,I,rfl,h⟩
theorem q1A{x j pos}:PE X (.Constant (.str x) j pos) (tC (.str x)):=λ_ _ _ H _ I h=>Calls.Constant_str ⟨.str x,H,I.tok _,⟨_,rfl⟩,h⟩
noncomputable def Gl(X:Cx)(x:Str):Prop:=X.env.kindOf x=some .globalImplicit
theorem q2D{E:Value→Shared→Prop}{pins:List (Addr×Obj)}{s:Shared}{σ:St}{H:Hp}{x:Str}{u:Value}{pos:Pos}{Q:Value→Shared→Prop}(I:Inv X pins σ H s)(hg:Gl X x)(hm:X.mg x=some u)(h:Q u s)
 (hd:(x==("__debug__":Str))=false:=by decide):wpAny (model X.prog X.w) X.A (eval (.Name x pos) X.env) Q E s:=
 Calls.Name_function_global I.ok.kind hg (Calls.loadGlobal_global (by rw[I.ok.glob];exact I.mod.glob.keeps I.bk) hm h) hd
theorem q1B{E:Value→Shared→Prop}{pins:List (Addr×Obj)}{s:Shared}{σ:St}{H:Hp}{x:Str}{u:Value}{pos:Pos}{Q:Value→Shared→Prop}(I:Inv X pins σ H s)(hg:Gl X x)(hm:X.mg x=none)(hv:bootBuiltins x=some u)(h:Q u s)
 (hn:x≠"__name__":=by decide) (hd:(x==("__debug__":Str))=false:=by decide):wpAny (model X.prog X.w) X.A (eval (.Name x pos) X.env) Q E s:=by
 obtain⟨mb,h1,h2⟩:=I.mod.blt
 exact Calls.Name_function_global I.ok.kind hg (Calls.loadGlobal_builtin (by rw[I.ok.glob];exact I.mod.glob.keeps I.bk) hm (by rw[I.ok.blt];exact h1.keeps I.bk) ((h2 x hn).trans hv) h) hd
theorem q2E{x:Str}{v:V}{u:Value}{pos:Pos}(hg:Gl X x)(hm:X.mg x=some u)(r:RelV v u)(hd:(x==("__debug__":Str))=false:=by decide):PE X (.Name x pos) (tC v):=
 λ_ _ _ H _ I h=>q2D I hg hm ⟨v,H,I,r,h⟩ hd
theorem qAU{x:Str}{v:V}{u:Value}{pos:Pos}(hg:Gl X x)(hm:X.mg x=none)(hv:bootBuiltins x=some u)(r:RelV v u)(hn:x≠"__name__":=by decide)(hd:(x==("__debug__":Str))=false:=by decide):PE X (.Name x pos) (tC v):=
 λ_ _ _ H _ I h=>q1B I hg hm hv ⟨v,H,I,r,h⟩ hn hd
variable{a b:Expr}{ta tb:TE}{pos:Pos}
noncomputable def PC(X:Cx)(op:CmpOp)(a b:Expr)(t:TE):Prop:=
 ∀(pins:List (Addr×Obj)) (s:Shared) (σ:St) (H:Hp) (Q:VK),Inv X pins σ H s→t σ H Q→
  wpAny (model X.prog X.w) X.A (eval a X.env) (λv s₁=>wpAny (model X.prog X.w) X.A (eval b X.env) (λu s₂=>wpAny (model X.prog X.w) X.A (compareOp op v u) (EP X pins σ Q) X.xe s₂) X.xe s₁) X.xe s
noncomputable def tB(t:TE):TT:=λσ H Q=>t σ H λx H1=>∃c,x=.bl c∧Q c H1
theorem qHL{op:CmpOp}{t:TE}(h:PC X op a b t)(h1:behindInMarks op b=false:=by first|exact nobehind _ (by decide) (by decide)|rfl):PE X (.Compare a [op] [b] pos) t:=λpins s σ H Q I hw=>wpAny_Compare1 (h pins s σ H Q I hw) h1
theorem qHM{op:CmpOp}{t:TE}(h:PC X op a b t)(h1:behindInMarks op b=false:=by first|exact nobehind _ (by decide) (by decide)|rfl):PT X (.Compare a [op] [b] pos) (tB t):=by
 intro pins s σ H Q I hw
 refine wpAny_isTrue_Compare1 (thn (h pins s σ H _ I hw) λv s1 h1=>thn h1 λu s2 h2=>thn h2 λc s3 hZ=>?_) h1
 obtain⟨x,H1,I1,r1,q1⟩:=hZ
 obtain⟨d,rfl,q⟩:=q1
 cases r1
 exact gQ ⟨H1,I1,q⟩
theorem yE{e:Expr}{t:TE}(h:PE X e t)(he:∀whole,isTrue e X.env whole=(do let v←whole;standAt e.pos;holding [v] (truthy v)):=by intro _;rfl):PT X e (tB t):=by
 intro pins s σ H Q I hw
 refine isTrue_plain (thn (h pins s σ H _ I hw) λv s1 hZ=>?_) (he _)
 obtain⟨x,H1,I1,r1,q1⟩:=hZ
 obtain⟨d,rfl,q⟩:=q1
 cases r1
 exact gQ ⟨H1,I1,q⟩
variable{tA tB':TT}{rest:List Expr}
noncomputable def tAnd(t u:TT):TT:=λσ H Q=>t σ H λc H1=>if c=true then u σ H1 Q else Q false H1
noncomputable def tOr(t u:TT):TT:=λσ H Q=>t σ H λc H1=>if c=true then Q true H1 else u σ H1 Q
noncomputable def tNot(t:TT):TT:=λσ H Q=>t σ H λc H1=>Q (!c) H1
theorem qAV(ha:PT X a tA):PW X (.BoolOp .And [a] pos) tA:=by
 intro wh pins s σ H Q I h
 refine isTrue_and (thn (ha pins s σ H Q I h) λc s1 e=>?_)
 cases c with
 |true=>exact isTrue_and_nil e
 |false=>exact e
theorem q7J(ha:PT X a tA):PW X (.BoolOp .Or [a] pos) tA:=by
 intro wh pins s σ H Q I h
 refine isTrue_or (thn (ha pins s σ H Q I h) λc s1 e=>?_)
 cases c with
 |false=>exact isTrue_or_nil e
 |true=>exact e
theorem qCQ(ha:PT X a tA)(hb:PW X (.BoolOp .And (b::rest) pos) tB'):PW X (.BoolOp .And (a::b::rest) pos) (tAnd tA tB'):=by
 intro wh pins s σ H Q I h
 refine isTrue_and (thn (ha pins s σ H _ I h) λc s1 hZ=>?_)
 obtain⟨H1,I1,q1⟩:=hZ
 cases c with
 |true=>exact hb wh pins s1 σ H1 Q I1 q1
 |false=>exact⟨H1,I1,q1⟩
theorem qAW(ha:PT X a tA)(hb:PW X (.BoolOp .Or (b::rest) pos) tB'):PW X (.BoolOp .Or (a::b::rest) pos) (tOr tA tB'):=by
 intro wh pins s σ H Q I h
 refine isTrue_or (thn (ha pins s σ H _ I h) λc s1 hZ=>?_)
 obtain⟨H1,I1,q1⟩:=hZ
 cases c with
 |true=>exact⟨H1,I1,q1⟩
 |false=>exact hb wh pins s1 σ H1 Q I1 q1
theorem yX(ha:PT X a tA):PT X (.UnaryOp .Not a pos) (tNot tA):=by
 intro pins s σ H Q I h
 exact isTrue_not (ha pins s σ H (λc H1=>Q (!c) H1) I h)
noncomputable def qJN(ta tb:TE):TE:=λσ H Q=>ta σ H λx H1=>∃c,x=.bl c∧if c=true then tb σ H1 Q else Q (.bl false) H1
noncomputable def tOrV(ta tb:TE):TE:=λσ H Q=>ta σ H λx H1=>∃c,x=.bl c∧if c=true then Q (.bl true) H1 else tb σ H1 Q
noncomputable def qJO(ta:TE):TE:=λσ H Q=>ta σ H λx H1=>∃c,x=.bl c∧Q (.bl (!c)) H1
theorem q1C{op}{t:TE}(h:PE X a t):PE X (.BoolOp op [a] pos) t:=λpins s σ H Q I hw=>BoolOp_one (h pins s σ H Q I hw)
theorem q5C(ha:PE X a ta)(hb:PE X (.BoolOp .And (b::rest) pos) tb):PE X (.BoolOp .And (a::b::rest) pos) (qJN ta tb):=by
 intro pins s σ H Q I h
 refine BoolOp_and (thn (ha pins s σ H _ I h) λv s1 hZ=>?_)
 obtain⟨x,H1,I1,r1,q1⟩:=hZ
 obtain⟨c,rfl,q1⟩:=q1
 cases r1
 refine gQ ?_
 cases c with
 |true=>exact hb pins s1 σ H1 Q I1 q1
 |false=>exact⟨.bl false,H1,I1,rfl,q1⟩
theorem qCR(ha:PE X a ta)(hb:PE X (.BoolOp .Or (b::rest) pos) tb):PE X (.BoolOp .Or (a::b::rest) pos) (tOrV ta tb):=by
 intro pins s σ H Q I h
 refine BoolOp_or (thn (ha pins s σ H _ I h) λv s1 hZ=>?_)
 obtain⟨x,H1,I1,r1,q1⟩:=hZ
 obtain⟨c,rfl,q1⟩:=q1
 cases r1
 refine gQ ?_
 cases c with
 |false=>exact hb pins s1 σ H1 Q I1 q1
 |true=>exact⟨.bl true,H1,I1,rfl,q1⟩
theorem qCS(ha:PE X a ta):PE X (.UnaryOp .Not a pos) (qJO ta):=by
 intro pins s σ H Q I h
 refine UnaryOp_ (thn (ha pins s σ H _ I h) λv s1 hZ=>?_)
 obtain⟨x,H1,I1,r1,q1⟩:=hZ
 obtain⟨c,rfl,q1⟩:=q1
 cases r1
 exact not_of (gQ ⟨.bl (!c),H1,I1,rfl,q1⟩)
noncomputable def tIf(t:TT)(ta tb:TE):TE:=λσ H Q=>t σ H λc H1=>if c=true then ta σ H1 Q else tb σ H1 Q
theorem qCT{c:Expr}(hc:PT X c tA)(ha:PE X a ta)(hb:PE X b tb):PE X (.IfExp c a b pos) (tIf tA ta tb):=by
 intro pins s σ H Q I h
 refine wpAny_IfExp (thn (hc pins s σ H _ I h) λd s1 hZ=>?_)
 obtain⟨H1,I1,q1⟩:=hZ
 cases d with
 |true=>exact ha pins s1 σ H1 Q I1 q1
 |false=>exact hb pins s1 σ H1 Q I1 q1
end
noncomputable def SqL(K:PySem.W.Frag)(H:Hp)(a:Addr)(xs:List V):Prop:=
 Rd H a (.lst xs)∨
  ∃(o:Obj) (its:Array Value) (n:Nat),K.lookup a=some o∧o.cls=.type "list"∧o.dict=none∧o.data=.seq its n∧its.size≤sizeLine∧Vals xs its.toList
noncomputable def SqT(K:PySem.W.Frag)(H:Hp)(a:Addr)(xs:List V):Prop:=
 Rd H a (.tup xs)∨
  ∃(o:Obj) (its:Array Value) (n:Nat),K.lookup a=some o∧o.cls=.type "tuple"∧o.data=.seq its n∧its.size≤sizeLine∧Vals xs its.toList
noncomputable def absV:Value→Option V
 | .none=>some .non
 | .bool b=>some (.bl b)
 | .int i _=>some (.int i)
 | .str x _=>some (.str x)
 | .bytes b _=>some (.byt b)
 | .float b _=>some (.flt b)
 | .ref a=>some (.ref a)
 | .type n=>some (.ty n)
 |_=>none
theorem RelV.abs{x:V}{u:Value}(r:RelV x u):absV u=some x:=by
 cases x with
 |non=>cases r;rfl
 |bl _=>cases r;rfl
 |int _=>obtain⟨t,rfl⟩:=r;rfl
 |str _=>obtain⟨t,rfl⟩:=r;rfl
 |byt _=>obtain⟨t,rfl⟩:=r;rfl
 |flt _=>obtain⟨t,rfl⟩:=r;rfl
 |ref _=>cases r;rfl
 |ty _=>cases r;rfl
theorem RelV.inj{x y:V}{u:Value}(r:RelV x u)(q:RelV y u):x=y:=kQ (r.abs.symm.trans q.abs)
theorem Vals.inj{xs ys:List V}{us:List Value}(h:Vals xs us):Vals ys us→xs=ys:=by
 induction h generalizing ys with
 |nil=>exact λg=>by cases g;rfl
 |cons r t ih=>
  intro g
  cases g with
  |cons r' t'=>rw[r.inj r',ih t']
section
variable{X:Cx}{pins:List (Addr×Obj)}{σ:St}{H:Hp}{s:Shared}{a:Addr}{xs ys:List V}
theorem SqL.of{K:PySem.W.Frag}(h:H a=some (.lst xs)):SqL K H a xs:=.inl (.inl h)
theorem SqT.of{K:PySem.W.Frag}(h:H a=some (.tup xs)):SqT K H a xs:=.inl (.inl h)
theorem Inv.list(I:Inv X pins σ H s)(h:SqL X.K H a xs):∃its:List Value,Vals xs its∧PlainL s.heap a its.toArray∧xs.length≤sizeLine:=by
 rcases h with h|⟨o,its,n,hk,hc,hd,hs,hz,r⟩
 ·obtain⟨z,its,n,r,e⟩:=h.ok I.hok
  exact⟨its,r,⟨_,n,e,rfl,rfl,rfl⟩,z⟩
 ·refine⟨its.toList,r,⟨o,n,I.kIn a o hk,hc,hd,by simpa using hs⟩,?_⟩
  have e:=r.length
  simp only[mQ]at e
  omega
theorem Inv.tuple(I:Inv X pins σ H s)(h:SqT X.K H a xs):∃its:List Value,Vals xs its∧IsTup s.heap a its.toArray∧xs.length≤sizeLine:=by
 rcases h with h|⟨o,its,n,hk,hc,hs,hz,r⟩
 ·obtain⟨z,its,r,p⟩:=h.ok I.hok
  exact⟨its,r,p,z⟩
 ·refine⟨its.toList,r,⟨o,I.kIn a o hk,hc,n,by simpa using hs⟩,?_⟩
  have e:=r.length
  simp only[mQ]at e
  omega
theorem Inv.list_inj(I:Inv X pins σ H s)(h:SqL X.K H a xs)(h':SqL X.K H a ys):xs=ys:=by
 obtain⟨its,r,⟨o,n,e,_,_,d⟩,_⟩:=I.list h
 obtain⟨its',r',⟨o',n',e',_,_,d'⟩,_⟩:=I.list h'
 rw[e]at e';cases e'
 rw[d]at d'
 injection d' with d1 _
 have:its=its':=by simpa using dR Array.toList d1
 subst this
 exact r.inj r'
end
noncomputable abbrev Cx.wish(X:Cx)(E:Value→Shared→Prop):Cx:={ X with xe:=E }
noncomputable abbrev Cx.nox(X:Cx):Cx:=X.wish λ_ _=>False
theorem Cx.Ok.wish{X:Cx}(ok:X.Ok)(E:Value→Shared→Prop):(X.wish E).Ok:=
 ⟨ok.mod,ok.kind,ok.glob,ok.blt,ok.above,ok.inj,ok.has,ok.cab,ok.hd,ok.frames,ok.stk,ok.exf,ok.bs,ok.bsz,ok.noex,ok.exfs,ok.funs,ok.frf⟩
theorem Cx.Ok.unwish{X:Cx}{E:Value→Shared→Prop}(ok:(X.wish E).Ok):X.Ok:=
 ⟨ok.mod,ok.kind,ok.glob,ok.blt,ok.above,ok.inj,ok.has,ok.cab,ok.hd,ok.frames,ok.stk,ok.exf,ok.bs,ok.bsz,ok.noex,ok.exfs,ok.funs,ok.frf⟩
section
variable{X:Cx}{pins:List (Addr×Obj)}{σ:St}{H:Hp}{s:Shared}{E:Value→Shared→Prop}
theorem Inv.wish(I:Inv X pins σ H s)(E:Value→Shared→Prop):Inv (X.wish E) pins σ H s:=⟨I.ok.wish E,I.os,I.bare,I.base,I.loc,I.cell,I.free,I.freeC,I.pin,I.hok,I.len⟩
theorem Inv.unwish(I:Inv (X.wish E) pins σ H s):Inv X pins σ H s:=⟨I.ok.unwish,I.os,I.bare,I.base,I.loc,I.cell,I.free,I.freeC,I.pin,I.hok,I.len⟩
theorem SP.unwish{D:Ends}{f:Flow}{s':Shared}(h:SP (X.wish E) pins D f s'):SP X pins D f s':=by
 cases f with
 |next=>obtain⟨σ',H',I,q⟩:=h;exact⟨σ',H',I.unwish,q⟩
 |brk=>obtain⟨σ',H',I,q⟩:=h;exact⟨σ',H',I.unwish,q⟩
 |cont=>obtain⟨σ',H',I,q⟩:=h;exact⟨σ',H',I.unwish,q⟩
 |ret u=>obtain⟨v,σ',H',I,r,q⟩:=h;exact⟨v,σ',H',I.unwish,r,q⟩
theorem PSs.nox{st:List Stmt}{t:TS}(h:PSs X.nox st t):PSs X st t:=λpins s σ H D I hw=>
 dB (h pins s σ H D (I.wish _) hw) (λ_ _ q=>q.unwish) λ_ _ z=>False.elim z
end
section
variable{X:Cx}{st:Stmt}{rest:List Stmt}{t u:TS}{e:Expr}{te:TE}{pos:Pos}
noncomputable def qJP:TS:=λD σ H=>D.nx σ H
noncomputable def tSeq(t u:TS):TS:=λD σ H=>t { D with nx:=u D } σ H
theorem qQ:PSs X [] qJP:=λ_ _ σ H _ I h=>pG ⟨σ,H,I,h⟩
theorem qB(h1:PS X st t)(h2:PSs X rest u):PSs X (st::rest) (tSeq t u):=by
 intro pins s σ H D I h
 refine wpAny_execs_cons (thn (h1 pins s σ H { D with nx:=u D } I h) λf s1 q=>?_)
 cases f with
 |next=>
  obtain⟨σ',H',I',q⟩:=q
  exact h2 pins s1 σ' H' D I' q
 |ret v=>exact q
 |brk=>exact q
 |cont=>exact q
theorem qC(h1:PS X st t):PSs X [st] t:=by
 intro pins s σ H D I h
 refine wpAny_execs_cons (thn (h1 pins s σ H D I h) λf s1 q=>?_)
 cases f with
 |next=>exact pG q
 |ret v=>exact q
 |brk=>exact q
 |cont=>exact q
theorem Inv.quiet{pins:List (Addr×Obj)}{σ:St}{H:Hp}{s:Shared}(I:Inv X pins σ H s):interactive X.env=false:=by simp[interactive,I.ok.kind]
noncomputable def qJQ(te:TE):TS:=λD σ H=>te σ H λ_ H1=>D.nx σ H1
theorem j8(he:PE X e te)(hs:swapsWith e none pos.line X.env=pure false:=by rfl):PS X (.Expr e pos) (qJQ te):=by
 intro pins s σ H D I h
 exact wpAny_Expr_any (thn (he pins s σ H _ I h) λv s1 ⟨x,H1,I1,r1,q1⟩=>⟨σ,H1,I1,q1⟩) I.quiet hs
noncomputable def tRet(te:TE):TS:=λD σ H=>te σ H D.rt
theorem qL(he:PE X e te):PS X (.Return (some e) pos) (tRet te):=by
 intro pins s σ H D I h
 exact wpAny_Return_some (thn (he pins s σ H _ I h) λv s1 ⟨x,H1,I1,r1,q1⟩=>⟨x,σ,H1,I1,r1,q1⟩)
noncomputable def tIfS(c:TT)(t u:TS):TS:=λD σ H=>c σ H λb H1=>if b=true then t D σ H1 else u D σ H1
theorem jE{c:Expr}{a b:List Stmt}{tc:TT}(hc:PT X c tc)(ha:PSs X a t)(hb:PSs X b u):PS X (.If c a b pos) (tIfS tc t u):=by
 intro pins s σ H D I h
 refine wpAny_If (thn (hc pins s σ H _ I h) λd s1 hZ=>?_)
 obtain⟨H1,I1,q1⟩:=hZ
 cases d with
 |true=>exact ha pins s1 σ H1 D I1 q1
 |false=>exact hb pins s1 σ H1 D I1 q1
noncomputable def qHN:TS:=λ_ _ _=>False
theorem jH:PS X st qHN:=λ_ _ _ _ _ _ h=>h.elim
end
noncomputable abbrev TG:=V→St→Hp→(St→Hp→Prop)→Prop
noncomputable abbrev TGs:=List V→St→Hp→(St→Hp→Prop)→Prop
noncomputable def PG(X:Cx)(target:Expr)(t:TG):Prop:=
 ∀(pins:List (Addr×Obj)) (s:Shared) (σ:St) (H:Hp) (v:V) (u:Value) (Q:St→Hp→Prop),Inv X pins σ H s→RelV v u→t v σ H Q→
  wpAny (model X.prog X.w) X.A (assign target X.env u) (λ_ s'=>∃σ' H',Inv X pins σ' H' s'∧Q σ' H') X.xe s
noncomputable def PGs(X:Cx)(ts:List Expr)(t:TGs):Prop:=
 ∀(pins:List (Addr×Obj)) (s:Shared) (σ:St) (H:Hp) (vs:List V) (us:List Value) (Q:St→Hp→Prop),Inv X pins σ H s→Vals vs us→t vs σ H Q→
  wpAny (model X.prog X.w) X.A (assignInOrder ((assignEach ts X.env).map (·.2)) us) (λ_ s'=>∃σ' H',Inv X pins σ' H' s'∧Q σ' H') X.xe s
noncomputable abbrev TSet:=V→V→V→Hp→(Hp→Prop)→Prop
noncomputable def PSet(X:Cx)(t:TSet):Prop:=
 ∀(pins:List (Addr×Obj)) (s:Shared) (σ:St) (H:Hp) (o i v:V) (ov iv u:Value) (Q:Hp→Prop),Inv X pins σ H s→RelV o ov→RelV i iv→RelV v u→t o i v H Q→
  wpAny (model X.prog X.w) X.A (setItem ov iv u) (λ_ s'=>∃H',Inv X pins σ H' s'∧Q H') X.xe s
noncomputable abbrev TIp:=V→V→Hp→VK→Prop
noncomputable def PIp(X:Cx)(op:Operator)(t:TIp):Prop:=
 ∀(pins:List (Addr×Obj)) (s:Shared) (σ:St) (H:Hp) (x y:V) (v u:Value) (Q:VK),Inv X pins σ H s→RelV x v→RelV y u→t x y H Q→
  wpAny (model X.prog X.w) X.A (inplaceOp op v u) (EP X pins σ Q) X.xe s
section
variable{X:Cx}{pos:Pos}
noncomputable def q2T(i:Nat):TG:=λv σ H Q=>Q (σ.set i (some v)) H
theorem qX{i:Nat}{x:Str}(hN:X.N.Nodup)(hi:X.N[i]?=some x)(hx:Loc X.env.scope x)(hf:X.fn x=true∨X.env.scope.names.lookup x=some .local:=by first|exact .inl rfl|exact .inr rfl|assumption):PG X (.Name x pos) (q2T i):=by
 intro pins s σ H v u Q I r h
 exact wpAny_assign_Name (q5B I hN hi hx r (λs' I'=>⟨_,H,I',h⟩) hf)
noncomputable def gNil:TGs:=λvs σ H Q=>vs=[]∧Q σ H
noncomputable def qH0(t:TG)(u:TGs):TGs:=λvs σ H Q=>∃v r,vs=v::r∧t v σ H λσ' H'=>u r σ' H' Q
theorem q4Y:PGs X [] gNil:=by
 intro pins s σ H vs us Q I r h
 obtain⟨e,h⟩:=h
 subst e
 cases r
 exact assignInOrder_nil ⟨σ,H,I,h⟩
theorem uA{e:Expr}{es:List Expr}{t:TG}{u:TGs}(h1:PG X e t)(h2:PGs X es u)
 (hs:(assignEach (e::es) X.env).map (·.2)=assign e X.env::(assignEach es X.env).map (·.2):=by rfl):PGs X (e::es) (qH0 t u):=by
 intro pins s σ H vs us Q I r h
 obtain⟨v,vr,e1,h⟩:=h
 subst e1
 cases r with
 |cons r rr=>
  rw[hs]
  refine assignInOrder_cons (thn (h1 pins s σ H _ _ _ I r h) λ_ s1 hZ=>?_)
  obtain⟨σ1,H1,I1,q1⟩:=hZ
  exact h2 pins s1 σ1 H1 _ _ Q I1 rr q1
noncomputable def gTup(K:PySem.W.Frag)(n:Nat)(t:TGs):TG:=λv σ H Q=>∃a xs,v=.ref a∧SqT K H a xs∧xs.length=n∧t xs σ H Q
theorem qA4{es:List Expr}{k:Nat}{t:TGs}{n:Nat}(hc:X.calm=true)(h:PGs X es t)
 (hn:(assignEach es X.env).length=n:=by rfl) (hst:(assignEach es X.env).findIdx? (·.1)=none:=by rfl):PG X (.Tuple es k pos) (gTup X.K n t):=by
 intro pins s σ H v u Q I r hw
 obtain⟨a,xs,e1,hq,hl,hw⟩:=hw
 subst e1
 cases r
 obtain⟨its,rv,ht,hz⟩:=I.tuple hq
 refine assign_Tuple_tuple (I.ok.hd hc) ht (by simp[hn,←hl,rv.length]) hst λh' hx=>?_
 have I1:Inv X pins σ H { s with heap:=h' }:=I.kept (t':=s.toks) λb o e=>hx b o (mL (kX e)) e
 exact h pins _ σ H xs _ Q I1 (by simpa using rv) hw
noncomputable def gSub(to ti:TE)(t:TSet):TG:=λv σ H Q=>to σ H λo H1=>ti σ H1 λi H2=>t o i v H2 λH3=>Q σ H3
theorem q40{o i:Expr}{to ti:TE}{t:TSet}(ho:PE X o to)(hi:PE X i ti)(hs:PSet X t)
 (ha:∀v,assign (.Subscript o i pos) X.env v=(do
  let ov←holding [v] (eval o X.env)
  let iv←holding [v,ov] (eval i X.env)
  standAt pos
  holding [v,ov,iv] (setItem ov iv v)
  release [v,ov,iv] []):=by intro _;rfl):PG X (.Subscript o i pos) (gSub to ti t):=by
 intro pins s σ H v u Q I r h
 rw[ha]
 refine kB (gK (thn (ho pins s σ H _ I h) λov s1 hZ=>?_))
 obtain⟨x,H1,I1,r1,q1⟩:=hZ
 refine kB (gK (thn (hi pins s1 σ H1 _ I1 q1) λiv s2 hZ=>?_))
 obtain⟨y,H2,I2,r2,q2⟩:=hZ
 refine kB (pA (kB (gK (thn (hs pins s2 σ H2 x y v ov iv u _ I2 r1 r2 r q2) λ_ s3 hZ=>?_))))
 obtain⟨H3,I3,q3⟩:=hZ
 exact wpAny_release ⟨σ,H3,I3,q3⟩
noncomputable def tAsg(te:TE)(g:TG):TS:=λD σ H=>te σ H λx H1=>g x σ H1 D.nx
theorem q2Z{tg e:Expr}{te:TE}{g:TG}(he:PE X e te)(hg:PG X tg g)(hs:swapsWithSole [tg] e pos.line X.env=pure false:=by rfl)(hw:swappedStores [tg] e X.env=pure none:=by rfl)
 (h1:(assignEach [tg] X.env).map (·.2)=[assign tg X.env]:=by rfl):PS X (.Assign [tg] e pos) (tAsg te g):=by
 intro pins s σ H D I h
 refine wpAny_Assign_stores (thn (he pins s σ H _ I h) λv s1 hZ=>?_) hs hw
 obtain⟨x,H1,I1,r1,q1⟩:=hZ
 rw[h1]
 exact thn (hg pins s1 σ H1 x v _ I1 r1 q1) λ_ s2 q=>q
theorem qV{i:Nat}{x:Str}{e:Expr}{te:TE}{pos':Pos}(hN:X.N.Nodup)(hi:X.N[i]?=some x)(hx:Loc X.env.scope x)(he:PE X e te)(hs:swapsWith e (some (.Name x pos')) pos.line X.env=pure false:=by rfl)(hf:X.fn x=true∨X.env.scope.names.lookup x=some .local:=by first|exact .inl rfl|exact .inr rfl|assumption):
 PS X (.Assign [.Name x pos'] e pos) (tAsg te (q2T i)):=by
 intro pins s σ H D I h
 refine wpAny_Assign_Name (thn (he pins s σ H _ I h) λv s1 hZ=>?_) hs
 obtain⟨y,H1,I1,r1,q1⟩:=hZ
 exact q5B I1 hN hi hx r1 (λs2 I2=>⟨_,H1,I2,q1⟩) hf
noncomputable def tAug(i:Nat)(te:TE)(ti:TIp):TS:=λD σ H=>∃x,σ[i]?=some (some x)∧te σ H λy H1=>ti x y H1 λz H2=>D.nx (σ.set i (some z)) H2
theorem qHO{i:Nat}{x:Str}{e:Expr}{te:TE}{op:Operator}{ti:TIp}{pos':Pos}(hN:X.N.Nodup)(hi:X.N[i]?=some x)(hx:Loc X.env.scope x)(he:PE X e te)(ho:PIp X op ti)(hf:X.fn x=true∨X.env.scope.names.lookup x=some .local:=by first|exact .inl rfl|exact .inr rfl|assumption):
 PS X (.AugAssign (.Name x pos') op e pos) (tAug i te ti):=by
 intro pins s σ H D I h
 obtain⟨v,e1,h⟩:=h
 obtain⟨m,hn,hl⟩:=I.loc
 have vis:Vis X.env.scope x:=by rcases hx with k|k;exact .inl k;exact .inr (.inl k)
 obtain⟨u,r,l⟩:=hl i x v hi e1 vis
 refine wpAny_AugAssign_Name ?_
 have go:wpAny (model X.prog X.w) X.A (eval e X.env) (λw s₂=>wpAny (model X.prog X.w) X.A (inplaceOp op u w) (λr s₃=>wpAny (model X.prog X.w) X.A (storeName X.env x r) (λ_=>SP X pins D .next) X.xe s₃) X.xe s₂) X.xe s:=by
  refine thn (he pins s σ H _ I h) λw s1 hZ=>?_
  obtain⟨y,H1,I1,r1,q1⟩:=hZ
  refine thn (ho pins s1 σ H1 v y u w _ I1 r r1 q1) λz s2 hZ=>?_
  obtain⟨zv,H2,I2,r2,q2⟩:=hZ
  exact q5B I2 hN hi hx r2 (λs3 I3=>⟨_,H2,I3,q2⟩) hf
 rcases l with⟨hk,hm⟩|⟨hk,c,hc,hcell⟩
 ·exact wpAny_loadName_local I.ok.kind hk hn hm go
 ·rcases hk with hk|hk
  ·exact wpAny_loadName_cell I.ok.kind hk hc hcell go
  ·rcases hx with k|k
   ·have:X.env.scope.names.lookup x=some .free:=hk
    rw[k]at this;cases this
   ·have:X.env.scope.names.lookup x=some .free:=hk
    rw[k]at this;cases this
noncomputable def qJR(to ti te:TE)(tget:V→V→Hp→VK→Prop)(tip:TIp)(tset:TSet):TS:=λD σ H=>to σ H λo H1=>ti σ H1 λi H2=>tget o i H2 λx H3=>te σ H3 λy H4=>tip x y H4 λz H5=>tset o i z H5 λH6=>D.nx σ H6
noncomputable def PGet(X:Cx)(t:V→V→Hp→VK→Prop):Prop:=
 ∀(pins:List (Addr×Obj)) (s:Shared) (σ:St) (H:Hp) (o i:V) (ov iv:Value) (Q:VK),Inv X pins σ H s→RelV o ov→RelV i iv→t o i H Q→
  wpAny (model X.prog X.w) X.A (getItem ov iv) (EP X pins σ Q) X.xe s
theorem q3L{o i e:Expr}{to ti te:TE}{tget:V→V→Hp→VK→Prop}{tip:TIp}{tset:TSet}{op:Operator}{tpos:Pos}(ho:PE X o to)(hi:PE X i ti)(hg:PGet X tget)(he:PE X e te)(hp:PIp X op tip)(hs:PSet X tset)
 (ha:∀ov iv new,augStore i ov iv new=(do holding [new,ov,iv] (setItem ov iv new);release [new,ov,iv] [];pure .next):=by intros;rfl):PS X (.AugAssign (.Subscript o i tpos) op e pos) (qJR to ti te tget tip tset):=by
 intro pins s σ H D I h
 refine wpAny_AugAssign_SubscriptAny (thn (ho pins s σ H _ I h) λov s1 hZ=>?_) ha
 obtain⟨x1,H1,I1,r1,q1⟩:=hZ
 refine thn (hi pins s1 σ H1 _ I1 q1) λiv s2 hZ=>?_
 obtain⟨x2,H2,I2,r2,q2⟩:=hZ
 refine thn (hg pins s2 σ H2 x1 x2 ov iv _ I2 r1 r2 q2) λold s3 hZ=>?_
 obtain⟨x3,H3,I3,r3,q3⟩:=hZ
 refine thn (he pins s3 σ H3 _ I3 q3) λv s4 hZ=>?_
 obtain⟨x4,H4,I4,r4,q4⟩:=hZ
 refine thn (hp pins s4 σ H4 x3 x4 old v _ I4 r3 r4 q4) λnew s5 hZ=>?_
 obtain⟨x5,H5,I5,r5,q5⟩:=hZ
 exact thn (hs pins s5 σ H5 x1 x2 x5 ov iv new _ I5 r1 r2 r5 q5) λ_ s6 ⟨H6,I6,q6⟩=>⟨σ,H6,I6,q6⟩
noncomputable def ipI(f:Int→Int→Int):TIp:=λx y H Q=>∃i j,x=.int i∧y=.int j∧Q (.int (f i j)) H
theorem q5D:PIp X .Add (ipI λi j=>i+j):=by
 intro pins s σ H x y v u Q I r1 r2 h
 obtain⟨i,j,e1,e2,q⟩:=h
 subst e1;subst e2
 obtain⟨t,rfl⟩:=r1
 obtain⟨t',rfl⟩:=r2
 exact iadd_int ⟨.int _,H,I.tok _,⟨_,rfl⟩,q⟩
theorem qHP:PIp X .Sub (ipI λi j=>i-j):=by
 intro pins s σ H x y v u Q I r1 r2 h
 obtain⟨i,j,e1,e2,q⟩:=h
 subst e1;subst e2
 obtain⟨t,rfl⟩:=r1
 obtain⟨t',rfl⟩:=r2
 exact isub_int ⟨.int _,H,I.tok _,⟨_,rfl⟩,q⟩
end
section
variable{X:Cx}{pos:Pos}
noncomputable def qHQ(c:TT)(tb:TS):TS:=λD σ H=>∃W:Nat→St→Hp→Prop,(∃m,W m σ H)∧∀m σ H,W m σ H→
 c σ H λb H1=>if b=true then ∃N:St→Hp→Prop,(∀σ' H',N σ' H'→∃m',m'<m∧W m' σ' H')∧tb { D with nx:=N,ct:=N,bk:=D.nx } σ H1 else D.nx σ H1
theorem q8R{c:Expr}{body:List Stmt}{tc:TT}{tb:TS}(hp:PassesOwn (model X.prog X.w) X.A X.env X.xe)(hc:PT X c tc)(hb:PSs X body tb):PS X (.While c body [] pos) (qHQ tc tb):=by
 intro pins s σ H D I h
 obtain⟨W,⟨m0,w0⟩,turn⟩:=h
 refine wpAny_While (codeAny_whileLoop (λn s'=>∃σ' H',Inv X pins σ' H' s'∧W n σ' H') ?_ m0 ⟨σ,H,I,w0⟩)
 rintro n s1 ⟨σ1,H1,I1,w1⟩
 refine rQ hp (thn (hc pins s1 σ1 H1 _ I1 (turn n σ1 H1 w1)) λb s2 hZ=>?_)
 obtain⟨H2,I2,q2⟩:=hZ
 cases b with
 |true=>
  obtain⟨N,hN,q2⟩:=q2
  rw[kI rfl]
  refine rQ hp (thn (hb pins s2 σ1 H2 _ I2 q2) λf s3 q3=>?_)
  cases f with
  |next=>
   obtain⟨σ3,H3,I3,n3⟩:=q3
   obtain⟨m',hm,w3⟩:=hN σ3 H3 n3
   exact⟨m',hm,σ3,H3,I3,w3⟩
  |cont=>
   obtain⟨σ3,H3,I3,n3⟩:=q3
   obtain⟨m',hm,w3⟩:=hN σ3 H3 n3
   exact⟨m',hm,σ3,H3,I3,w3⟩
  |brk=>exact q3
  |ret v=>exact q3
 |false=>
  rw[kF kO]
  exact pG ⟨σ1,H2,I2,q2⟩
end
structure It where
 go:Nat→Hp→Prop
 yld:Nat→Hp→V→Hp→Prop
 stop:Nat→Hp→Prop
noncomputable def FpOk(X:Cx)(pins:List (Addr×Obj))(H:Hp)(b:Addr):Prop:=
 H b=none∧b≠X.env.locals∧b∉X.fs∧(b∈X.ex∨X.s₀.heap.objs.size≤b)∧(∀x c,X.env.cells.lookup x=some c→c≠b)∧∀p∈X.pn++pins,p.1≠b
theorem Inv.fpOk{X:Cx}{pins:List (Addr×Obj)}{σ:St}{H H':Hp}{s:Shared}{b:Addr}(I:Inv X pins σ H s)(hb:s.heap.objs.size≤b)(hn:H' b=none):FpOk X pins H' b:=by
 refine⟨hn,rG (mY I.lt hb),I.nofs hb,.inr (mF I.sz hb),λx c e z=>?_,λp hp z=>?_⟩
 ·obtain⟨v,q⟩:=I.cell x c e
  exact absurd (mY q.lt (by rw[z];exact hb)) (dZ _)
 ·exact absurd (mY (kX (I.pin p hp).1) (by rw[z];exact hb)) (dZ _)
structure Turn(P:Program)(w:World)(K:PySem.W.Frag)(tg:Expr)(J:It)(fp:List Addr)(it:Addr)(tn:Nat→Heap→Prop):Prop where
 mem:it∈fp
 obj:∀i h,tn i h→∀b∈fp,∃o,h.get? b=some o∧∀v,o.data≠ .cell v
 keep:∀i h h',tn i h→(∀b∈fp,∀o,h.get? b=some o→h'.get? b=some o)→tn i h'
 item:∀(X:Cx),X.prog=P→X.w=w→X.K=K→X.calm=true→∀(i:Nat) (pins:List (Addr×Obj)) (s:Shared) (σ:St) (H:Hp) (E:Value→Shared→Prop),Inv X pins σ H s→(∀b∈fp,FpOk X pins H b)→tn i s.heap→J.go i H→
  wpAny (model P w) X.A (pyNext (.ref it)) (λr s1=>∃u,r=some u∧
   wpAny (model P w) X.A (letOwnedTupleGo tg (.ref it) u) (λ_ s2=>∃x H',Inv X pins σ H' s2∧RelV x u∧J.yld i H x H'∧tn (i+1) s2.heap∧∀b∈fp,H' b=none) E s1) E s
 done:∀(X:Cx),X.prog=P→X.w=w→X.K=K→X.calm=true→∀(i:Nat) (pins:List (Addr×Obj)) (s:Shared) (σ:St) (H:Hp) (E:Value→Shared→Prop),Inv X pins σ H s→(∀b∈fp,FpOk X pins H b)→tn i s.heap→J.stop i H→
  wpAny (model P w) X.A (pyNext (.ref it)) (λr s1=>r=none∧Inv X pins σ H s1) E s
 self:∀(A:Around) (i:Nat) (s:Shared) (Q:Value→Shared→Prop) (E:Value→Shared→Prop),tn i s.heap→Q (.ref it) s→wpAny (model P w) A (pyIter (.ref it)) Q E s
noncomputable abbrev TI:=St→Hp→(It→Hp→Prop)→Prop
noncomputable def PIE(X:Cx)(pins:List (Addr×Obj))(σ:St)(tg:Expr)(R:It→Hp→Prop)(itv:Value)(s2:Shared):Prop:=
 ∃(it:Addr) (fp:List Addr) (tn:Nat→Heap→Prop) (J:It) (H':Hp),itv=.ref it∧Inv X pins σ H' s2∧Turn X.prog X.w X.K tg J fp it tn∧tn 0 s2.heap∧(∀b∈fp,FpOk X pins H' b)∧R J H'
noncomputable def PI(X:Cx)(tg iter:Expr)(wi:TI):Prop:=
 ∀(pins:List (Addr×Obj)) (s:Shared) (σ:St) (H:Hp) (R:It→Hp→Prop),Inv X pins σ H s→wi σ H R→
  wpAny (model X.prog X.w) X.A (eval iter X.env) (λv s1=>wpAny (model X.prog X.w) X.A (pyIter v) (PIE X pins σ tg R) X.xe s1) X.xe s
theorem qCU{M:Model}{A:Around}{E:Value→Shared→Prop}{s:Shared}{tg:Expr}{it:Addr}{u:Value}{o:Obj}{n:String}{vs:Array Value}{Q:Unit→Shared→Prop}(ho:s.heap.get? it=some o)(hc:o.cls=.type n)(hd:o.data=.fields vs)
 (hn:["enumerate","zip","dict_itemiterator","dict_reverseitemiterator","odict_iterator","itertools.zip_longest","itertools.pairwise"].contains n=false) (hQ:Q () s):wpAny M A (letOwnedTupleGo tg (.ref it) u) Q E s:=by
 unfold letOwnedTupleGo
 cases tg<;>first
  |exact mB hQ
  |(cases u<;>first
   |exact mB hQ
   |(refine kB (wpAny_load ho ?_)
     rw[hc,hd]
     show wpAny M A (if(["enumerate","zip","dict_itemiterator","dict_reverseitemiterator","odict_iterator","itertools.zip_longest","itertools.pairwise"].contains n&&vs[0]?==some (rawInt _))=true then _ else _) Q E s
     rw[kF (by intro h;rw[hn,Bool.false_and]at h;cases h)]
     exact mB hQ))
noncomputable def Itl(K:PySem.W.Frag)(a:Addr):It:=
 ⟨λi H=>∃xs x,SqL K H a xs∧xs[i]?=some x,λi H x H'=>H'=H∧∀xs,SqL K H a xs→xs[i]?=some x,λi H=>∃xs,SqL K H a xs∧xs.length≤i⟩
noncomputable def Itr(lo:Int)(n:Nat):It:=⟨λi _=>i<n,λi H x H'=>H'=H∧x=.int (lo+i),λi _=>n≤i⟩
theorem qC1{P:Program}{w:World}{K:PySem.W.Frag}{tg:Expr}(a it:Addr):Turn P w K tg (Itl K a) [it] it (λi h=>h.IsListIter it a i) where
 mem:=by simp
 obj:=λi h st b hb=>by
  have e:b=it:=by simpa using hb
  subst e
  obtain⟨o,e,c,d⟩:=st
  exact⟨o,e,λv z=>by rw[d]at z;cases z⟩
 keep:=λi h h' st k=>st.at λo e=>k it (by simp) o e
 item:=by
  intro X hP hw hK hc i pins s σ H E I hf st hg
  subst hP hw hK
  obtain⟨xs,x,hq,hx⟩:=hg
  obtain⟨its,rv,p,hz⟩:=I.list hq
  obtain⟨u,hu,ru⟩:=rv.get hx
  obtain⟨f0,f1,f2,f3,f4,f5⟩:=hf it (by simp)
  refine wpAny_pyNext_list_item st p.isList (x:=u) (by simpa using hu) λh' st' sb=>?_
  have I1:Inv X pins σ H { s with heap:=h' }:=I.turned (t':=s.toks) (λb o hb e=>(sb.2 b hb).trans e) f0 f1 f3 f4 f5
  obtain⟨o,e,c,d⟩:=id st'
  exact⟨u,rfl,qCU (s:={ s with heap:=h' }) e c d (by decide) ⟨x,H,I1,ru,⟨rfl,λys hy=>by rw[I.list_inj hy hq];exact hx⟩,st',λb hb=>(hf b hb).1⟩⟩
 done:=by
  intro X hP hw hK hc i pins s σ H E I hf st hg
  subst hP hw hK
  obtain⟨xs,hq,hx⟩:=hg
  obtain⟨its,rv,p,hz⟩:=I.list hq
  obtain⟨f0,f1,f2,f3,f4,f5⟩:=hf it (by simp)
  have hl:=rv.length
  exact wpAny_pyNext_list_end (I.ok.hd hc) st p.isList (by simp;omega) λh' eb=>⟨rfl,I.turned (t':=s.toks) (λb o hb e=>eb b o hb e) f0 f1 f3 f4 f5⟩
 self:=λ_ _ _ _ _ st h=>wpAny_pyIter_listiter st h
theorem qA5{P:Program}{w:World}{K:PySem.W.Frag}{tg:Expr}(it:Addr)(lo:Int)(n:Nat):Turn P w K tg (Itr lo n) [it] it (λi h=>IsRangeIter h it (lo+(i:Nat)*1) ((n:Int)-(i:Nat)) 1) where
 mem:=by simp
 obj:=λi h st b hb=>by
  have e:b=it:=by simpa using hb
  subst e
  exact⟨_,st,λv z=>by
   have z':Data.fields _=Data.cell v:=z
   cases z'⟩
 keep:=λi h h' st k=>k it (by simp) _ st
 item:=by
  intro X hP hw hK hc i pins s σ H E I hf st hg
  subst hP hw hK
  obtain⟨f0,f1,f2,f3,f4,f5⟩:=hf it (by simp)
  have W:=Walks.range (prog:=X.prog) (w:=X.w) (I.ok.hd hc) it lo 1 n
  refine W.item i s _ _ hg st λv h' tk hv st' kk=>?_
  obtain⟨t,rfl⟩:=hv
  have I1:Inv X pins σ H { s with heap:=h',toks:=tk }:=I.turned (λb o hb e=>kk b o (by simpa using hb) e) f0 f1 f3 f4 f5
  refine⟨_,rfl,qCU (s:={ s with heap:=h',toks:=tk }) (n:="range_iterator") st' rfl rfl (by decide) ⟨.int (lo+i),H,I1,⟨t,?_⟩,⟨rfl,rfl⟩,st',λb hb=>(hf b hb).1⟩⟩
  rw[Int.mul_one]
 done:=by
  intro X hP hw hK hc i pins s σ H E I hf st hg
  subst hP hw hK
  obtain⟨f0,f1,f2,f3,f4,f5⟩:=hf it (by simp)
  exact wpAny_pyNext_range_end (I.ok.hd hc) st (by have:n≤i:=hg;omega) λh' eb=>⟨rfl,I.turned (t':=s.toks) (λb o hb e=>eb b o hb e) f0 f1 f3 f4 f5⟩
 self:=λ_ _ _ _ _ st h=>wpAny_pyIter_rangeiter st h
section
variable{X:Cx}{tg:Expr}
noncomputable def qJS(K:PySem.W.Frag)(tl:TE):TI:=λσ H R=>tl σ H λx H1=>∃a,x=.ref a∧(∃xs,SqL K H1 a xs)∧R (Itl K a) H1
theorem y8{l:Expr}{tl:TE}(hl:PE X l tl):PI X tg l (qJS X.K tl):=by
 intro pins s σ H R I h
 refine thn (hl pins s σ H _ I h) λv s1 hZ=>?_
 obtain⟨x,H1,I1,r1,q1⟩:=hZ
 obtain⟨a,e,⟨xs,hq⟩,q⟩:=q1
 subst e
 cases r1
 obtain⟨its,rv,p,hz⟩:=I1.list hq
 refine wpAny_pyIter_list p.isList ?_
 refine⟨s1.heap.objs.size,[s1.heap.objs.size],_,_,H1,rfl,I1.kept (t':=s1.toks) λb o e=>kC _ e,qC1 a _,⟨_,mI _ rfl,rfl,rfl⟩,λb hb=>?_,q⟩
 have e:b=s1.heap.objs.size:=by simpa using hb
 subst e
 exact I1.fpOk (kM _) (I1.hok.fresh (kM _))
theorem q8S{pins:List (Addr×Obj)}{σ:St}{H:Hp}{s:Shared}{R:It→Hp→Prop}{E:Value→Shared→Prop}{lo hi:Int}{t u v:Tok}{tk:Nat}(I:Inv X pins σ H s)(h1:-(2 ^ 62)≤lo)(h2:lo<2 ^ 62)(h3:-(2 ^ 62)≤hi)(h4:hi<2 ^ 62)
 (q:R (Itr lo (hi-lo).toNat) H):wpAny (model X.prog X.w) X.A (pyIter (.ref s.heap.objs.size)) (PIE X pins σ tg R) E { s with heap:=s.heap.push { cls:=.type "range",data:=.fields #[.int lo t,.int hi u,.int 1 v] },toks:=tk }:=by
 refine wpAny_pyIter_range (IsRange.new ..) (small_one h1 h2 h3 h4) ?_
 have I1:Inv X pins σ H { s with heap:=s.heap.push { cls:=.type "range",data:=.fields #[.int lo t,.int hi u,.int 1 v] },toks:=tk }:=I.kept λb o e=>kC _ e
 refine⟨(s.heap.push { cls:=.type "range",data:=.fields #[.int lo t,.int hi u,.int 1 v] }).objs.size,[(s.heap.push { cls:=.type "range",data:=.fields #[.int lo t,.int hi u,.int 1 v] }).objs.size],_,_,H,rfl,
  I1.kept (t':=tk) λb o e=>kC _ e,qA5 _ lo (hi-lo).toNat,?_,λb hb=>?_,q⟩
 ·have e1:lo+((0:Nat):Int)*1=lo:=by simp
  have e2:(((hi-lo).toNat:Nat):Int)-((0:Nat):Int)=Builtin.Range.rangeSize lo hi 1:=by rw[rangeSize_one];split<;>omega
  show IsRangeIter _ _ (lo+((0:Nat):Int)*1) ((((hi-lo).toNat:Nat):Int)-((0:Nat):Int)) 1
  rw[e1,e2]
  exact mI _ rfl
 ·have e:b=(s.heap.push { cls:=.type "range",data:=.fields #[.int lo t,.int hi u,.int 1 v] }).objs.size:=by simpa using hb
  subst e
  exact I1.fpOk (kM _) (I1.hok.fresh (kM _))
noncomputable def qJT(ta:TA):TI:=λσ H R=>ta σ H λvs H1=>∃j:Int,vs=[.int j]∧-(2 ^ 62)≤j∧j<2 ^ 62∧R (Itr 0 j.toNat) H1
noncomputable def qJU(ta:TA):TI:=λσ H R=>ta σ H λvs H1=>∃i j:Int,vs=[.int i,.int j]∧(-(2 ^ 62)≤i∧i<2 ^ 62∧-(2 ^ 62)≤j∧j<2 ^ 62)∧R (Itr i (j-i).toNat) H1
theorem q09{a:Expr}{ta:TA}{p pos:Pos}(hg:Gl X "range")(hm:X.mg "range"=none)(ha:PA X [a] ta)(hs:starEach [a] X.env=[(false,eval a X.env)]:=by rfl):PI X tg (.Call (.Name "range" p) [a] [] pos) (qJT ta):=by
 intro pins s σ H R I h
 refine Call_ (q1B I hg hm boot_range (wP (thn (ha pos pins s σ H _ I h) λus s1 hZ=>?_) hs rfl))
 obtain⟨vs,H1,I1,r1,q1⟩:=hZ
 obtain⟨j,e,q1,q2,q⟩:=q1
 subst e
 cases r1 with
 |cons r rr=>
  cases rr
  obtain⟨t,rfl⟩:=r
  exact call_range_1 (q8S I1 (by omega) (by omega) q1 q2 (by simpa using q))
theorem q41{a b:Expr}{ta:TA}{p pos:Pos}(hg:Gl X "range")(hm:X.mg "range"=none)(ha:PA X [a,b] ta)(hs:starEach [a,b] X.env=[(false,eval a X.env),(false,eval b X.env)]:=by rfl)(hs2:starEach [b] X.env=[(false,eval b X.env)]:=by rfl):
 PI X tg (.Call (.Name "range" p) [a,b] [] pos) (qJU ta):=by
 intro pins s σ H R I h
 refine Call_ (q1B I hg hm boot_range (wP (thn (ha pos pins s σ H _ I h) λus s1 ⟨vs,H1,I1,r1,q1⟩=>?_) (by rw[hs,hs2]) (by rw[hs2];rfl)))
 obtain⟨i,j,e,⟨q1,q2,q3,q4⟩,q⟩:=q1
 subst e
 cases r1 with
 |cons r rr=>
  cases rr with
  |cons r' rr=>
   cases rr
   obtain⟨t,rfl⟩:=r
   obtain⟨t',rfl⟩:=r'
   exact call_range_2 (q8S I1 q1 q2 q3 q4 q)
noncomputable def tFor(wi:TI)(g:TG)(tb:TS):TS:=λD σ H=>wi σ H λJ H1=>∃W:Nat→Nat→St→Hp→Prop,(∃m,W 0 m σ H1)∧∀i m σ H,W i m σ H→
 (J.stop i H∧D.nx σ H)∨(J.go i H∧∃N:St→Hp→Prop,(∀σ' H',N σ' H'→∃m',m'<m∧W (i+1) m' σ' H')∧∀x H',J.yld i H x H'→g x σ H' λσ2 H2=>tb { D with nx:=N,ct:=N,bk:=D.nx } σ2 H2)
noncomputable def q42(fp:List Addr)(h:Heap):List (Addr×Obj):=fp.filterMap λb=>(h.get? b).map λo=>(b,o)
theorem jT{fp:List Addr}{h:Heap}{b:Addr}{o:Obj}(hb:b∈fp)(e:h.get? b=some o):(b,o)∈q42 fp h:=wE.mpr ⟨b,hb,by rw[e];rfl⟩
theorem qC2{fp:List Addr}{h:Heap}{p:Addr×Obj}(hp:p∈q42 fp h):p.1∈fp∧h.get? p.1=some p.2:=by
 obtain⟨b,hb,e⟩:=wE.mp hp
 cases q:h.get? b with
 |none=>rw[q]at e;cases e
 |some o=>
  rw[q]at e
  have e':(b,o)=p:=kQ e
  subst e'
  exact⟨hb,q⟩
theorem Inv.pinned{pins:List (Addr×Obj)}{σ:St}{H:Hp}{s:Shared}{fp:List Addr}(I:Inv X pins σ H s)(hf:∀b∈fp,FpOk X pins H b)(ho:∀b∈fp,∃o,s.heap.get? b=some o∧∀v,o.data≠ .cell v):Inv X (pins++q42 fp s.heap) σ H s:=
 I.pins_of λp hp=>(gO.mp hp).elim (λz=>I.pin p (kN _ z)) λz=>by
  obtain⟨hb,e⟩:=qC2 z
  obtain⟨f0,f1,f2,_⟩:=hf p.1 hb
  obtain⟨o,e',d⟩:=ho p.1 hb
  rw[e]at e';cases e'
  exact⟨e,f0,f1,f2,d⟩
theorem Inv.unpinned{pins pl:List (Addr×Obj)}{σ:St}{H:Hp}{s:Shared}(I:Inv X (pins++pl) σ H s):Inv X pins σ H s:=I.pins_of λp hp=>I.pin p (kN _ (dD _ hp))
theorem uO{iter:Expr}{body:List Stmt}{wi:TI}{g:TG}{tb:TS}{pos:Pos}(hp:PassesOwn (model X.prog X.w) X.A X.env X.xe)(hc:X.calm=true)(hi:PI X tg iter wi)(hg:PG X tg g)(hb:PSs X body tb)
 (hs:∀x,foldedSetIterable iter X.env x=pure x:=by intro _;rfl):PS X (.For tg iter body [] pos) (tFor wi g tb):=by
 intro pins s σ H D I h
 refine wpAny_For (thn (hi pins s σ H _ I h) λv s1 h1=>thn h1 λitv s2 h2=>?_) hs
 obtain⟨it,fp,tn,J,H2,e,I2,T,st2,f2,W,⟨m0,w0⟩,turn⟩:=h2
 subst e
 have stat:∀{H':Hp},(∀b∈fp,H' b=none)→∀b∈fp,FpOk X pins H' b:=λhn b hb=>⟨hn b hb,(f2 b hb).2⟩
 refine codeAny_forLoop_any (λn s'=>∃i σ' H',Inv X pins σ' H' s'∧tn i s'.heap∧(∀b∈fp,H' b=none)∧W i n σ' H') ?_ m0 ⟨0,σ,H2,I2,st2,λb hb=>(f2 b hb).1,w0⟩
 rintro n s3 ⟨i,σ3,H3,I3,st3,fr3,w3⟩
 rcases turn i n σ3 H3 w3 with⟨stop,qn⟩|⟨go,N,hN,step⟩
 ·refine rQ hp (thn (T.done X rfl rfl rfl hc i pins s3 σ3 H3 X.xe I3 (stat fr3) st3 stop) λr s4 hZ=>?_)
  obtain⟨hr,I4⟩:=hZ
  subst hr
  exact pG ⟨σ3,H3,I4,qn⟩
 ·refine rQ hp (thn (T.item X rfl rfl rfl hc i pins s3 σ3 H3 X.xe I3 (stat fr3) st3 go) λr s4 hZ=>?_)
  obtain⟨u,hr,h4⟩:=hZ
  subst hr
  refine rQ hp (thn h4 λ_ s5 hZ=>?_)
  obtain⟨x,H5,I5,r5,y5,st5,fr5⟩:=hZ
  have I5':=I5.pinned (stat fr5) (T.obj _ _ st5)
  refine rQ hp (thn (hg _ s5 σ3 H5 x u _ I5' r5 (step x H5 y5)) λ_ s6 hZ=>?_)
  obtain⟨σ6,H6,I6,q6⟩:=hZ
  refine rQ hp (thn (hb _ s6 σ6 H6 _ I6 q6) λf s7 q7=>?_)
  have again:∀{σ7:St} {H7:Hp},Inv X (pins++q42 fp s5.heap) σ7 H7 s7→N σ7 H7→∃m,m<n∧∃i σ' H',Inv X pins σ' H' s7∧tn i s7.heap∧(∀b∈fp,H' b=none)∧W i m σ' H':=fun {σ7 H7} I7 n7=>by
   obtain⟨m',hm,w7⟩:=hN σ7 H7 n7
   refine⟨m',hm,i+1,σ7,H7,I7.unpinned,T.keep _ _ _ st5 λb hb o e=>(I7.pin (b,o) (kN _ (kN _ (jT hb e)))).1,λb hb=>?_,w7⟩
   obtain⟨o,e,d⟩:=T.obj _ _ st5 b hb
   exact(I7.pin (b,o) (kN _ (kN _ (jT hb e)))).2.1
  cases f with
  |next=>obtain⟨σ7,H7,I7,n7⟩:=q7;exact again I7 n7
  |cont=>obtain⟨σ7,H7,I7,n7⟩:=q7;exact again I7 n7
  |brk=>obtain⟨σ7,H7,I7,q7⟩:=q7;exact⟨σ7,H7,I7.unpinned,q7⟩
  |ret v=>obtain⟨x7,σ7,H7,I7,r7,q7⟩:=q7;exact⟨x7,σ7,H7,I7.unpinned,r7,q7⟩
end
theorem uP{K:PySem.W.Frag}{a:Addr}{xs:List V}{g:TG}{tb:TS}{D:Ends}{σ:St}{H:Hp}(Pv:Nat→St→Hp→Prop)(h0:Pv 0 σ H)(hl:∀i σ H,i≤xs.length→Pv i σ H→SqL K H a xs)
 (hs:∀i x σ H,xs[i]?=some x→Pv i σ H→g x σ H λσ2 H2=>tb { D with nx:=Pv (i+1),ct:=Pv (i+1),bk:=D.nx } σ2 H2) (hd:∀σ H,Pv xs.length σ H→D.nx σ H):
 ∃W:Nat→Nat→St→Hp→Prop,(∃m,W 0 m σ H)∧∀i m σ H,W i m σ H→
  ((Itl K a).stop i H∧D.nx σ H)∨((Itl K a).go i H∧∃N:St→Hp→Prop,(∀σ' H',N σ' H'→∃m',m'<m∧W (i+1) m' σ' H')∧∀x H',(Itl K a).yld i H x H'→g x σ H' λσ2 H2=>tb { D with nx:=N,ct:=N,bk:=D.nx } σ2 H2):=by
 refine⟨λi m σ H=>m=xs.length-i∧i≤xs.length∧Pv i σ H,⟨xs.length,by simp,mO _,h0⟩,?_⟩
 rintro i m σ H ⟨rfl,hi,p⟩
 have q:=hl i σ H hi p
 by_cases hlt:i<xs.length
 ·refine .inr ⟨⟨xs,xs[i],q,by simp[hlt]⟩,Pv (i+1),λσ' H' p'=>⟨xs.length-(i+1),by omega,rfl,hlt,p'⟩,λx H' y=>?_⟩
  obtain⟨e,y⟩:=y
  subst e
  exact hs i x σ _ (y xs q) p
 ·have e:i=xs.length:=by omega
  subst e
  exact .inl ⟨⟨xs,q,kM _⟩,hd σ H p⟩
theorem q0A{lo:Int}{n:Nat}{g:TG}{tb:TS}{D:Ends}{σ:St}{H:Hp}(Pv:Nat→St→Hp→Prop)(h0:Pv 0 σ H)
 (hs:∀i σ H,i<n→Pv i σ H→g (.int (lo+i)) σ H λσ2 H2=>tb { D with nx:=Pv (i+1),ct:=Pv (i+1),bk:=D.nx } σ2 H2) (hd:∀σ H,Pv n σ H→D.nx σ H):
 ∃W:Nat→Nat→St→Hp→Prop,(∃m,W 0 m σ H)∧∀i m σ H,W i m σ H→
  ((Itr lo n).stop i H∧D.nx σ H)∨((Itr lo n).go i H∧∃N:St→Hp→Prop,(∀σ' H',N σ' H'→∃m',m'<m∧W (i+1) m' σ' H')∧∀x H',(Itr lo n).yld i H x H'→g x σ H' λσ2 H2=>tb { D with nx:=N,ct:=N,bk:=D.nx } σ2 H2):=by
 refine⟨λi m σ H=>m=n-i∧i≤n∧Pv i σ H,⟨n,by simp,mO _,h0⟩,?_⟩
 rintro i m σ H ⟨rfl,hi,p⟩
 by_cases hlt:i<n
 ·refine .inr ⟨hlt,Pv (i+1),λσ' H' p'=>⟨n-(i+1),by omega,rfl,hlt,p'⟩,λx H' y=>?_⟩
  obtain⟨e,y⟩:=y
  subst e y
  exact hs i σ _ hlt p
 ·have e:i=n:=by omega
  subst e
  exact .inl ⟨kM _,hd σ H p⟩
noncomputable abbrev R2:=V→V→Hp→VK→Prop
noncomputable def OpR(X:Cx)(f:Value→Value→Sem Value)(r:R2):Prop:=
 ∀(pins:List (Addr×Obj)) (s:Shared) (σ:St) (H:Hp) (x y:V) (v u:Value) (Q:VK),Inv X pins σ H s→RelV x v→RelV y u→r x y H Q→
  wpAny (model X.prog X.w) X.A (f v u) (EP X pins σ Q) X.xe s
noncomputable def UnR(X:Cx)(f:Value→Sem Value)(r:V→Hp→VK→Prop):Prop:=
 ∀(pins:List (Addr×Obj)) (s:Shared) (σ:St) (H:Hp) (x:V) (v:Value) (Q:VK),Inv X pins σ H s→RelV x v→r x H Q→
  wpAny (model X.prog X.w) X.A (f v) (EP X pins σ Q) X.xe s
noncomputable def q1D(X:Cx)(f:Value)(r:List V→Hp→VK→Prop):Prop:=
 ∀(pins:List (Addr×Obj)) (s:Shared) (σ:St) (H:Hp) (xs:List V) (us:List Value) (Q:VK),Inv X pins σ H s→Vals xs us→r xs H Q→
  wpAny (model X.prog X.w) X.A (call f us) (EP X pins σ Q) X.xe s
noncomputable def tOp(r:R2)(ta tb:TE):TE:=λσ H Q=>ta σ H λx H1=>tb σ H1 λy H2=>r x y H2 Q
noncomputable def tUn(r:V→Hp→VK→Prop)(ta:TE):TE:=λσ H Q=>ta σ H λx H1=>r x H1 Q
noncomputable def rI(C:Int→Int→Prop)(g:Int→Int→V):R2:=λx y H Q=>∃i j,x=.int i∧y=.int j∧C i j∧Q (g i j) H
noncomputable def rI0(g:Int→Int→V):R2:=λx y H Q=>∃i j,x=.int i∧y=.int j∧Q (g i j) H
noncomputable def rU(g:Int→V):V→Hp→VK→Prop:=λx H Q=>∃i,x=.int i∧Q (g i) H
section
variable{X:Cx}{a b c:Expr}{ta tb tc:TE}{pos:Pos}
theorem binT(ha:PE X a ta)(hb:PE X b tb){pins:List (Addr×Obj)}{s:Shared}{σ:St}{H:Hp}{R:V→V→Hp→Prop}(I:Inv X pins σ H s)
 (h:ta σ H λx H1=>tb σ H1 λy H2=>R x y H2) {Q:Value→Shared→Prop} {f:Value→Value→Sem Value}
 (hf:∀v u s2 x y H2,Inv X pins σ H2 s2→RelV x v→RelV y u→R x y H2→wpAny (model X.prog X.w) X.A (f v u) Q X.xe s2):
 wpAny (model X.prog X.w) X.A (eval a X.env) (λv s₁=>wpAny (model X.prog X.w) X.A (eval b X.env) (λu s₂=>wpAny (model X.prog X.w) X.A (f v u) Q X.xe s₂) X.xe s₁) X.xe s:=by
 refine thn (ha pins s σ H _ I h) λv s1 hZ=>?_
 obtain⟨x,H1,I1,r1,q1⟩:=hZ
 refine thn (hb pins s1 σ H1 _ I1 q1) λu s2 hZ=>?_
 obtain⟨y,H2,I2,r2,q2⟩:=hZ
 exact hf v u s2 x y H2 I2 r1 r2 q2
theorem qM{op:Operator}{r:R2}(ho:OpR X (binaryOp op) r)(ha:PE X a ta)(hb:PE X b tb):PE X (.BinOp a op b pos) (tOp r ta tb):=by
 intro pins s σ H Q I h
 exact wpAny_BinOp (binT ha hb I h λv u s2 x y H2 I2 rx ry q=>ho pins s2 σ H2 x y v u Q I2 rx ry q)
theorem qJV{op:UnaryOp}{r:V→Hp→VK→Prop}(ho:UnR X (unaryOp op) r)(ha:PE X a ta):PE X (.UnaryOp op a pos) (tUn r ta):=by
 intro pins s σ H Q I h
 exact UnaryOp_ (thn (ha pins s σ H _ I h) λv s1 ⟨x,H1,I1,r1,q1⟩=>ho pins s1 σ H1 x v Q I1 r1 q1)
theorem opI{f:Value→Value→Sem Value}{C:Int→Int→Prop}{g:Int→Int→Int}
 (rule:∀(i j:Int) (t u:Tok) (s:Shared) (Q:Value→Shared→Prop) (E:Value→Shared→Prop),C i j→Q (.int (g i j) s.toks) { s with toks:=s.toks+1 }→wpAny (model X.prog X.w) X.A (f (.int i t) (.int j u)) Q E s):
 OpR X f (rI C λi j=>.int (g i j)):=by
 intro pins s σ H x y v u Q I rx ry h
 obtain⟨i,j,rfl,rfl,hc,q⟩:=h
 obtain⟨t,rfl⟩:=rx
 obtain⟨t',rfl⟩:=ry
 exact rule i j t t' s _ _ hc ⟨.int (g i j),H,I.tok _,⟨_,rfl⟩,q⟩
theorem opI0{f:Value→Value→Sem Value}{g:Int→Int→Int}
 (rule:∀(i j:Int) (t u:Tok) (s:Shared) (Q:Value→Shared→Prop) (E:Value→Shared→Prop),Q (.int (g i j) s.toks) { s with toks:=s.toks+1 }→wpAny (model X.prog X.w) X.A (f (.int i t) (.int j u)) Q E s):
 OpR X f (rI0 λi j=>.int (g i j)):=by
 intro pins s σ H x y v u Q I rx ry h
 obtain⟨i,j,rfl,rfl,q⟩:=h
 obtain⟨t,rfl⟩:=rx
 obtain⟨t',rfl⟩:=ry
 exact rule i j t t' s _ _ ⟨.int (g i j),H,I.tok _,⟨_,rfl⟩,q⟩
theorem opB0{f:Value→Value→Sem Value}{g:Int→Int→Bool}
 (rule:∀(i j:Int) (t u:Tok) (s:Shared) (Q:Value→Shared→Prop) (E:Value→Shared→Prop),Q (.bool (g i j)) s→wpAny (model X.prog X.w) X.A (f (.int i t) (.int j u)) Q E s):
 OpR X f (rI0 λi j=>.bl (g i j)):=by
 intro pins s σ H x y v u Q I rx ry h
 obtain⟨i,j,rfl,rfl,q⟩:=h
 obtain⟨t,rfl⟩:=rx
 obtain⟨t',rfl⟩:=ry
 exact rule i j t t' s _ _ ⟨.bl (g i j),H,I,rfl,q⟩
noncomputable def CDiv(i j:Int):Prop:=0<j∧j<1073741824
noncomputable def CPow(i j:Int):Prop:=0≤j∧j≤1000000∧i.natAbs<2 ^ 64
noncomputable def CMul(i j:Int):Prop:=(-(2 ^ 64)<i∧i<2 ^ 64)∨(-(2 ^ 64)<j∧j<2 ^ 64)
theorem CMul.ok{i j:Int}(h:CMul i j):IntMulOk i j:=by
 rcases h with⟨h1,h2⟩|⟨h1,h2⟩
 ·exact .of_left (intBits_le_64 h1 h2)
 ·exact .of_right (intBits_le_64 h1 h2)
theorem yC:OpR X (binaryOp .Add) (rI0 λi j=>.int (i+j)):=opI0 λ_ _ _ _ _ _ _ q=>add_int q
theorem y9:OpR X (binaryOp .Sub) (rI0 λi j=>.int (i-j)):=opI0 λ_ _ _ _ _ _ _ q=>sub_int q
theorem yS:OpR X (binaryOp .Mult) (rI CMul λi j=>.int (i*j)):=opI λ_ _ _ _ _ _ _ hc q=>mul_int q hc.ok
theorem uQ:OpR X (binaryOp .FloorDiv) (rI CDiv λi j=>.int (i / j)):=opI λi j _ _ _ _ _ hc q=>by
 have h1:(0:Int)<j:=hc.1
 have h2:j<1073741824:=hc.2
 exact floordiv_int (by omega) (by rw[Int.fdiv_eq_ediv_of_nonneg i (by omega)];exact q) (.inl (PyProof.noPylong_small (by omega)))
theorem yT:OpR X (binaryOp .Mod) (rI (λ_ j=>0<j) λi j=>.int (i%j)):=opI λi j _ _ _ _ _ hc q=>by
 have h1:(0:Int)<j:=hc
 exact mod_int' (by omega) (by rw[Int.fmod_eq_emod_of_nonneg i (by omega)];exact q)
theorem qCV:OpR X (binaryOp .Pow) (rI CPow λi j=>.int (i ^ j.toNat)):=opI λ_ _ _ _ _ _ _ hc q=>pow_int_small hc.1 hc.2.1 hc.2.2 q
theorem qHR:OpR X (binaryOp .LShift) (rI CPow λi j=>.int (i*2 ^ j.toNat)):=opI λ_ _ _ _ _ _ _ hc q=>lshift_int_small hc.1 hc.2.1 hc.2.2 q
theorem qJW:OpR X (binaryOp .BitOr) (rI0 λi j=>.int (Builtin.bitOr i j)):=opI0 λ_ _ _ _ _ _ _ q=>or_int q
theorem unI{f:Value→Sem Value}{g:Int→Int}
 (rule:∀(i:Int) (t:Tok) (s:Shared) (Q:Value→Shared→Prop) (E:Value→Shared→Prop),Q (.int (g i) s.toks) { s with toks:=s.toks+1 }→wpAny (model X.prog X.w) X.A (f (.int i t)) Q E s):
 UnR X f (rU λi=>.int (g i)):=by
 intro pins s σ H x v Q I rx h
 obtain⟨i,rfl,q⟩:=h
 obtain⟨t,rfl⟩:=rx
 exact rule i t s _ _ ⟨.int (g i),H,I.tok _,⟨_,rfl⟩,q⟩
theorem qHS:UnR X (unaryOp .USub) (rU λi=>.int (-i)):=unI λ_ _ _ _ _ q=>neg_int q
end
noncomputable def scal:V→V→Bool
 | .non,.non=>true| .non,.int _=>true| .int _,.non=>true| .non,.bl _=>true| .bl _,.non=>true| .non,.str _=>true| .str _,.non=>true
 | .int _,.int _=>true| .bl _,.bl _=>true| .str _,.str _=>true| .byt _,.byt _=>true
 | .int _,.str _=>true| .str _,.int _=>true| .bl _,.str _=>true| .str _,.bl _=>true
 |_,_=>false
noncomputable def rEq:R2:=λx y H Q=>scal x y=true∧Q (.bl (decide (x=y))) H
noncomputable def rNe:R2:=λx y H Q=>scal x y=true∧Q (.bl (!decide (x=y))) H
theorem qAX{i j:Int}:decide (V.int i=V.int j)=(i==j):=by
 rw[wH]
 simp
theorem qCW{i j:Bool}:decide (V.bl i=V.bl j)=(i==j):=by
 rw[wH]
 simp
theorem qAY{i j:Str}:decide (V.str i=V.str j)=(i==j):=by
 rw[wH]
 simp
theorem qAZ{i j:Array UInt8}:decide (V.byt i=V.byt j)=(i.toList==j.toList):=by
 rw[wH]
 cases i
 cases j
 simp
section
variable{X:Cx}{a b c:Expr}{ta tb tc:TE}{pos:Pos}
theorem jI{pins:List (Addr×Obj)}{σ:St}{H:Hp}{s:Shared}{Q:VK}{k k':Bool}(I:Inv X pins σ H s)(q:Q (.bl k) H)(e:k=k'):EP X pins σ Q (.bool k') s:=by
 subst e
 exact⟨.bl k,H,I,rfl,q⟩
theorem vV:OpR X (compareOp .Eq) rEq:=by
 intro pins s σ H x y v u Q I rx ry h
 obtain⟨hs,q⟩:=h
 cases x with
 |non=>
  cases rx
  cases y with
  |non=>cases ry;exact PySem.EqNone.eq_none_none (jI I q (by simp))
  |bl j=>cases ry;exact PySem.EqNone.eq_none_bool (jI I q (by simp))
  |int j=>obtain⟨t',rfl⟩:=ry;exact PySem.EqNone.eq_none_int (jI I q (by simp))
  |str j=>obtain⟨t',rfl⟩:=ry;exact PySem.EqNone.eq_none_str (jI I q (by simp))
  |_=>exact absurd (show false=true from hs) kO
 |bl i=>
  cases rx
  cases y with
  |non=>cases ry;exact PySem.EqNone.eq_bool_none (jI I q (by simp))
  |bl j=>cases ry;exact eq_bool (jI I q qCW)
  |str j=>obtain⟨t',rfl⟩:=ry;exact PySem.EqMixed.eq_bool_str (jI I q (by simp))
  |_=>exact absurd (show false=true from hs) kO
 |int i=>
  obtain⟨t,rfl⟩:=rx
  cases y with
  |non=>cases ry;exact PySem.EqNone.eq_int_none (jI I q (by simp))
  |int j=>obtain⟨t',rfl⟩:=ry;exact eq_int (jI I q qAX)
  |str j=>obtain⟨t',rfl⟩:=ry;exact PySem.EqMixed.eq_int_str (jI I q (by simp))
  |_=>exact absurd (show false=true from hs) kO
 |str i=>
  obtain⟨t,rfl⟩:=rx
  cases y with
  |non=>cases ry;exact PySem.EqNone.eq_str_none (jI I q (by simp))
  |bl j=>cases ry;exact PySem.EqMixed.eq_str_bool (jI I q (by simp))
  |int j=>obtain⟨t',rfl⟩:=ry;exact PySem.EqMixed.eq_str_int (jI I q (by simp))
  |str j=>obtain⟨t',rfl⟩:=ry;exact eq_str (jI I q qAY)
  |_=>exact absurd (show false=true from hs) kO
 |byt i=>
  obtain⟨t,rfl⟩:=rx
  cases y with
  |byt j=>obtain⟨t',rfl⟩:=ry;exact PySem.W.eq_bytes (jI I q qAZ)
  |_=>exact absurd (show false=true from hs) kO
 |_=>cases y<;>exact absurd (show false=true from hs) kO
theorem q2U:OpR X (compareOp .NotEq) rNe:=by
 intro pins s σ H x y v u Q I rx ry h
 obtain⟨hs,q⟩:=h
 cases x with
 |non=>
  cases rx
  cases y with
  |non=>cases ry;exact PySem.EqNone.ne_none_none (jI I q (by simp))
  |bl j=>cases ry;exact PySem.EqNone.ne_none_bool (jI I q (by simp))
  |int j=>obtain⟨t',rfl⟩:=ry;exact PySem.EqNone.ne_none_int (jI I q (by simp))
  |str j=>obtain⟨t',rfl⟩:=ry;exact PySem.EqNone.ne_none_str (jI I q (by simp))
  |_=>exact absurd (show false=true from hs) kO
 |bl i=>
  cases rx
  cases y with
  |non=>cases ry;exact PySem.EqNone.ne_bool_none (jI I q (by simp))
  |bl j=>cases ry;exact ne_bool (jI I q (dR not qCW))
  |str j=>obtain⟨t',rfl⟩:=ry;exact PySem.EqMixed.ne_bool_str (jI I q (by simp))
  |_=>exact absurd (show false=true from hs) kO
 |int i=>
  obtain⟨t,rfl⟩:=rx
  cases y with
  |non=>cases ry;exact PySem.EqNone.ne_int_none (jI I q (by simp))
  |int j=>obtain⟨t',rfl⟩:=ry;exact ne_int (jI I q (dR not qAX))
  |str j=>obtain⟨t',rfl⟩:=ry;exact PySem.EqMixed.ne_int_str (jI I q (by simp))
  |_=>exact absurd (show false=true from hs) kO
 |str i=>
  obtain⟨t,rfl⟩:=rx
  cases y with
  |non=>cases ry;exact PySem.EqNone.ne_str_none (jI I q (by simp))
  |bl j=>cases ry;exact PySem.EqMixed.ne_str_bool (jI I q (by simp))
  |int j=>obtain⟨t',rfl⟩:=ry;exact PySem.EqMixed.ne_str_int (jI I q (by simp))
  |str j=>obtain⟨t',rfl⟩:=ry;exact ne_str (jI I q (dR not qAY))
  |_=>exact absurd (show false=true from hs) kO
 |byt i=>
  obtain⟨t,rfl⟩:=rx
  cases y with
  |byt j=>obtain⟨t',rfl⟩:=ry;exact PySem.W.ne_bytes (jI I q (dR not qAZ))
  |_=>exact absurd (show false=true from hs) kO
 |_=>cases y<;>exact absurd (show false=true from hs) kO
theorem q3M:OpR X (compareOp .Lt) (rI0 λi j=>.bl (decide (i<j))):=opB0 λ_ _ _ _ _ _ _ q=>lt_int q
theorem qCX:OpR X (compareOp .LtE) (rI0 λi j=>.bl (decide (i≤j))):=opB0 λ_ _ _ _ _ _ _ q=>le_int q
theorem q8T:OpR X (compareOp .Gt) (rI0 λi j=>.bl (decide (j<i))):=opB0 λ_ _ _ _ _ _ _ q=>gt_int q
theorem qB0:OpR X (compareOp .GtE) (rI0 λi j=>.bl (decide (j≤i))):=opB0 λ_ _ _ _ _ _ _ q=>ge_int q
theorem qA6:OpR X (compareOp .Is) (λx y H Q=>y=.non∧Q (.bl (decide (x=.non))) H):=by
 intro pins s σ H x y v u Q I rx ry h
 obtain⟨rfl,q⟩:=h
 cases ry
 refine is_none_gen (jI I q ?_)
 cases x<;>first
  |(cases rx;rfl)
  |(obtain⟨t,rfl⟩:=rx;rfl)
theorem q4Z:OpR X (compareOp .IsNot) (λx y H Q=>y=.non∧Q (.bl (!decide (x=.non))) H):=by
 intro pins s σ H x y v u Q I rx ry h
 obtain⟨rfl,q⟩:=h
 cases ry
 refine isnot_none_gen (jI I q ?_)
 cases x<;>first
  |(cases rx;rfl)
  |(obtain⟨t,rfl⟩:=rx;rfl)
theorem qT(b:Expr){op:CmpOp}(h:op≠ .In:=by decide)(h2:op≠ .NotIn:=by decide):behindInMarks op b=false:=by
 have e1:(op==CmpOp.In)=false:=by cases op<;>first|rfl|exact absurd rfl h
 have e2:(op==CmpOp.NotIn)=false:=by cases op<;>first|rfl|exact absurd rfl h2
 cases b<;>simp[behindInMarks,e1,e2]
theorem uC{op:CmpOp}{r:R2}(ho:OpR X (compareOp op) r)(ha:PE X a ta)(hb:PE X b tb)(hm:behindInMarks op b=false):PE X (.Compare a [op] [b] pos) (tOp r ta tb):=by
 intro pins s σ H Q I h
 exact wpAny_Compare1 (binT ha hb I h λv u s2 x y H2 I2 rx ry q=>ho pins s2 σ H2 x y v u Q I2 rx ry q) hm
noncomputable def qH1(t:TE):TT:=λσ H Q=>t σ H λx H'=>∃k,x=.bl k∧Q k H'
theorem qR{op:CmpOp}{r:R2}(ho:OpR X (compareOp op) r)(ha:PE X a ta)(hb:PE X b tb)(hm:behindInMarks op b=false):PT X (.Compare a [op] [b] pos) (qH1 (tOp r ta tb)):=by
 intro pins s σ H Q I h
 refine wpAny_isTrue_Compare1 (thn (ha pins s σ H _ I h) λv s1 ⟨x,H1,I1,r1,q1⟩=>thn (hb pins s1 σ H1 _ I1 q1) λu s2 ⟨y,H2,I2,r2,q2⟩=>
  thn (ho pins s2 σ H2 x y v u _ I2 r1 r2 q2) λc s3 ⟨z,H3,I3,r3,k,e,q3⟩=>?_) hm
 subst e
 cases r3
 exact gQ ⟨H3,I3,q3⟩
noncomputable def qCY(r r':R2)(ta tb tc:TE):TE:=λσ H Q=>ta σ H λx H1=>tb σ H1 λy H2=>r x y H2 λz H3=>∃k,z=.bl k∧
 (if k=true then tc σ H3 λw' H4=>r' y w' H4 Q else Q (.bl false) H3)
theorem qCZ{op op':CmpOp}{r r':R2}(ho:OpR X (compareOp op) r)(ho':OpR X (compareOp op') r')(ha:PE X a ta)(hb:PE X b tb)(hc:PE X c tc)
 (hm:lastMarks [op,op'] [b,c]=false:=by with_unfolding_all rfl):PE X (.Compare a [op,op'] [b,c] pos) (qCY r r' ta tb tc):=by
 intro pins s σ H Q I h
 refine Compare_chain (thn (ha pins s σ H _ I h) λv s1 ⟨x,H1,I1,r1,q1⟩=>chain_link (thn (hb pins s1 σ H1 _ I1 q1) λu s2 ⟨y,H2,I2,r2,q2⟩=>
  thn (ho pins s2 σ H2 x y v u _ I2 r1 r2 q2) λd s3 ⟨z,H3,I3,r3,k,e,q3⟩=>?_)) hm
 subst e
 cases r3
 refine gQ ?_
 cases k with
 |false=>exact ite_ff ⟨.bl false,H3,I3,rfl,q3⟩
 |true=>exact ite_tt (chain_last (thn (hc pins s3 σ H3 _ I3 q3) λw' s4 ⟨z',H4,I4,r4,q4⟩=>ho' pins s4 σ H4 y z' u w' Q I4 r2 r4 q4))
theorem qD0{op op':CmpOp}{r r':R2}(ho:OpR X (compareOp op) r)(ho':OpR X (compareOp op') r')(ha:PE X a ta)(hb:PE X b tb)(hc:PE X c tc)
 (hm:lastMarks [op,op'] [b,c]=false:=by with_unfolding_all rfl):PT X (.Compare a [op,op'] [b,c] pos) (qH1 (qCY r r' ta tb tc)):=by
 intro pins s σ H Q I h
 refine isTrue_chain (thn (ha pins s σ H _ I h) λv s1 ⟨x,H1,I1,r1,q1⟩=>test_link (thn (hb pins s1 σ H1 _ I1 q1) λu s2 ⟨y,H2,I2,r2,q2⟩=>
  thn (ho pins s2 σ H2 x y v u _ I2 r1 r2 q2) λd s3 ⟨z,H3,I3,r3,k,e,q3⟩=>?_)) hm
 subst e
 cases r3
 refine gQ ?_
 cases k with
 |false=>
  obtain⟨k',e',q'⟩:=q3
  cases e'
  exact ite_ff ⟨H3,I3,q'⟩
 |true=>
  refine ite_tt (test_last (thn (hc pins s3 σ H3 _ I3 q3) λw' s4 ⟨z',H4,I4,r4,q4⟩=>thn (ho' pins s4 σ H4 y z' u w' _ I4 r2 r4 q4) λd' s5 hZ=>?_))
  obtain⟨z2,H5,I5,r5,k2,e2,q5⟩:=hZ
  subst e2
  cases r5
  exact gQ ⟨H5,I5,q5⟩
theorem q5E:(sizeLine:Nat)<2 ^ 63:=by rw[gM];decide
theorem q15{x:V}{us:List Value}(r:Vals [x] us):∃u,us=[u]∧RelV x u:=by
 cases r with
 |cons r1 r2=>cases r2;exact⟨_,rfl,r1⟩
theorem qD1{x y:V}{us:List Value}(r:Vals [x,y] us):∃u w',us=[u,w']∧RelV x u∧RelV y w':=by
 cases r with
 |cons r1 r2=>
  cases r2 with
  |cons r3 r4=>cases r4;exact⟨_,_,rfl,r1,r3⟩
theorem qC3(hc:X.calm=true):q1D X (.builtin "max") (λxs H Q=>∃i j,xs=[.int i,.int j]∧Q (.int (if j>i then j else i)) H):=by
 intro pins s σ H xs us Q I r h
 obtain⟨i,j,rfl,q⟩:=h
 obtain⟨u,w',rfl,⟨t,rfl⟩,⟨t',rfl⟩⟩:=qD1 r
 refine max_two_ints (I.ok.hd hc) λh' tk k=>⟨_,H,I.kept k,?_,q⟩
 by_cases hj:j>i
 ·rw[kI hj,kI hj];exact⟨_,rfl⟩
 ·rw[kF hj,kF hj];exact⟨_,rfl⟩
theorem q6X(hc:X.calm=true):q1D X (.builtin "min") (λxs H Q=>∃i j,xs=[.int i,.int j]∧Q (.int (if j<i then j else i)) H):=by
 intro pins s σ H xs us Q I r h
 obtain⟨i,j,rfl,q⟩:=h
 obtain⟨u,w',rfl,⟨t,rfl⟩,⟨t',rfl⟩⟩:=qD1 r
 refine min_two_ints (I.ok.hd hc) λh' tk k=>⟨_,H,I.kept k,?_,q⟩
 by_cases hj:j<i
 ·rw[kI hj,kI hj];exact⟨_,rfl⟩
 ·rw[kF hj,kF hj];exact⟨_,rfl⟩
end
structure ObjM(h:Heap)(x dx C:Addr)(mA:Str→Option Value):Prop where
 obj:h.get? x=some (PySem.W.instObj C dx)
 ns:h.Ns1 dx mA
 ne:dx≠x
theorem q6Y{h:Heap}{dx:Addr}{mA:Str→Option Value}(n:h.Ns1 dx mA):∃od,h.get? dx=some od∧∀name,PySem.W.lookIn name od=some (mA name):=by
 obtain⟨o,es,ep,ho,hd,hk,_,hm⟩:=n
 refine⟨o,ho,λname=>?_⟩
 have e:=hm name
 unfold nsFind findBy at e
 rw[←Array.find?_toList]at e
 unfold PySem.W.lookIn
 rw[hd]
 dsimp only
 split
 ·rename_i y q
  rw[q]at e
  exact dR some e
 ·rename_i q
  rw[q]at e
  have a:es.toList.any (·.refKey)=false:=by
   rw[List.any_eq_false]
   intro y hy
   obtain⟨z,t,hkey⟩:=hk y (Array.mem_toList_iff.mp hy)
   simp[DictEntry.refKey,hkey]
  have a':¬es.toList.any (·.refKey)=true:=by rw[a];exact kO
  rw[kF a']
  exact dR some e
theorem ObjM.look{h:Heap}{x dx C:Addr}{mA:Str→Option Value}(I:ObjM h x dx C mA):∃od,PySem.W.InstAt h x (PySem.W.instObj C dx) C (some od)∧∀name,PySem.W.lookIn name od=some (mA name):=
 let⟨od,ho,hl⟩:=q6Y I.ns
 ⟨od,⟨I.obj,rfl,rfl,ho⟩,hl⟩
section
variable{prog:Program}{w:World}{A:Around}{E:Value→Shared→Prop}{s:Shared}{K:PySem.W.Frag}{x dx C f:Addr}{mA:Str→Option Value}{name:Str}{v:Value}
theorem qF5{expr:Bool}{Q:Value→Shared→Prop}(X:K.In s.heap)(I:ObjM s.heap x dx C mA)(hg:PySem.W.plainGet K C name=true)(hh:PySem.W.hasDictIn K C=true)
 (ha:PySem.W.findIn K (.ref C) name=some none) (hv:mA name=some v) (hv':PySem.W.handedIn v=true) (h:Q v { s with toks:=s.toks+1 }):
 wpAny (model prog w) A (getAttr (.ref x) name expr) Q E s:=by
 obtain⟨od,J,hl⟩:=I.look
 exact PySem.W.get_value X J (pL hg).1 (PySem.W.findObj_own hh ha rfl (by rw[hl,hv])) hv' h
theorem qD2{pl:Sem Bool}{Q:Value×List Value→Shared→Prop}(X:K.In s.heap)(I:ObjM s.heap x dx C mA)(hg:PySem.W.plainGet K C name=true)
 (hf:PySem.W.findIn K (.ref C) name=some (some (.ref f))) (ht:PySem.W.isFn K (.ref f)=true) (hv:mA name=none) (h:Q (.ref f,[.ref x]) s):
 wpAny (model prog w) A (getMethod (.ref x) name pl) Q E s:=by
 obtain⟨od,J,hl⟩:=I.look
 exact PySem.W.method_fn X J (pL hg).1 (pL hg).2 hf (rT.mp ht) (by show(PySem.W.lookIn name od).map (·.isSome)=some false;rw[hl,hv];rfl) h
theorem qF6{ns:List Str}{Q:Unit→Shared→Prop}(X:K.In s.heap)(I:ObjM s.heap x dx C mA)
 (hs:PySem.W.findIn K (.ref C) "__setattr__"=some (some (.builtin "object.__setattr__"))) (hp:PySem.W.plainOver K C=true) (ht:PySem.W.takerIn K C name=some none) (hh:PySem.W.hasDictIn K C=true)
 (hw:PySem.Within mA ns) (hsz:ns.length≤sizeLine)
 (h:∀h',ObjM h' x dx C (λy=>if y=name then some v else mA y)→Heap.SameBut dx s.heap h'→Q () { s with heap:=h',toks:=s.toks+2 }):
 wpAny (model prog w) A (setAttr (.ref x) name v) Q E s:=by
 obtain⟨od,J,hl⟩:=I.look
 refine PySem.W.set_plain X J hs (PySem.W.osa_open (s:={ s with toks:=s.toks+1 }) (r:=none) X J hp ht λb=>?_)
 obtain⟨cd,hc,hd'⟩:=cV hh
 have hx:s.heap.get? x=some ⟨.ref C,some dx,.plain,#[]⟩:=I.obj
 refine kB (mB (kB (kB (wpAny_loadPart hx (kB (PySem.W.Looks.here (s:={ s with toks:=s.toks+1 }) (PySem.W.looks_clsIn X hc) ?_))))))
 rw[hd']
 refine mB (a:=some dx) (kB (mB (kB ?_)))
 refine wpAny_nsSet1 (s:={ s with toks:=s.toks+1 }) I.ns λh' hn2 hs2=>?_
 obtain⟨oD,esD,epD,hoD,hdD,hcD⟩:=hn2.count (PySem.Within.cons name v hw)
 refine kB (wpAny_lookBehind hoD (by rw[hdD];exact pastItsLine_dict (mF hcD (by rw[mG];omega))) ?_)
 exact mB (h _ ⟨(hs2.2 _ (wD I.ne)).trans I.obj,hn2,I.ne⟩ hs2)
theorem qD3{R:Result→Shared→Prop}{vs:List Value}{kw:List (Str×Value)}(X:K.In s.heap)(hm:PySem.W.makesIn K C=true)
 (hi:PySem.W.findIn K (.ref C) "__init__"=some (some (.ref f))) (hf:PySem.W.typeIn K (.ref f)=some (.type "function"))
 (h:codeAny (model prog w) (A.under (.builtin "type.__call__" ⟨.ref C::vs,kw⟩)) (.call (.ref f) ⟨.ref (s.heap.objs.size+1)::vs,kw⟩) (PySem.W.InitBack (s.heap.objs.size+1) R)
  { s with heap:=(s.heap.push PySem.W.emptyDict).push (PySem.W.instObj C s.heap.objs.size) }):
 codeAny (model prog w) A (.call (.ref C) ⟨vs,kw⟩) R s:=by
 obtain⟨hh,g,d,t,os⟩:=s
 exact PySem.W.make_core (PySem.W.makes_of X hm) (wU X hi) (λself=>PySem.W.bind_fn X self hf) (.inl rfl) h
end
noncomputable def putF(f:Str)(v:V):List (Str×V)→List (Str×V)
 | []=>[(f,v)]
 |(g,x)::r=>if g=f then(g,v)::r else(g,x)::putF f v r
theorem q4G(f g:Str)(v:V):∀fs:List (Str×V),(putF f v fs).lookup g=if g=f then some v else fs.lookup g
 | []=>by
  show List.lookup g [(f,v)]=_
  by_cases h:g=f
  ·have hb:(g==f)=true:=rT.mpr h
   simp only[List.lookup,hb,kI h]
  ·have hb:(g==f)=false:=rD.mpr h
   simp only[List.lookup,hb,kF h]
 |(k,x)::r=>by
  have ih:=q4G f g v r
  rw[show putF f v ((k,x)::r)=(if k=f then(k,v)::r else(k,x)::putF f v r)from rfl]
  by_cases hk:k=f
  ·rw[kI hk]
   by_cases h:g=k
   ·have hb:(g==k)=true:=rT.mpr h
    simp only[List.lookup,hb,kI (h.trans hk)]
   ·have hb:(g==k)=false:=rD.mpr h
    simp only[List.lookup,hb,kF (λe:g=f=>h (e.trans hk.symm))]
  ·rw[kF hk]
   by_cases h:g=k
   ·have hb:(g==k)=true:=rT.mpr h
    simp only[List.lookup,hb,kF (λe:g=f=>hk (h.symm.trans e))]
   ·have hb:(g==k)=false:=rD.mpr h
    simp only[List.lookup,hb]
    exact ih
theorem q43(f:Str)(v:V):∀fs:List (Str×V),f∈(putF f v fs).map (·.1)∧∀g,g∈fs.map (·.1)→g∈(putF f v fs).map (·.1)
 | []=>⟨by simp[putF],λg h=>by simp at h⟩
 |(k,x)::r=>by
  obtain⟨i1,i2⟩:=q43 f v r
  rw[show putF f v ((k,x)::r)=(if k=f then(k,v)::r else(k,x)::putF f v r)from rfl]
  by_cases hk:k=f
  ·rw[kI hk]
   subst hk
   exact⟨by simp,λg h=>by simpa using h⟩
  ·rw[kF hk]
   refine⟨?_,λg h=>?_⟩
   ·rw[mU]
    exact hX _ i1
   ·rw[mU]at h ⊢
    rcases kL.mp h with e|e
    ·exact kL.mpr (.inl e)
    ·exact hX _ (i2 g e)
theorem q4H(f:Str)(v:V):∀fs:List (Str×V),(putF f v fs).length≤fs.length+1
 | []=>by simp[putF]
 |(k,x)::r=>by
  have ih:=q4H f v r
  rw[show putF f v ((k,x)::r)=(if k=f then(k,v)::r else(k,x)::putF f v r)from rfl]
  by_cases hk:k=f
  ·rw[kI hk,mG,mG];omega
  ·rw[kF hk,mG,mG];omega
theorem RelO.some_of{v:V}{o:Option Value}(r:RelO (some v) o):∃u,o=some u∧RelV v u:=by
 cases o with
 |none=>exact(show False from r).elim
 |some u=>exact⟨u,rfl,r⟩
theorem RelO.none_of{o:Option Value}(r:RelO none o):o=none:=by
 cases o with
 |none=>rfl
 |some u=>exact(show False from r).elim
theorem qC4{v:V}{u:Value}(r:RelV v u):PySem.W.handedIn u=true:=by
 cases v with
 |non=>cases(show u=Value.none from r);rfl
 |bl b=>cases(show u=Value.bool b from r);rfl
 |int i=>obtain⟨t,e⟩:=(show ∃t,u=Value.int i t from r);cases e;rfl
 |str x=>obtain⟨t,e⟩:=(show ∃t,u=Value.str x t from r);cases e;rfl
 |byt b=>obtain⟨t,e⟩:=(show ∃t,u=Value.bytes b t from r);cases e;rfl
 |flt b=>obtain⟨t,e⟩:=(show ∃t,u=Value.float b t from r);cases e;rfl
 |ref a=>cases(show u=Value.ref a from r);rfl
 |ty n=>cases(show u=Value.type n from r);rfl
section
variable{P:Program}{w:World}{H H':Hp}{h h':Heap}{a C dx:Addr}{fs fs':List (Str×V)}
theorem q50(hok:HOk P w H h)(e:H a=some (.ins C dx fs)):∃mA,ObjM h a dx C mA∧(∀f,RelO (fs.lookup f) (mA f))∧PySem.Within mA (fs.map (·.1))∧fs.length≤1000∧H dx=some (.own a):=by
 obtain⟨d,z,ne,ob,mA,n,r,q⟩:=(show jK P w H h a (.ins C dx fs)from hok a _ e)
 exact⟨mA,⟨ob,n,ne⟩,r,q,z,d⟩
end
structure Cls(K:PySem.W.Frag)(C:Addr):Prop where
 pg:PySem.W.plainGet K C Str.empty=true
 hd:PySem.W.hasDictIn K C=true
 po:PySem.W.plainOver K C=true
 sa:PySem.W.findIn K (.ref C) "__setattr__"=some (some (.builtin "object.__setattr__"))
theorem Cls.get{K:PySem.W.Frag}{C:Addr}(c:Cls K C)(f:Str):PySem.W.plainGet K C f=true:=c.pg
noncomputable def qO(K:PySem.W.Frag)(C:Addr)(f:Str):Prop:=PySem.W.findIn K (.ref C) f=some none
theorem qO.taker{K:PySem.W.Frag}{C:Addr}{f:Str}(n:qO K C f):PySem.W.takerIn K C f=some none:=by
 unfold PySem.W.takerIn
 rw[show PySem.W.findIn K (.ref C) f=some none from n]
 rfl
structure Meth(K:PySem.W.Frag)(C:Addr)(m:Str)(f:Addr):Prop where
 at_:PySem.W.findIn K (.ref C) m=some (some (.ref f))
 fn:PySem.W.isFn K (.ref f)=true
 kp:PySem.W.keepIn K (.ref f)=true
section
variable{X:Cx}{pins:List (Addr×Obj)}{σ:St}{H:Hp}{s:Shared}{a C dx:Addr}{fs:List (Str×V)}{f:Str}{v:V}{A:Around}{E:Value→Shared→Prop}
theorem q5F{b:Bool}{Q:Value→Shared→Prop}(I:Inv X pins σ H s)(e:H a=some (.ins C dx fs))(c:Cls X.K C)(n:qO X.K C f)(l:fs.lookup f=some v)
 (h:∀u s',Inv X pins σ H s'→RelV v u→Q u s'):wpAny (model X.prog X.w) A (getAttr (.ref a) f b) Q E s:=by
 obtain⟨mA,O,r,_,_,_⟩:=q50 I.hok e
 obtain⟨u,hu,ru⟩:=RelO.some_of (v:=v) (o:=mA f) (by rw[←l];exact r f)
 exact qF5 I.kIn O (c.get f) c.hd n hu (qC4 ru) (h u _ (I.tok _) ru)
theorem q0N{m:Str}{g:Addr}{pl:Sem Bool}{Q:Value×List Value→Shared→Prop}(I:Inv X pins σ H s)(e:H a=some (.ins C dx fs))(c:Cls X.K C)(k:Meth X.K C m g)(l:fs.lookup m=none)
 (h:Q (.ref g,[.ref a]) s):wpAny (model X.prog X.w) A (getMethod (.ref a) m pl) Q E s:=by
 obtain⟨mA,O,r,_,_,_⟩:=q50 I.hok e
 have hn:mA m=none:=RelO.none_of (by rw[←l];exact r m)
 exact qD2 I.kIn O (c.get m) k.at_ k.fn hn h
theorem q5G{y:V}{u:Value}{Q:Unit→Shared→Prop}(I:Inv X pins σ H s)(e:H a=some (.ins C dx fs))(c:Cls X.K C)(n:qO X.K C f)(hl:fs.length<1000)(ry:RelV y u)
 (h:∀s',Inv X pins σ (upd H a (.ins C dx (putF f y fs))) s'→Q () s'):wpAny (model X.prog X.w) A (setAttr (.ref a) f u) Q E s:=by
 obtain⟨mA,O,r,wi,_,ho⟩:=q50 I.hok e
 have hz:(fs.map (·.1)).length≤sizeLine:=by rw[h9,gM];omega
 refine qF6 I.kIn O c.sa c.po n.taker c.hd wi hz λh' O' sb=>h _ ?_
 have hd:∃o,h'.get? dx=some o:=let⟨o,_,_,e',_⟩:=O'.ns;⟨o,e'⟩
 refine I.write (x:=a) (e:=dx) (by rw[e];exact True.intro) (.inr ho) (λb q hb z=>(sb.2 b hb).trans z) hd ?_
 refine⟨by rw[qD O.ne];exact ho,?_,O.ne,O'.obj,_,O'.ns,λg=>?_,λg hg=>?_⟩
 ·have:=q4H f y fs;omega
 ·show RelO ((putF f y fs).lookup g) (if g=f then some u else mA g)
  rw[q4G]
  by_cases q:g=f
  ·rw[kI q,kI q];exact ry
  ·rw[kF q,kF q];exact r g
 ·by_cases q:g=f
  ·rw[q];exact(q43 f y fs).1
  ·refine(q43 f y fs).2 g (wi g λz=>hg ?_)
   show(if g=f then some u else mA g)=none
   rw[kF q];exact z
theorem Inv.made(I:Inv X pins σ H s):Inv X pins σ (upd (upd H s.heap.objs.size (.own (s.heap.objs.size+1))) (s.heap.objs.size+1) (.ins C s.heap.objs.size []))
 { s with heap:=(s.heap.push PySem.W.emptyDict).push (PySem.W.instObj C s.heap.objs.size) }:=by
 have e1:(s.heap.push PySem.W.emptyDict).get? s.heap.objs.size=some PySem.W.emptyDict:=mI s.heap rfl
 have e2:((s.heap.push PySem.W.emptyDict).push (PySem.W.instObj C s.heap.objs.size)).get? (s.heap.objs.size+1)=some (PySem.W.instObj C s.heap.objs.size):=by
  have:=mI (s.heap.push PySem.W.emptyDict) (o:=PySem.W.instObj C s.heap.objs.size) rfl
  rwa [cK]at this
 have e3:(s.heap.push PySem.W.emptyDict).Ns s.heap.objs.size (λ_=>none):=⟨PySem.W.emptyDict,#[],_,e1,rfl,(λe he=>absurd he (by simp)),λ_=>rfl⟩
 have I1:=I.laid (a:=s.heap.objs.size) (o:=.own (s.heap.objs.size+1)) (h':=s.heap.push PySem.W.emptyDict) (t':=s.toks) (λb u q=>kC _ q) (kM _) ⟨_,e1⟩
 refine I1.laid (a:=s.heap.objs.size+1) (o:=.ins C s.heap.objs.size []) (t':=s.toks) (λb u q=>kC _ q) (cL (cK _ _)) ?_
 have ne:s.heap.objs.size≠s.heap.objs.size+1:=mL (dU _)
 refine⟨by rw[qD ne,qI],mO _,ne,e2,λ_=>none,(Heap.Ns1.of_empty e3).at λo q=>kC _ q,λ_=>True.intro,λy hy=>absurd rfl hy⟩
theorem qF7{prog:Program}{w:World}{env:Env}{e:Expr}{f:Str}{pos:Pos}{s:Shared}{Q:Value→Shared→Prop}(hb:attributeBase e f env (eval e env)=eval e env)
 (h:wpAny (model prog w) A (eval e env) (λo s₁=>wpAny (model prog w) A (getAttr o f true) Q E s₁) E s):wpAny (model prog w) A (eval (.Attribute e f pos) env) Q E s:=
 Attribute_any_ h (by rw[arm_eval_Attribute,hb])
end
noncomputable def tFld(K:PySem.W.Frag)(ta:TE)(f:Str):TE:=λσ H Q=>ta σ H λx H1=>∃a C dx fs v,x=.ref a∧H1 a=some (.ins C dx fs)∧Cls K C∧qO K C f∧fs.lookup f=some v∧Q v H1
noncomputable def sFld(K:PySem.W.Frag)(ta tv:TE)(f:Str):TS:=λD σ H=>tv σ H λy H1=>ta σ H1 λx H2=>∃a C dx fs,x=.ref a∧H2 a=some (.ins C dx fs)∧Cls K C∧qO K C f∧fs.length<1000∧
 D.nx σ (upd H2 a (.ins C dx (putF f y fs)))
noncomputable def InOp(X:Cx)(op:Operator)(rd:V→V→Hp→VK→Prop):Prop:=
 ∀(pins:List (Addr×Obj)) (s:Shared) (σ:St) (H:Hp) (x y:V) (u v:Value) (Q:VK),Inv X pins σ H s→RelV x u→RelV y v→rd x y H Q→wpAny (model X.prog X.w) X.A (inplaceOp op u v) (EP X pins σ Q) X.xe s
noncomputable def qF8(K:PySem.W.Frag)(ta tv:TE)(rd:V→V→Hp→VK→Prop)(f:Str):TS:=λD σ H=>ta σ H λx H1=>∃a C dx fs v,x=.ref a∧H1 a=some (.ins C dx fs)∧Cls K C∧qO K C f∧fs.lookup f=some v∧
 tv σ H1 λy H2=>rd v y H2 λz H3=>∃dx' fs',H3 a=some (.ins C dx' fs')∧fs'.length<1000∧D.nx σ (upd H3 a (.ins C dx' (putF f z fs')))
section
variable{X:Cx}{o e value:Expr}{f:Str}{pos pos' tpos:Pos}{ta tv:TE}
theorem qJ(he:PE X e ta)(hb:attributeBase e f X.env (eval e X.env)=eval e X.env):PE X (.Attribute e f pos) (tFld X.K ta f):=by
 intro pins s σ H Q I h
 refine qF7 hb (thn (he pins s σ H _ I h) λu s1 hZ=>?_)
 obtain⟨x,H1,I1,rx,a,C,dx,fs,v,ex,ea,c,n,l,q⟩:=hZ
 subst ex
 obtain rfl:u=Value.ref a:=rx
 exact q5F I1 ea c n l λu' s2 I2 ru=>⟨v,H1,I2,ru,q⟩
theorem jN(ha:PE X o ta)(hv:PE X value tv)(hs:swapsWith value (some (.Attribute o f pos')) pos.line X.env=pure false):PS X (.Assign [.Attribute o f pos'] value pos) (sFld X.K ta tv f):=by
 intro pins s σ H D I h
 refine plainObj_wpAny_Assign_Attribute (thn (hv pins s σ H _ I h) λu s1 ⟨y,H1,I1,ry,q⟩=>thn (ha pins s1 σ H1 _ I1 q) λov s2 hZ=>?_) hs
 obtain⟨x,H2,I2,rx,a,C,dx,fs,ex,ea,c,n,l,q2⟩:=hZ
 subst ex
 obtain rfl:ov=Value.ref a:=rx
 exact q5G I2 ea c n l ry λs3 I3=>⟨σ,_,I3,q2⟩
theorem q6Z{op:Operator}{rd:V→V→Hp→VK→Prop}(ha:PE X o ta)(hv:PE X value tv)(hop:InOp X op rd):PS X (.AugAssign (.Attribute o f tpos) op value pos) (qF8 X.K ta tv rd f):=by
 intro pins s σ H D I h
 refine wpAny_AugAssign_AttributeAny (thn (ha pins s σ H _ I h) λov s1 hZ=>?_)
 obtain⟨x,H1,I1,rx,a,C,dx,fs,v,ex,ea,c,n,l,q⟩:=hZ
 subst ex
 obtain rfl:ov=Value.ref a:=rx
 refine q5F I1 ea c n l λu s2 I2 ru=>thn (hv pins s2 σ H1 _ I2 q) λw3 s3 ⟨y,H2,I3,ry,q3⟩=>thn (hop pins s3 σ H2 v y u w3 _ I3 ru ry q3) λw4 s4 hZ=>?_
 obtain⟨z,H3,I4,rz,dx',fs',ea',l',q4⟩:=hZ
 exact q5G I4 ea' c n l' rz λs5 I5=>⟨σ,_,I5,q4⟩
noncomputable def rAdd:V→V→Hp→VK→Prop:=λx y H Q=>∃i j,x=.int i∧y=.int j∧Q (.int (i+j)) H
noncomputable def rSub:V→V→Hp→VK→Prop:=λx y H Q=>∃i j,x=.int i∧y=.int j∧Q (.int (i-j)) H
theorem qHT:InOp X .Add rAdd:=by
 rintro pins s σ H x y u v Q I rx ry ⟨i,j,rfl,rfl,q⟩
 obtain⟨t,rfl⟩:=(show ∃t,u=Value.int i t from rx)
 obtain⟨t',rfl⟩:=(show ∃t',v=Value.int j t' from ry)
 exact PyProof.Rows.iadd_int ⟨.int (i+j),H,I.tok _,⟨_,rfl⟩,q⟩
theorem qHU:InOp X .Sub rSub:=by
 rintro pins s σ H x y u v Q I rx ry ⟨i,j,rfl,rfl,q⟩
 obtain⟨t,rfl⟩:=(show ∃t,u=Value.int i t from rx)
 obtain⟨t',rfl⟩:=(show ∃t',v=Value.int j t' from ry)
 exact PyProof.Rows.isub_int ⟨.int (i-j),H,I.tok _,⟨_,rfl⟩,q⟩
end
section
variable{X:Cx}{pins:List (Addr×Obj)}{σ:St}{H:Hp}{s:Shared}{A:Around}{E:Value→Shared→Prop}{Q:Value→Shared→Prop}{c:Value}{b:Bool}
inductive TyOf(K:PySem.W.Frag)(H:Hp):V→Value→Prop where
 |non:TyOf K H .non (.type "NoneType")
 |bl (x:Bool):TyOf K H (.bl x) (.type "bool")
 |int (i:Int):TyOf K H (.int i) (.type "int")
 |str (x:Str):TyOf K H (.str x) (.type "str")
 |flt (x:UInt64):TyOf K H (.flt x) (.type "float")
 |lst {a:Addr} {xs:List V} (e:H a=some (.lst xs)):TyOf K H (.ref a) (.type "list")
 |frz {a:Addr} {o:Obj} {xs:List V} (e:H a=some (.frz o (.lst xs))):TyOf K H (.ref a) (.type "list")
 |tup {a:Addr} {xs:List V} (e:H a=some (.tup xs)):TyOf K H (.ref a) (.type "tuple")
 |dK {a:Addr} {kvs:List (Key×V)} (e:H a=some (.dK kvs)):TyOf K H (.ref a) (.type "dict")
 |dT {a:Addr} {kvs:List (List Key×V)} (e:H a=some (.dT kvs)):TyOf K H (.ref a) (.type "dict")
 |ins {a C dx:Addr} {fs:List (Str×V)} (e:H a=some (.ins C dx fs)) (cl:Cls K C) (ha:PySem.W.findIn K (.ref C) "__class__"=some (some (.builtin "object.__class__")))
  (hn:PySem.W.specialIn K (.builtin "object.__class__") "__get__"=some (some (.builtin "getset_descriptor.__get__"))) (htk:PySem.W.takesIn K (.builtin "object.__class__")=some true)
  (hm:PySem.W.mroIn K C (.type "object")=some true):TyOf K H (.ref a) (.ref C)
theorem qC5{x:V}{u t:Value}(I:Inv X pins σ H s)(rx:RelV x u)(ty:TyOf X.K H x t)(e:PySem.W.kitOne X.K t c=some b)(h:∀tk,Q (.bool b) { s with toks:=tk }):
 wpAny (model X.prog X.w) A (call (.builtin "isinstance") [u,c]) Q E s:=by
 cases ty with
 |non=>cases(show u=Value.none from rx);exact gX PySem.W.kitx_none I.kIn True.intro e (λz=>nomatch z) h
 |bl y=>cases(show u=Value.bool y from rx);exact gX PySem.W.kitx_bool I.kIn True.intro e (λz=>nomatch z) h
 |int i=>obtain⟨t,q⟩:=(show ∃t,u=Value.int i t from rx);cases q;exact gX PySem.W.kitx_int I.kIn True.intro e (λz=>nomatch z) h
 |str y=>obtain⟨t,q⟩:=(show ∃t,u=Value.str y t from rx);cases q;exact gX PySem.W.kitx_str I.kIn True.intro e (λz=>nomatch z) h
 |flt y=>obtain⟨t,q⟩:=(show ∃t,u=Value.float y t from rx);cases q;exact gX PySem.W.kitx_float I.kIn True.intro e (λz=>nomatch z) h
 |@lst a xs ea=>
  cases(show u=Value.ref a from rx)
  obtain⟨_,_,n,_,h1⟩:=(show jK X.prog X.w H s.heap a (.lst xs)from I.hok a _ ea)
  exact gX PySem.W.kitx_list I.kIn ⟨_,h1,rfl⟩ e (λz=>nomatch z) h
 |@frz a ob xs ea=>
  cases(show u=Value.ref a from rx)
  obtain⟨_,_,_,n,_,h1⟩:=(show jK X.prog X.w H s.heap a (.frz ob (.lst xs))from I.hok a _ ea)
  exact gX PySem.W.kitx_list I.kIn ⟨_,h1,rfl⟩ e (λz=>nomatch z) h
 |@tup a xs ea=>
  cases(show u=Value.ref a from rx)
  obtain⟨_,_,_,p⟩:=(show jK X.prog X.w H s.heap a (.tup xs)from I.hok a _ ea)
  obtain⟨o,h1,h2,_⟩:=p
  exact gX PySem.W.kitx_tuple I.kIn ⟨o,h1,h2⟩ e (λz=>nomatch z) h
 |@dK a kvs ea=>
  cases(show u=Value.ref a from rx)
  obtain⟨_,_,vs,_,p⟩:=(show jK X.prog X.w H s.heap a (.dK kvs)from I.hok a _ ea)
  obtain⟨o,es,ep,h1,h2,_⟩:=p
  exact gX PySem.W.kitx_dict I.kIn ⟨o,h1,h2.1⟩ e (λz=>nomatch z) h
 |@dT a kvs ea=>
  cases(show u=Value.ref a from rx)
  obtain⟨_,_,xs,_,o,es,ep,h1,h2,_⟩:=(show jK X.prog X.w H s.heap a (.dT kvs)from I.hok a _ ea)
  exact gX PySem.W.kitx_dict I.kIn ⟨o,h1,h2.1⟩ e (λz=>nomatch z) h
 |@ins a C dx fs ea cl ha hn htk hm=>
  cases(show u=Value.ref a from rx)
  obtain⟨mA,O,_⟩:=q50 I.hok ea
  obtain⟨od,J,_⟩:=O.look
  exact gX (PySem.W.kitx_own (cl.get _) cl.hd ha hn htk hm) I.kIn J e (λz=>nomatch z) h
end
structure Room(k:Nat)(A:Around):Prop where
 hd:A.handled=none
 dp:A.depth+3*k+5<recursionLimit
 un:A.units+16*k+200<cLine
theorem Room.mono{j k:Nat}{A:Around}(r:Room k A)(h:j≤k):Room j A:=⟨r.hd,by have:=r.dp;omega,by have:=r.un;omega⟩
theorem Room.deeper{k:Nat}{A:Around}(r:Room (k+1) A)(env:Env):Room k (A.deeper env):=
 ⟨r.hd,by have:=r.dp;show A.depth+1+3*k+5< _;omega,by have:=r.un;show A.units+3+16*k+200< _;omega⟩
theorem Room.in1{k:Nat}{A:Around}(r:Room (k+1) A):Room k A.in1:=
 ⟨r.hd,by have:=r.dp;show A.depth+3*k+5< _;omega,by have:=r.un;show A.units+1+16*k+200< _;omega⟩
theorem qA7{A:Around}{C:Addr}{us:List Value}{kw:List (Str×Value)}:(A.under (.builtin "type.__call__" ⟨.ref C::us,kw⟩)).depth=A.depth+1:=by
 first|rfl|simp[Around.under,Code.weight,Code.isCreation,Code.isGuard,Code.isCaller,Code.frames,Code.isFrame,guardIds]
theorem qA8{A:Around}{C:Addr}{us:List Value}{kw:List (Str×Value)}:(A.under (.builtin "type.__call__" ⟨.ref C::us,kw⟩)).units=A.units+1:=by
 first|rfl|simp[Around.under,Code.cUnits,Code.frames,Code.isFrame]
theorem Room.make{k:Nat}{A:Around}(r:Room (k+1) A)(C:Addr)(us:List Value)(kw:List (Str×Value)):Room k (A.under (.builtin "type.__call__" ⟨.ref C::us,kw⟩)):=
 ⟨r.hd,by have:=r.dp;rw[qA7];omega,by have:=r.un;rw[qA8];omega⟩
theorem Room.depth{k:Nat}{A:Around}(r:Room k A):A.depth<recursionLimit:=by have:=r.dp;omega
theorem Room.units{k:Nat}{A:Around}(r:Room k A):A.units+64<cLine:=by have:=r.un;omega
noncomputable def tNil:TA:=λ_ H Q=>Q [] H
noncomputable def q8U(ta:TE)(tr:TA):TA:=λσ H Q=>ta σ H λx H1=>tr σ H1 λxs H2=>Q (x::xs) H2
section
variable{X:Cx}{e:Expr}{es:List Expr}{te:TE}{t:TA}{pos:Pos}
theorem qE:PA X [] tNil:=λ_ _ _ _ H Q I h=>Calls.spliced_nil ⟨[],H,I,.nil,h⟩
theorem qA(ha:PE X e te)(hr:PA X es t)(hs:starEach (e::es) X.env=(false,eval e X.env)::starEach es X.env:=by rfl):PA X (e::es) (q8U te t):=by
 intro pos pins s σ H Q I h
 rw[hs]
 show wpAny _ _ (spliced ((false,eval e X.env)::backTo pos (starEach es X.env))) _ _ s
 refine Calls.spliced_cons (thn (ha pins s σ H _ I h) λu s1 hZ=>?_)
 obtain⟨x,H1,I1,r1,q1⟩:=hZ
 exact thn (hr pos pins s1 σ H1 _ I1 q1) λus s2 ⟨xs,H2,I2,r2,q2⟩=>⟨x::xs,H2,I2,.cons r1 r2,q2⟩
end
noncomputable abbrev Sp:=List V→Hp→VK→XK→Prop
noncomputable abbrev CXT:=List Env→Hp→Shared→XK→Value→Shared→Prop
structure Env0(P:Program)(w:World)(K:PySem.W.Frag)(mg:Str→Option Value)(base:Heap)(A:Around)(outer:List Env)(s:Shared)(H:Hp):Prop where
 frames:A.frames=some outer
 mod:Mod K mg base
 bs:∀b o,base.get? b=some o→s.heap.get? b=some o∧H b=none
 bsz:base.objs.size≤s.heap.objs.size
 funs:s.heap.FunFrames base outer
 frf:∀b∈frs outer,H b=none
 hok:HOk P w H s.heap
 bare:AllBare s.gens
noncomputable def CE(outer:List Env)(P:Program)(w:World)(H:Hp)(s:Shared)(Q:VK)(u:Value)(s':Shared):Prop:=
 ∃v H',s'.os=s.os∧AllBare s'.gens∧Un (frs outer) [] H H' s.heap s'.heap∧HOk P w H' s'.heap∧RelV v u∧Q v H'
noncomputable def CR(CX:CXT)(outer:List Env)(P:Program)(w:World)(H:Hp)(s:Shared)(Q:VK)(E:XK)(r:Result)(s':Shared):Prop:=
 match r with
 | .ok (.ret u)=>CE outer P w H s Q u s'
 | .ok _=>False
 | .error e=>CX outer H s E e s'
structure FnOk(P:Program)(w:World)(K:PySem.W.Frag)(mg:Str→Option Value)(base:Heap)(CX:CXT)(k:Nat)(f:Addr)(fd:FuncData)(ps:List Str)(sp:Sp):Prop where
 len:∀vs H Q E,sp vs H Q E→vs.length=ps.length
 run:∀(A:Around) (outer:List Env) (s:Shared) (H:Hp) (args:Args) (us:List Value) (vs:List V) (Q:VK) (E:XK),Room k A→Env0 P w K mg base A outer s H→BindsTo s fd args (ps.zip us)→Vals vs us→sp vs H Q E→
  codeAny (model P w) A (.call (.ref f) args) (CR CX outer P w H s Q E) s
theorem FnOk.mono{P:Program}{w:World}{K:PySem.W.Frag}{mg:Str→Option Value}{base:Heap}{CX:CXT}{j k:Nat}{f:Addr}{fd:FuncData}{ps:List Str}{sp:Sp}(F:FnOk P w K mg base CX j f fd ps sp)(h:j≤k:=by decide):
 FnOk P w K mg base CX k f fd ps sp:=⟨F.len,λA outer s H args us vs Q E hr=>F.run A outer s H args us vs Q E (hr.mono h)⟩
theorem Env0.make{P:Program}{w:World}{K:PySem.W.Frag}{mg:Str→Option Value}{base:Heap}{A:Around}{outer:List Env}{s:Shared}{H:Hp}(e:Env0 P w K mg base A outer s H)(C:Addr)(us:List Value)(kw:List (Str×Value)):
 Env0 P w K mg base (A.under (.builtin "type.__call__" ⟨.ref C::us,kw⟩)) outer s H:=⟨by first|exact e.frames|(simpa[Around.under,Code.envs,Code.isFrame,pushEnvs]using e.frames),e.mod,e.bs,e.bsz,e.funs,e.frf,e.hok,e.bare⟩
section
variable{X:Cx}{pins:List (Addr×Obj)}{σ:St}{H:Hp}{s s':Shared}
theorem Inv.env0(I:Inv X pins σ H s):Env0 X.prog X.w X.K X.mg X.base X.A X.stack s H:=
 ⟨I.ok.frames,I.ok.mod,I.bs,mF I.ok.bsz I.sz,I.stack,I.stkFree,I.hok,I.bare⟩
theorem Inv.after{Q:VK}{u:Value}(I:Inv X pins σ H s)(h:CE X.stack X.prog X.w H s Q u s'):EP X pins σ Q u s':=by
 obtain⟨v,H',os,bare,un,hok,r,q⟩:=h
 obtain⟨hh,g,d,t,os'⟩:=s'
 obtain rfl:os'=s.os:=os
 exact⟨v,H',I.call (h':=hh) (g':=g) (d':=d) (t':=t) (ch:=[]) un hok bare (λb z=>absurd z (by simp)),r,q⟩
end
noncomputable def qH2(sp:Sp)(dvs:List V)(E:XK)(t:TA):TE:=λσ H Q=>t σ H λvs H1=>sp (vs++dvs) H1 Q E
noncomputable def qH3(C:Addr)(m:Str)(sp:Sp)(dvs:List V)(E:XK)(ta:TE)(t:TA):TE:=λσ H Q=>ta σ H λx H1=>∃a dx fs,x=.ref a∧H1 a=some (.ins C dx fs)∧fs.lookup m=none∧
 t σ H1 λvs H2=>sp (x::(vs++dvs)) H2 Q E
noncomputable def qJX(C:Addr)(sp:Sp)(dvs:List V)(E:XK)(t:TA):TE:=λσ H Q=>t σ H λvs H1=>∀x dx,H1 x=none→H1 dx=none→dx≠x→
 sp (.ref x::(vs++dvs)) (upd (upd H1 dx (.own x)) x (.ins C dx [])) (λv H2=>v=.non∧Q (.ref x) H2) E
noncomputable def jS(K:PySem.W.Frag)(fd:FuncData)(ps:List Str)(ds:List Value):Prop:=
 ∀(s:Shared) (us:List Value),K.In s.heap→(us++ds).length=ps.length→BindsTo s fd ⟨us,[]⟩ (ps.zip (us++ds))
theorem jS.all{K:PySem.W.Frag}{fd:FuncData}{ps:List Str}(h:∀us:List Value,us.length=ps.length→bindArgs fd ⟨us,[]⟩=pure (ps.zip us)):jS K fd ps []:=λs us _ hl=>by
 rw[dA]at hl ⊢
 exact .of_eq (h us hl)
noncomputable def q0O(CX:CXT)(X:Cx)(E:XK):Prop:=∀(pins:List (Addr×Obj)) (σ:St) (H:Hp) (s:Shared) (e:Value) (s':Shared),Inv X pins σ H s→CX X.stack H s E e s'→X.xe e s'
section
variable{X:Cx}{CX:CXT}{k:Nat}{f C:Addr}{fd:FuncData}{ps:List Str}{sp:Sp}{dvs:List V}{ds:List Value}{E:XK}{x m:Str}{p pos apos:Pos}{e o:Expr}{es:List Expr}{ta:TE}{t:TA}
theorem q7K{pins:List (Addr×Obj)}{σ:St}{H:Hp}{s:Shared}{Q:VK}{us:List Value}{vs:List V}(F:FnOk X.prog X.w X.K X.mg X.base CX k f fd ps sp)(hr:Room k X.A)(hb:jS X.K fd ps ds)(hd:Vals dvs ds)(hx:q0O CX X E)
 (I:Inv X pins σ H s) (r:Vals vs us) (h:sp (vs++dvs) H Q E):wpAny (model X.prog X.w) X.A (call (.ref f) us) (EP X pins σ Q) X.xe s:=by
 have r2:Vals (vs++dvs) (us++ds):=r.append hd
 have hl:(us++ds).length=ps.length:=by rw[←r2.length];exact F.len _ _ _ _ h
 refine cF (cM (F.run X.A X.stack s H ⟨us,[]⟩ (us++ds) (vs++dvs) Q E hr I.env0 (hb s us I.kIn hl) r2 h) λr s' hq=>?_)
 cases r with
 |error e=>exact hx pins σ H s e s' I hq
 |ok fl=>
  cases fl with
  |ret u=>exact I.after hq
  |next=>exact False.elim hq
  |brk=>exact False.elim hq
  |cont=>exact False.elim hq
theorem qW(F:FnOk X.prog X.w X.K X.mg X.base CX k f fd ps sp)(hr:Room k X.A)(hg:Gl X x)(hm:X.mg x=some (.ref f))(hk:PySem.W.keepIn X.K (.ref f)=true)(hb:jS X.K fd ps ds)(hd:Vals dvs ds)(hx:q0O CX X E)
 (ha:PA X (e::es) t) (hdb:(x==("__debug__":Str))=false:=by decide) (he:starEach (e::es) X.env=(false,eval e X.env)::starEach es X.env:=by rfl) (hpl:(backTo pos (starEach es X.env)).any (·.1)=false:=by rfl):
 PE X (.Call (.Name x p) (e::es) [] pos) (qH2 sp dvs E t):=by
 intro pins s σ H Q I h
 refine dC (q2D I hg hm ?_ hdb)
 refine wF (h₀:=X.base) I.ok.mod.kin hk (thn (ha pos pins s σ H _ I h) λus s1 ⟨vs,H1,I1,r,q⟩=>⟨I1.kIn,?_⟩) he hpl
 exact q7K F hr hb hd hx I1 r q
theorem qY{pl:Sem Bool}(he:PE X o ta)(c:Cls X.K C)(hm:Meth X.K C m f)(F:FnOk X.prog X.w X.K X.mg X.base CX k f fd ps sp)(hr:Room k X.A)(hb:jS X.K fd ps ds)(hd:Vals dvs ds)(hx:q0O CX X E)(ha:PA X (e::es) t)
 (hst:starEach (e::es) X.env=(false,eval e X.env)::starEach es X.env:=by rfl) (hpl:(backTo pos (starEach es X.env)).any (·.1)=false:=by rfl)
 (ht:eval (.Call (.Attribute o m apos) (e::es) [] pos) X.env=(do
  let ov←eval o X.env
  standAt apos.atName
  let(f,first)←holding [ov] (getMethod ov m pl)
  callWith pos f first (backTo pos (starEach (e::es) X.env)) (backToKw pos (keywordEach [] X.env))):=by rfl):
 PE X (.Call (.Attribute o m apos) (e::es) [] pos) (qH3 C m sp dvs E ta t):=by
 intro pins s σ H Q I h
 refine rK (pl:=pl) (thn (he pins s σ H _ I h) λu s1 hZ=>?_) ht
 obtain⟨x,H1,I1,rx,a,dx,fs,ex,ea,l,q⟩:=hZ
 subst ex
 obtain rfl:u=Value.ref a:=rx
 refine q0N I1 ea c hm l ?_
 refine wF (first:=[.ref a]) (h₀:=X.base) I.ok.mod.kin hm.kp (thn (ha pos pins s1 σ H1 _ I1 q) λus s2 ⟨vs,H2,I2,r,q2⟩=>⟨I2.kIn,?_⟩) hst hpl
 exact q7K (us:=.ref a::us) (vs:=.ref a::vs) F hr hb hd hx I2 (.cons rfl r) q2
theorem j9{pl:Sem Bool}(he:PE X o ta)(c:Cls X.K C)(hm:Meth X.K C m f)(F:FnOk X.prog X.w X.K X.mg X.base CX k f fd ps sp)(hr:Room k X.A)(hb:jS X.K fd ps ds)(hd:Vals dvs ds)(hx:q0O CX X E)
 (ht:eval (.Call (.Attribute o m apos) [] [] pos) X.env=(do
  let ov←eval o X.env
  standAt apos.atName
  let(f,first)←holding [ov] (getMethod ov m pl)
  callWith pos f first (backTo pos (starEach [] X.env)) (backToKw pos (keywordEach [] X.env))):=by rfl):
 PE X (.Call (.Attribute o m apos) [] [] pos) (qH3 C m sp dvs E ta tNil):=by
 intro pins s σ H Q I h
 refine rK (pl:=pl) (thn (he pins s σ H _ I h) λu s1 hZ=>?_) ht
 obtain⟨x,H1,I1,rx,a,dx,fs,ex,ea,l,q⟩:=hZ
 subst ex
 obtain rfl:u=Value.ref a:=rx
 refine q0N I1 ea c hm l ?_
 exact pM (first:=[.ref a]) I1.kIn hm.kp (q7K (us:=[.ref a]) (vs:=[.ref a]) F hr hb hd hx I1 (.cons rfl .nil) q)
structure Mk(K:PySem.W.Frag)(C f:Addr):Prop where
 makes:PySem.W.makesIn K C=true
 init:PySem.W.findIn K (.ref C) "__init__"=some (some (.ref f))
 fn:PySem.W.isFn K (.ref f)=true
 kp:PySem.W.keepIn K (.ref C)=true
theorem qD4{pins:List (Addr×Obj)}{σ:St}{H:Hp}{s:Shared}{Q:VK}{us:List Value}{vs:List V}(M:Mk X.K C f)(F:FnOk X.prog X.w X.K X.mg X.base CX k f fd ps sp)(hr:Room (k+1) X.A)(hb:jS X.K fd ps ds)(hd:Vals dvs ds)
 (hx:q0O CX X E) (I:Inv X pins σ H s) (r:Vals vs us)
 (h:∀x dx,H x=none→H dx=none→dx≠x→sp (.ref x::(vs++dvs)) (upd (upd H dx (.own x)) x (.ins C dx [])) (λv H2=>v=.non∧Q (.ref x) H2) E):
 wpAny (model X.prog X.w) X.A (call (.ref C) us) (EP X pins σ Q) X.xe s:=by
 have hq:=h (s.heap.objs.size+1) s.heap.objs.size (I.hok.fresh (dE _)) (I.hok.fresh (kM _)) (mL (dU _))
 have I2:=Inv.made (C:=C) I
 have r2:Vals (V.ref (s.heap.objs.size+1)::(vs++dvs)) (Value.ref (s.heap.objs.size+1)::(us++ds)):=.cons rfl (r.append hd)
 have hl:(Value.ref (s.heap.objs.size+1)::us++ds).length=ps.length:=by
  have e:=r2.length
  rw[F.len _ _ _ _ hq]at e
  exact e.symm
 refine cF (qD3 (f:=f) I.kIn M.makes M.init (rT.mp M.fn) (cM (F.run _ X.stack _ _ ⟨Value.ref (s.heap.objs.size+1)::us,[]⟩ (Value.ref (s.heap.objs.size+1)::(us++ds)) _ _ E (hr.make C us [])
  (I2.env0.make C us []) (hb _ (Value.ref (s.heap.objs.size+1)::us) I2.kIn hl) r2 hq) λr s' hq'=>?_))
 cases r with
 |error e=>exact hx pins σ _ _ e s' I2 hq'
 |ok fl=>
  cases fl with
  |ret u=>
   obtain⟨v,H',I3,rv,ev,q3⟩:=I2.after hq'
   subst ev
   exact⟨rv,⟨V.ref (s.heap.objs.size+1),H',I3,rfl,q3⟩⟩
  |next=>exact False.elim hq'
  |brk=>exact False.elim hq'
  |cont=>exact False.elim hq'
theorem q51(M:Mk X.K C f)(F:FnOk X.prog X.w X.K X.mg X.base CX k f fd ps sp)(hr:Room (k+1) X.A)(hg:Gl X x)(hm:X.mg x=some (.ref C))(hb:jS X.K fd ps ds)(hd:Vals dvs ds)(hx:q0O CX X E)
 (ha:PA X (e::es) t) (hdb:(x==("__debug__":Str))=false:=by decide) (he:starEach (e::es) X.env=(false,eval e X.env)::starEach es X.env:=by rfl) (hpl:(backTo pos (starEach es X.env)).any (·.1)=false:=by rfl):
 PE X (.Call (.Name x p) (e::es) [] pos) (qJX C sp dvs E t):=by
 intro pins s σ H Q I h
 refine dC (q2D I hg hm ?_ hdb)
 refine wF (h₀:=X.base) I.ok.mod.kin M.kp (thn (ha pos pins s σ H _ I h) λus s1 ⟨vs,H1,I1,r,q⟩=>⟨I1.kIn,?_⟩) he hpl
 exact qD4 M F hr hb hd hx I1 r q
end
noncomputable def PK(X:Cx)(kws:List Keyword)(t:TA):Prop:=
 ∀(pos:Pos) (pins:List (Addr×Obj)) (s:Shared) (σ:St) (H:Hp) (Q:List V→Hp→Prop),Inv X pins σ H s→t σ H Q→wpAny (model X.prog X.w) X.A (evalAll ((backToKw pos (keywordEach kws X.env)).map (·.2))) (AP X pins σ Q) X.xe s
section
variable{X:Cx}{CX:CXT}{k:Nat}{f C:Addr}{fd:FuncData}{ps ks:List Str}{sp:Sp}{E:XK}{x m:Str}{p pos apos kpos:Pos}{e o:Expr}{es:List Expr}{kws:List Keyword}{te ta:TE}{t tk:TA}{nm:Option Str}
theorem qA9:PK X [] tNil:=λ_ _ _ _ H Q I h=>wpAny_evalAll_nil ⟨[],H,I,.nil,h⟩
theorem q7L(ha:PE X e te)(hr:PK X kws t):PK X (⟨nm,e,kpos⟩::kws) (q8U te t):=by
 intro pos pins s σ H Q I h
 show wpAny _ _ (evalAll ((do let v←eval e X.env;standAt pos;pure v)::(backToKw pos (keywordEach kws X.env)).map (·.2))) _ _ s
 refine wpAny_evalAll_cons (kB (thn (ha pins s σ H _ I h) λu s1 ⟨x,H1,I1,r1,q1⟩=>kB (pA (mB ?_))))
 exact thn (hr pos pins s1 σ H1 _ I1 q1) λus s2 ⟨xs,H2,I2,r2,q2⟩=>⟨x::xs,H2,I2,.cons r1 r2,q2⟩
variable{g:List Value→List Value→List Value}{gV:List V→List V→List V}
end
structure FnScope(N P:List Str)(sc:Scope):Prop where
 kind:sc.kind=.function
 co:sc.isCoroutine=false
 gen:sc.isGenerator=false
 nd:N.Nodup
 pre:N.take P.length=P
 par:∀x∈P,sc.names.lookup x=some .local∨sc.names.lookup x=some .cell
 nofree:∀y∈sc.names,y.2≠ .free
theorem q70{kindOf:Str→Option NameKind}{x:Str}:∀{binds:List (Str×Value)} {m:Str→Option Value},(∀v,(x,v)∉binds)→bindL kindOf binds m x=m x
 | [],_,_=>rfl
 |(n,v)::r,m,h=>by
  unfold bindL
  rw[q70 λw hw=>h w (hX _ hw)]
  split
  ·have:x≠n:=by rintro rfl;exact h v kW
   simp[this]
  ·rfl
theorem q71{kindOf:Str→Option NameKind}{x:Str}:∀{binds:List (Str×Value)} {m:Str→Option Value},(∀v,(x,v)∉binds)→bindC kindOf binds m x=m x
 | [],_,_=>rfl
 |(n,v)::r,m,h=>by
  unfold bindC
  rw[q71 λw hw=>h w (hX _ hw)]
  split
  ·rfl
  ·have:x≠n:=by rintro rfl;exact h v kW
   simp[this]
theorem q72{kindOf:Str→Option NameKind}{x:Str}{v:Value}:∀{P:List Str} {vs:List Value} {i:Nat} {m:Str→Option Value},P.Nodup→P[i]?=some x→vs[i]?=some v→kindOf x=some .local→
 bindL kindOf (P.zip vs) m x=some v
 | [],_,_,_,_,h,_,_=>by simp at h
 |_::_,[],_,_,_,_,h,_=>by simp at h
 |p::P,w::vs,0,m,nd,h1,h2,hk=>by
  simp at h1 h2;subst h1;subst h2
  show bindL kindOf ((p,w)::P.zip vs) m p=_
  unfold bindL
  rw[q70 λv hv=>(m9.mp nd).1 (pH hv).1,kI hk]
  simp
 |p::P,w::vs,i+1,m,nd,h1,h2,hk=>by
  show bindL kindOf ((p,w)::P.zip vs) m x=_
  unfold bindL
  exact q72 (i:=i) (m9.mp nd).2 (by simpa using h1) (by simpa using h2) hk
theorem q73{kindOf:Str→Option NameKind}{x:Str}{v:Value}:∀{P:List Str} {vs:List Value} {i:Nat} {m:Str→Option Value},P.Nodup→P[i]?=some x→vs[i]?=some v→kindOf x≠some .local→
 bindC kindOf (P.zip vs) m x=some v
 | [],_,_,_,_,h,_,_=>by simp at h
 |_::_,[],_,_,_,_,h,_=>by simp at h
 |p::P,w::vs,0,m,nd,h1,h2,hk=>by
  simp at h1 h2;subst h1;subst h2
  show bindC kindOf ((p,w)::P.zip vs) m p=_
  unfold bindC
  rw[q71 λv hv=>(m9.mp nd).1 (pH hv).1,kF hk]
  simp
 |p::P,w::vs,i+1,m,nd,h1,h2,hk=>by
  show bindC kindOf ((p,w)::P.zip vs) m x=_
  unfold bindC
  exact q73 (i:=i) (m9.mp nd).2 (by simpa using h1) (by simpa using h2) hk
noncomputable def zL(N:List Str)(vs:List V):St:=vs.map some++List.replicate (N.length-vs.length) none
noncomputable def cxOf(CX:CXT)(P:Program)(w:World)(K:PySem.W.Frag)(mg:Str→Option Value)(base:Heap)(N:List Str)(qual:Str)(scope:Scope)(f:Addr)(cd:Value)(A:Around)(outer:List Env)(s:Shared)(H:Hp)(E:XK):Cx where
 prog:=P
 w:=w
 K:=K
 mg:=mg
 base:=base
 A:=A.deeper (envOfC qual scope s.heap.objs.size f cd)
 N:=N
 s₀:=s
 H₀:=H
 env:=envOfC qual scope s.heap.objs.size f cd
 outer:=outer
 stack:=envOfC qual scope s.heap.objs.size f cd::outer
 ex:=[]
 calm:=true
 fn:=λ_=>true
 pn:=[]
 xe:=λe s'=>wpAny (model P w) (A.deeper (envOfC qual scope s.heap.objs.size f cd)) (leaving (envOfC qual scope s.heap.objs.size f cd) e) (λ_ s''=>CX outer H s E e s'') (λe' s''=>CX outer H s E e' s'') s'
theorem q8V{sc:Scope}{n:Nat}{x:Str}(h:sc.names.lookup x=some .cell):∃c,(cellsFrom n sc.names []).lookup x=some c:=by
 have q:=cN sc.names n [] (.inl h)
 exact cA.mp q
theorem q74{CX:CXT}{P:Program}{w:World}{K:PySem.W.Frag}{mg:Str→Option Value}{base:Heap}{N ps:List Str}{qual:Str}{scope:Scope}{f:Addr}{cd:Value}{A:Around}{outer:List Env}{s s1:Shared}{H:Hp}{E:XK}{us:List Value}{vs:List V}
 (S:FnScope N ps scope) (hd:A.handled=none) (e0:Env0 P w K mg base A outer s H) (hl:vs.length=ps.length) (r:Vals vs us)
 (x:InCallC s s.heap.objs.size (bindL (envOfC qual scope s.heap.objs.size f cd).kindOf (ps.zip us) λ_=>none) (cellsFrom (s.heap.objs.size+1) scope.names []) (bindC (envOfC qual scope s.heap.objs.size f cd).kindOf (ps.zip us) λ_=>none) s1):
 Inv (cxOf CX P w K mg base N qual scope f cd A outer s H E) [] (zL N vs) H s1:=by
 have hpl:ps.length≤N.length:=by have:=dR List.length S.pre;rw[gL]at this;omega
 obtain⟨h1,tk,rfl,hk⟩:=x.done
 have noA:∀b:Addr,b∉(cxOf CX P w K mg base N qual scope f cd A outer s H E).ex:=λb z=>absurd (show b∈([]:List Addr)from z) (by simp)
 refine⟨⟨e0.mod,S.kind,rfl,rfl,kM _,λy z c h1 h2=>?_,λy hy=>?_,λy c _ h=>?_,λ_=>hd,Around.frames_deeper e0.frames,.inr ⟨rfl,rfl⟩,λb z=>absurd z (noA b),e0.bs,e0.bsz,λb _ _=>noA b,λb z=>absurd z (noA b),e0.funs,e0.frf⟩,
  rfl,e0.bare,Un.kept hk,⟨_,x.toInCall.ns,λi y v h1 h2 h3=>?_⟩,λy c h=>⟨_,x.cell y c h⟩,e0.hok.fresh (kM _),λy c h=>?_,λp hp=>absurd (show p∈([]:List (Addr×Obj))from hp) (by simp),e0.hok.kept hk,?_⟩
 ·exact name_of_addr x.apart (gN h1) (gN h2)
 ·have hy:scope.names.lookup y=some .cell∨scope.names.lookup y=some .free:=hy
  rcases hy with hy|hy
  ·exact q8V hy
  ·exact absurd rfl (S.nofree _ (gN hy))
 ·exact pP (x.above y c (gN h))
 ·have hi:i<vs.length:=by
   unfold zL at h2
   by_cases hi:i<vs.length
   ·exact hi
   ·rw[gP (by simpa using hi)]at h2
    rw[d8]at h2
    split at h2<;>cases h2
  have ha:vs[i]?=some v:=by
   unfold zL at h2
   rw[rN (by simpa using hi),mD]at h2
   cases e:vs[i]? with
   |none=>rw[e]at h2;cases h2
   |some a=>rw[e]at h2;cases h2;rfl
  obtain⟨u,hu,rv⟩:=r.get ha
  have hp:ps[i]?=some y:=by
   rw[←S.pre,List.getElem?_take_of_lt (by omega)];exact h1
  have ndP:ps.Nodup:=by rw[←S.pre];exact S.nd.sublist (List.take_sublist _ _)
  refine⟨u,rv,?_⟩
  rcases S.par y (m8 hp)with k|k
  ·exact .inl ⟨k,q72 ndP hp hu k⟩
  ·obtain⟨c,e⟩:=q8V (n:=s.heap.objs.size+1) k
   refine .inr ⟨.inl k,c,e,?_⟩
   have q:=x.cell y c e
   rw[q73 ndP hp hu (by show scope.names.lookup y≠_;rw[k];decide)]at q
   exact q
 ·exact e0.hok.fresh (pP (x.above y c (gN h)))
 ·unfold zL
  show _=N.length
  rw[kP,h9,gF]
  omega
theorem qB1{CX:CXT}{P:Program}{w:World}{K:PySem.W.Frag}{mg:Str→Option Value}{base:Heap}{k:Nat}{f:Addr}{name qual:Str}{params:Arguments}{body:List Stmt}{scope:Scope}{dV kV doc pm cdv ct oc:Value}{an od:Option Addr}
 {osl:Array (Option Value)} {N ps:List Str} {sp:Sp} (lk:K.lookup f=some ⟨oc,od,.func (PySem.W.fnOf name qual params body scope dV kV doc pm an cdv ct),osl⟩) (hcd:PySem.W.codeIn K cdv qual=true) (S:FnScope N ps scope)
 (len:∀vs H Q E,sp vs H Q E→vs.length=ps.length)
 (hbody:∀(A:Around) (outer:List Env) (s:Shared) (H:Hp) (vs:List V) (Q:VK) (E:XK),Room k (A.deeper (envOfC qual scope s.heap.objs.size f cdv))→sp vs H Q E→
  ∃t,PSs (cxOf CX P w K mg base N qual scope f cdv A outer s H E) body t∧t { nx:=λ_ H'=>Q .non H',rt:=Q } (zL N vs) H):
 FnOk P w K mg base CX (k+1) f (PySem.W.fnOf name qual params body scope dV kV doc pm an cdv ct) ps sp:=by
 refine⟨len,λA outer s H args us vs Q E hr e0 hb r hsp=>?_⟩
 have hl:=len _ _ _ _ hsp
 have KX:K.In s.heap:=e0.mod.kin.keeps λb o e=>(e0.bs b o e).1
 have lim:s.heap.NoLimit:=e0.mod.nolimit.keeps λb o e=>(e0.bs b o e).1
 have hkind:∀y∈ps.zip us,scope.names.lookup y.1=some .local∨(scope.names.lookup y.1=some .cell∧((cellsFrom (s.heap.objs.size+1) scope.names []).lookup y.1).isSome=true):=λ⟨n,v⟩ hy=>by
  rcases S.par n (pH hy).1 with q|q
  ·exact .inl q
  ·exact .inr ⟨q,cN _ _ _ (.inl q)⟩
 refine codeAny_call_function hr.depth (KX _ _ lk) rfl S.co S.gen rfl (PySem.W.codeRec_of KX hcd) (hb _ _ _ _ ?_)
 refine wpAny_newFunctionEnv_cells S.kind hkind λenv he s1 x=>?_
 subst he
 refine⟨lim.keeps x.toInCall.keep,codeAny_func ?_⟩
 obtain⟨t,ht,hq⟩:=hbody A outer s H vs Q E (hr.deeper _) hsp
 have I:Inv (cxOf CX P w K mg base N qual scope f cdv A outer s H E) [] (zL N vs) H s1:=q74 S hr.hd e0 hl r x
 refine dB (ht [] s1 (zL N vs) H _ I hq) (λfl s' hs=>?_) λe s' hs=>hs
 have fin:∀{σ':St} {H':Hp} {v:V} {u:Value},Inv (cxOf CX P w K mg base N qual scope f cdv A outer s H E) [] σ' H' s'→RelV v u→Q v H'→CE outer P w H s Q u s':=
  fun {σ' H' v u} J rv q=>⟨v,H',J.os,J.bare,J.base,J.hok,rv,q⟩
 cases fl with
 |ret u=>
  obtain⟨v,σ',H',J,rv,q⟩:=hs
  exact fin J rv q
 |next=>
  obtain⟨σ',H',J,q⟩:=hs
  exact fin (v:=V.non) (u:=Value.none) J rfl q
 |brk=>
  obtain⟨_,_,_,q⟩:=hs
  exact False.elim q
 |cont=>
  obtain⟨_,_,_,q⟩:=hs
  exact False.elim q
section
variable{X:Cx}{x:Str}{p pos:Pos}{e:Expr}{es:List Expr}{t:TA}{id T:String}{r:List V→Hp→VK→Prop}
noncomputable def tCB(r:List V→Hp→VK→Prop)(t:TA):TE:=λσ H Q=>t σ H λvs H1=>r vs H1 Q
theorem jA(hc:q1D X (.builtin id) r)(hg:Gl X x)(hm:X.mg x=none)(hv:bootBuiltins x=some (.builtin id))(ha:PA X (e::es) t)(hn:x≠"__name__":=by decide)(hdb:(x==("__debug__":Str))=false:=by decide)
 (he:starEach (e::es) X.env=(false,eval e X.env)::starEach es X.env:=by rfl) (hpl:(backTo pos (starEach es X.env)).any (·.1)=false:=by rfl):PE X (.Call (.Name x p) (e::es) [] pos) (tCB r t):=by
 intro pins s σ H Q I h
 refine dC (q1B I hg hm hv ?_ hn hdb)
 exact PyProof.Rows.callWith_builtin1 (thn (ha pos pins s σ H _ I h) λus s1 ⟨vs,H1,I1,r1,q1⟩=>hc pins s1 σ H1 vs us Q I1 r1 q1) he hpl
theorem q75(hc:q1D X (.type T) r)(hg:Gl X x)(hm:X.mg x=none)(hv:bootBuiltins x=some (.type T))(ha:PA X (e::es) t)(hn:x≠"__name__":=by decide)(hdb:(x==("__debug__":Str))=false:=by decide)
 (he:starEach (e::es) X.env=(false,eval e X.env)::starEach es X.env:=by rfl) (hpl:(backTo pos (starEach es X.env)).any (·.1)=false:=by rfl):PE X (.Call (.Name x p) (e::es) [] pos) (tCB r t):=by
 intro pins s σ H Q I h
 refine dC (q1B I hg hm hv ?_ hn hdb)
 exact wP (thn (ha pos pins s σ H _ I h) λus s1 ⟨vs,H1,I1,r1,q1⟩=>hc pins s1 σ H1 vs us Q I1 r1 q1) he hpl
end
end L2
namespace HT
open PySem PyProof.Rows
noncomputable def lexLt:List Int→List Int→Bool
 | [],[]=>false
 | [],_::_=>true
 |_::_,[]=>false
 |x::xs,y::ys=>if x=y then lexLt xs ys else decide (x<y)
theorem qAA(x y:Int)(xs ys:List Int):lexLt (x::xs) (y::ys)=if x=y then lexLt xs ys else decide (x<y):=rfl
theorem q6F:lexLt [] []=false:=rfl
theorem q5H(y:Int)(ys:List Int):lexLt [] (y::ys)=true:=rfl
theorem q5I(x:Int)(xs:List Int):lexLt (x::xs) []=false:=rfl
theorem qD5(A:Around)(s:Shared)(a:Int)(t:Tok)(c:Int)(u:Tok):∃e,SeqAt.EqAt A s (.int a t) (.int c u) e∧(e=true↔a=c):=
 ⟨(a==c),pR a t c u,by simp⟩
theorem qD6(A:Around)(s:Shared)(a:Int)(t:Tok)(c:Int)(u:Tok)(prog:Program)(w:World)(E:Value→Shared→Prop)(Q:Value→Shared→Prop)(h:Q (.bool (decide (a<c))) s):
 wpAny (model prog w) A (richCompare .Lt (.int a t) (.int c u)) Q E s:=
 (PyProof.Rows.lt_int h:wpAny (model prog w) A (compareOp .Lt (.int a t) (.int c u)) Q E s)
section
open PySem.SeqAt
open PySem.AutoSeq1 (wpAny_loadPart')
open PySem.MeetsSeq PySem.MeetsSeq2 PySem.MeetsSeq3
theorem q6G(l b:Addr)(items items2:Array Value)(n n2:Nat)(dd dd2:Option Addr)(sl sl2:Array (Option Value))(ns ms:List Int)(hi:IntsAre items.toList ns)(hj:IntsAre items2.toList ms):
 Meets (Builtin.«tuple.__lt__» ⟨[.ref l,.ref b],[]⟩)
  (λ_ R s=>s.heap.get? l=some { cls:=.type "tuple",dict:=dd,data:=.seq items n,slots:=sl }∧s.heap.get? b=some { cls:=.type "tuple",dict:=dd2,data:=.seq items2 n2,slots:=sl2 }∧
   R (.ok (.ret (.bool (lexLt ns ms)))) s):=
 .of_wp λprog w A R s h=>by
  obtain⟨hp,g,d,tk,os⟩:=s;obtain⟨hl,hb,h⟩:=h
  have f2:=AutoSeq1.sub_tuple_tuple
  have z1:items.size=ns.length:=by rw[←hi.length];simp
  have z2:items2.size=ms.length:=by rw[←hj.length];simp
  wp_walk using wpAny_loadPart' hl,wpAny_loadPart' hb,wpAny_forIn_list _ (λrest b s'=>b.1=none∧s'=⟨hp,g,d,tk,os⟩∧∃(vs ws:List Value) (ns' ms':List Int),rest=vs.zip ws∧
   IntsAre vs ns'∧IntsAre ws ms'∧ns'.length+items2.size=ms'.length+items.size∧R (.ok (.ret (.bool (lexLt ns' ms')))) ⟨hp,g,d,tk,os⟩) _
  case turn=>
   rintro⟨y,x⟩ rest b s' ⟨hb',rfl,vs,ws,ns',ms',hz,hvi,hwi,hlen,hR⟩
   cases hvi with
   |nil=>rw[List.zip_nil_left]at hz;cases hz
   |cons a t hvi'=>
    cases hwi with
    |nil=>rw[List.zip_nil_right]at hz;cases hz
    |cons c u hwi'=>
     rw[List.zip_cons_cons]at hz
     injection hz with hyx hrest
     injection hyx with hy hx
     subst hy hx
     rw[qAA]at hR
     simp only[mG]at hlen
     obtain⟨e,he,hiff⟩:=qD5 A.in1 ⟨hp,g,d,tk,os⟩ a t c u
     refine kB (he prog w _ _ ?_)
     cases e with
     |true=>
      rw[kI (hiff.mp rfl)]at hR
      wp_walk
      exact⟨rfl,rfl,_,_,_,_,hrest,hvi',hwi',by omega,hR⟩
     |false=>
      rw[kF (λq=>absurd (hiff.mpr q) kO)]at hR
      have hri:=qD6 A.in1 ⟨hp,g,d,tk,os⟩ a t c u prog w
      wp_walk using hri
      exact⟨_,rfl,by simpa using hR⟩
  case fin=>
   rintro⟨b1,b2⟩ s' ⟨hb',rfl,vs,ws,ns',ms',hz,hvi,hwi,hlen,hR⟩
   simp only at hb'
   subst hb'
   have hv:lexLt ns' ms'=decide (items.size<items2.size):=by
    cases hvi with
    |nil=>
     cases hwi with
     |nil=>
      simp only[wI]at hlen
      rw[q6F]
      exact(kD (by omega)).symm
     |cons c u hw=>
      simp only[wI,mG]at hlen
      rw[q5H]
      exact(hG (by omega)).symm
    |cons a t hv=>
     cases hwi with
     |nil=>
      simp only[wI,mG]at hlen
      rw[q5I]
      exact(kD (by omega)).symm
     |cons c u hw=>
      rw[List.zip_cons_cons]at hz
      cases hz
   rw[hv]at hR
   wp_walk
   exact⟨_,rfl,by simpa[Builtin.Tuple.tupleCompareSizes]using hR⟩
  case h=>
   exact⟨rfl,rfl,items.toList,items2.toList,ns,ms,rfl,hi,hj,by omega,h⟩
end
section
variable{prog:Program}{w:World}{A:Around}{E:Value→Shared→Prop}{s:Shared}
theorem lt_tupInts{l b:Addr}{items items2:Array Value}{ns ms:List Int}{Q:Value→Shared→Prop}(hl:IsTup s.heap l items)(hb:IsTup s.heap b items2)(hi:IntsAre items.toList ns)(hj:IntsAre items2.toList ms)
 (hu:A.units<cLine) (h:Q (.bool (lexLt ns ms)) s):wpAny (model prog w) A (compareOp .Lt (.ref l) (.ref b)) Q E s:=by
 obtain⟨⟨cls,dd,data,sl⟩,ho,hc,n,hd⟩:=id hl
 obtain⟨⟨cls2,dd2,data2,sl2⟩,ho2,hc2,n2,hd2⟩:=id hb
 simp only at hc hd hc2 hd2
 subst hc hd hc2 hd2
 exact richCompare_meets_room (op:=.Lt) ⟨_,ho,rfl⟩ ⟨_,ho2,rfl⟩ PySem.F.slot_tuple_lt PySem.F.entry_tuple_lt (PySem.F.args_tuple_lt_2 _ _) (q6G l b items items2 n n2 dd dd2 sl sl2 ns ms hi hj)
  ⟨ho,ho2,show Value.bool (lexLt ns ms)≠Value.notImplemented∧Q (.bool (lexLt ns ms)) s from⟨(λx=>nomatch x),h⟩⟩ hu
noncomputable def sIx(n d:Nat):Option Int→Nat
 |none=>d
 |some v=>if v<0 then(v+(n:Int)).toNat else min v.toNat n
end
end HT
namespace L2
open PySem PySem.Spec PyProof.Rows
noncomputable abbrev TO:=St→Hp→(Option Int→Hp→Prop)→Prop
noncomputable def PO(X:Cx)(e:Option Expr)(t:TO):Prop:=
 ∀(pins:List (Addr×Obj)) (s:Shared) (σ:St) (H:Hp) (Q:Option Int→Hp→Prop),Inv X pins σ H s→t σ H Q→
  wpAny (model X.prog X.w) X.A (evalPart e X.env) (λu s'=>∃o H',Inv X pins σ H' s'∧IsPart u o∧Q o H') X.xe s
noncomputable def qF9:TO:=λ_ H Q=>Q none H
noncomputable def qJY(t:TE):TO:=λσ H Q=>t σ H λx H1=>∃i,x=.int i∧Q (some i) H1
section
variable{X:Cx}{e:Expr}{te:TE}{lo hi:Option Expr}{tl th:TO}{pos p2:Pos}
theorem qFA:PO X none qF9:=by
 intro pins s σ H Q I h
 rw[evalPart_none]
 exact mB ⟨none,H,I,.none,h⟩
theorem qFB(h:PE X e te):PO X (some e) (qJY te):=by
 intro pins s σ H Q I hw
 rw[evalPart_some]
 refine thn (h pins s σ H _ I hw) λu s1 hZ=>?_
 obtain⟨x,H1,I1,r1,q1⟩:=hZ
 obtain⟨i,rfl,q⟩:=q1
 obtain⟨t,rfl⟩:=r1
 exact⟨some i,H1,I1,.int i t,q⟩
noncomputable def SlR(X:Cx)(r:V→Option Int→Option Int→Hp→VK→Prop):Prop:=
 ∀(pins:List (Addr×Obj)) (s:Shared) (σ:St) (H:Hp) (x:V) (v vl vu:Value) (lo hi:Option Int) (sl:Addr) (Q:VK),Inv X pins σ H s→RelV x v→s.heap.IsSliceOf sl vl vu .none→IsPart vl lo→IsPart vu hi→r x lo hi H Q→
  ∃T id,typeLookup (.type T) "__getitem__"=pure (some (.builtin id))∧s.TypeIs v T∧wpAny (model X.prog X.w) X.A (getItem v (.ref sl)) (EP X pins σ Q) X.xe s
noncomputable def tSl(r:V→Option Int→Option Int→Hp→VK→Prop)(te:TE)(tl th:TO):TE:=λσ H Q=>te σ H λx H1=>tl σ H1 λl H2=>th σ H2 λu H3=>r x l u H3 Q
theorem qD7{r:V→Option Int→Option Int→Hp→VK→Prop}(hr:SlR X r)(he:PE X e te)(hl:PO X lo tl)(hu:PO X hi th):PE X (.Subscript e (.Slice lo hi none p2) pos) (tSl r te tl th):=by
 intro pins s σ H Q I h
 refine Subscript_ (thn (he pins s σ H _ I h) λv s1 hZ=>?_)
 obtain⟨x,H1,I1,r1,q1⟩:=hZ
 refine wpAny_Slice (thn (hl pins s1 σ H1 _ I1 q1) λvl s2 ⟨l,H2,I2,pl,q2⟩=>thn (hu pins s2 σ H2 _ I2 q2) λvu s3 hZ=>?_)
 obtain⟨u,H3,I3,pu,q3⟩:=hZ
 rw[evalPart_none]
 refine mB ?_
 have I4:Inv X pins σ H3 { s3 with heap:=s3.heap.push { cls:=.type "slice",data:=.fields #[vl,vu,.none] } }:=I3.kept (t':=s3.toks) λb ob q=>kC _ q
 obtain⟨T,id,hT,ht,hg⟩:=hr pins { s3 with heap:=s3.heap.push { cls:=.type "slice",data:=.fields #[vl,vu,.none] } } σ H3 x v vl vu l u s3.heap.objs.size Q I4 r1 (Heap.IsSliceOf.new ..) pl pu q3
 show wpAny (model X.prog X.w) X.A (subscriptTail e (.Slice lo hi none p2) v (.ref s3.heap.objs.size)) (EP X pins σ Q) X.xe { s3 with heap:=s3.heap.push { cls:=.type "slice",data:=.fields #[vl,vu,.none] } }
 exact tail_any (ops:=[.ref s3.heap.objs.size,v]) ht hT hg (by with_unfolding_all rfl)
noncomputable def cutV(xs:List V)(lo hi:Option Int):List V:=(xs.drop (HT.sIx xs.length 0 lo)).take (HT.sIx xs.length xs.length hi-HT.sIx xs.length 0 lo)
theorem q8W(xs:List V)(lo hi:Option Int):(cutV xs lo hi).length≤xs.length:=by
 unfold cutV
 rw[gL,p6]
 omega
end
noncomputable def ixN(n:Nat)(i:Int):Option Nat:=if 0≤i then(if i<n then some i.toNat else none)else if-(n:Int)≤i then some (i+n).toNat else none
noncomputable def atI{α:Type}(xs:List α)(i:Int):Option α:=(ixN xs.length i).bind λj=>xs[j]?
theorem qB2{n:Nat}{i:Int}{j:Nat}(h:ixN n i=some j):seqIndex? i n=some j∧j<n∧-(n:Int)≤i∧i<n:=by
 unfold ixN at h
 by_cases h0:0≤i
 ·rw[kI h0]at h
  by_cases h1:i<n
  ·rw[kI h1]at h
   have e:i.toNat=j:=kQ h
   exact⟨by rw[seqIndex_of h0 h1,e],by omega,by omega,h1⟩
  ·rw[kF h1]at h;cases h
 ·rw[kF h0]at h
  by_cases h1:-(n:Int)≤i
  ·rw[kI h1]at h
   have e:(i+n).toNat=j:=kQ h
   exact⟨by rw[seqIndex_neg (by omega) h1,e],by omega,h1,by omega⟩
  ·rw[kF h1]at h;cases h
theorem q7M{α:Type}{xs:List α}{i:Int}{v:α}(h:atI xs i=some v):∃j,seqIndex? i xs.length=some j∧xs[j]?=some v∧j<xs.length∧-(xs.length:Int)≤i∧i<xs.length:=by
 unfold atI at h
 cases e:ixN xs.length i with
 |none=>rw[e]at h;cases h
 |some j=>
  rw[e]at h
  obtain⟨h1,h2,h3,h4⟩:=qB2 e
  exact⟨j,h1,h,h2,h3,h4⟩
theorem yP{α:Type}{xs:List α}{j:Nat}{v:α}(h:xs[j]?=some v):atI xs (j:Int)=some v:=by
 have hj:j<xs.length:=(kE.mp h).1
 have e:ixN xs.length (j:Int)=some j:=by
  unfold ixN
  rw[kI (by omega),kI (by omega)];simp
 unfold atI;rw[e];exact h
noncomputable def qFC(b:Expr):Prop:=∀o i,subscripted b false o i=operate [o,i] (getItem o i)
noncomputable def IxR(X:Cx)(r:R2):Prop:=
 ∀(value slice:Expr) (pins:List (Addr×Obj)) (s:Shared) (σ:St) (H:Hp) (x y:V) (v u:Value) (Q:VK),Inv X pins σ H s→RelV x v→RelV y u→r x y H Q→
  subscripted slice false v u=operate [v,u] (getItem v u)→wpAny (model X.prog X.w) X.A (subscriptTail value slice v u) (EP X pins σ Q) X.xe s
noncomputable def MtR(X:Cx)(id:String)(r:V→List V→Hp→VK→Prop):Prop:=
 ∀(pins:List (Addr×Obj)) (s:Shared) (σ:St) (H:Hp) (x:V) (xs:List V) (v:Value) (us:List Value) (Q:VK),Inv X pins σ H s→RelV x v→Vals xs us→r x xs H Q→
  wpAny (model X.prog X.w) X.A (call (.builtin id) (v::us)) (EP X pins σ Q) X.xe s
section
variable{X:Cx}{a b:Expr}{ta tb:TE}{pos:Pos}
theorem qS{r:R2}(hr:IxR X r)(ha:PE X a ta)(hb:PE X b tb)(hs:qFC b):PE X (.Subscript a b pos) (tOp r ta tb):=by
 intro pins s σ H Q I h
 exact Subscript_ (binT ha hb I h λv u s2 x y H2 I2 rx ry q=>hr a b pins s2 σ H2 x y v u Q I2 rx ry q (hs _ _))
noncomputable def rIxL(K:PySem.W.Frag):R2:=λx y H Q=>∃p xs i v,x=.ref p∧y=.int i∧SqL K H p xs∧atI xs i=some v∧Q v H
noncomputable def rIxT(K:PySem.W.Frag):R2:=λx y H Q=>∃p xs i v,x=.ref p∧y=.int i∧SqT K H p xs∧atI xs i=some v∧Q v H
theorem jB:IxR X (rIxL X.K):=by
 intro value slice pins s σ H x y v u Q I rx ry h hs
 obtain⟨p,xs,i,z,rfl,rfl,hq,he,q⟩:=h
 cases rx
 obtain⟨t,rfl⟩:=ry
 obtain⟨its,r,pl,hz⟩:=I.list hq
 obtain⟨j,h1,h2,h3,h4,h5⟩:=q7M he
 obtain⟨w,ew,rw'⟩:=r.get h2
 have hl:=r.length
 have hn:=q5E
 have fin:EP X pins σ Q w s:=⟨z,H,I,rw',q⟩
 by_cases h0:0≤i
 ·have hj:i.toNat=j:=by
   rw[seqIndex_of h0 h5]at h1
   exact kQ h1
  exact item_listR pl.isList h0 (by omega) (by rw[hj];simpa using ew) fin hs
 ·have hj:(i+(its.toArray.size:Int)).toNat=j:=by
   rw[seqIndex_neg (by omega) h4]at h1
   rw[mC,←hl]
   exact kQ h1
  exact subscriptTail_builtinR (x:=w) pl.isList.typeIs slot_list_getitem.lookup
   (wpAny_getItem_list_neg (Q:=λr s'=>r=w∧EP X pins σ Q r s') pl.isList (by omega) (by rw[mC]<;>omega) (by omega) (by rw[hj];simpa using ew) ⟨rfl,fin⟩) hs
theorem jC:IxR X (rIxT X.K):=by
 intro value slice pins s σ H x y v u Q I rx ry h hs
 obtain⟨p,xs,i,z,rfl,rfl,hq,he,q⟩:=h
 cases rx
 obtain⟨t,rfl⟩:=ry
 obtain⟨its,r,pl,hz⟩:=I.tuple hq
 obtain⟨j,h1,h2,h3,h4,h5⟩:=q7M he
 obtain⟨w,ew,rw'⟩:=r.get h2
 have hl:=r.length
 have hn:=q5E
 have fin:EP X pins σ Q w s:=⟨z,H,I,rw',q⟩
 exact subscriptTail_builtinR (x:=w) pl.typeIs slot_tuple_getitem.lookup
  (getItem_tuple (j:=j) (Q:=λr s'=>r=w∧EP X pins σ Q r s') pl (by omega) (by omega) (by rw[mC,←hl];exact h1) (by simpa using ew) ⟨rfl,fin⟩) hs
theorem qAB(its:List Value)(n j:Nat)(u:Value):Obj.mapSeq (·.setIfInBounds j u) { cls:=.type "list",data:=.seq its.toArray n } = { cls:=.type "list",data:=.seq (its.set j u).toArray n }:=by
 simp[Obj.mapSeq]
theorem Inv.lst{pins:List (Addr×Obj)}{σ:St}{H:Hp}{s:Shared}{p:Addr}{xs:List V}(I:Inv X pins σ H s)(h:H p=some (.lst xs)):
 ∃(its:List Value) (n:Nat),Vals xs its∧s.heap.get? p=some { cls:=.type "list",data:=.seq its.toArray n }∧xs.length≤sizeLine:=by
 obtain⟨z,its,n,r,e⟩:=I.hok p _ h
 exact⟨its,n,r,e,z⟩
theorem Inv.lstUpd{pins:List (Addr×Obj)}{σ:St}{H:Hp}{s:Shared}{p:Addr}{xs ys:List V}{its its':List Value}{n n':Nat}{f:Obj→Obj}(I:Inv X pins σ H s)(h:H p=some (.lst xs))
 (ho:s.heap.get? p=some { cls:=.type "list",data:=.seq its.toArray n }) (hf:f { cls:=.type "list",data:=.seq its.toArray n } = { cls:=.type "list",data:=.seq its'.toArray n' }) (r:Vals ys its') (hz:ys.length≤sizeLine) (t:Nat):
 Inv X pins σ (upd H p (.lst ys)) { s with heap:=s.heap.update p f,toks:=t }:=by
 have e:(s.heap.update p f).get? p=some { cls:=.type "list",data:=.seq its'.toArray n' }:=by
  rw[dS f ho (by rw[hf]<;>rfl),hf]
 refine I.write (x:=p) (e:=p) (by rw[h];trivial) (.inl rfl) (λb u hb q=>(kY _ _ (wD hb)).trans q) ⟨_,e⟩ ?_
 exact⟨hz,its',n',r,e⟩
noncomputable def qJZ:V→V→V→Hp→(Hp→Prop)→Prop:=λo i v H Q=>∃p xs k j,o=.ref p∧i=.int k∧H p=some (.lst xs)∧ixN xs.length k=some j∧Q (upd H p (.lst (xs.set j v)))
theorem yU:PSet X qJZ:=by
 intro pins s σ H o i v ov iv u Q I ro ri rv h
 obtain⟨p,xs,k,j,rfl,rfl,hp,hj,q⟩:=h
 cases ro
 obtain⟨t,rfl⟩:=ri
 obtain⟨its,n,r,ho,hz⟩:=I.lst hp
 obtain⟨h1,h2,h3,h4⟩:=qB2 hj
 have hl:=r.length
 have hn:=q5E
 have I':Inv X pins σ (upd H p (.lst (xs.set j v))) { s with heap:=s.heap.update p (Obj.mapSeq (·.setIfInBounds j u)) }:=
  I.lstUpd hp ho (qAB its n j u) (r.set rv j) (by rw[gG];exact hz) s.toks
 by_cases h0:0≤k
 ·have hk:k.toNat=j:=by
   rw[seqIndex_of h0 h4]at h1
   exact kQ h1
  exact PySem.W.ki_setAt ho h0 (by omega) (by rw[mC,←hl];exact h4) (by rw[hk];exact⟨_,I',q⟩)
 ·have hk:(k+(its.toArray.size:Int)).toNat=j:=by
   rw[seqIndex_neg (by omega) h3]at h1
   rw[mC,←hl]
   exact kQ h1
  exact PySem.W.ki_setBack ho (by omega) (by rw[mC,←hl];exact h3) (by omega) (by rw[hk];exact⟨_,I',q⟩)
theorem q7N(lo hi:Option Int)(n:Nat):(sliceBounds lo hi none n).1=((HT.sIx n 0 lo:Nat):Int)∧(sliceBounds lo hi none n).2.1=((HT.sIx n n hi:Nat):Int)∧(sliceBounds lo hi none n).2.2=1:=by
 refine⟨?_,?_,rfl⟩
 ·cases lo with
  |none=>simp[sliceBounds,HT.sIx]
  |some i=>
   simp only[sliceBounds,HT.sIx,Option.getD_none,show(1:Int)>0 by decide,if_true]
   by_cases h:i<0
   ·simp only[h,if_true]<;>omega
   ·simp only[h,sQ]<;>omega
 ·cases hi with
  |none=>simp[sliceBounds,HT.sIx]
  |some i=>
   simp only[sliceBounds,HT.sIx,Option.getD_none,show(1:Int)>0 by decide,if_true]
   by_cases h:i<0
   ·simp only[h,if_true]<;>omega
   ·simp only[h,sQ]<;>omega
theorem q6H(its:List Value)(lo hi:Option Int):slicePick its.toArray lo hi none=((its.drop (HT.sIx its.length 0 lo)).take (HT.sIx its.length its.length hi-HT.sIx its.length 0 lo)).toArray:=by
 obtain⟨h1,h2,h3⟩:=q7N lo hi its.toArray.size
 unfold slicePick
 rw[h1,h2,h3]
 simp only[sliceRange_one,pick_run,mC]<;>rfl
noncomputable def rSlL(K:PySem.W.Frag):V→Option Int→Option Int→Hp→VK→Prop:=λx lo hi H Q=>∃a xs,x=.ref a∧SqL K H a xs∧∀p,H p=none→Q (.ref p) (upd H p (.lst (cutV xs lo hi)))
theorem qFD:SlR X (rSlL X.K):=by
 intro pins s σ H x v vl vu lo hi sl Q I rx hs pl pu h
 obtain⟨a,xs,rfl,hx,q⟩:=h
 cases rx
 obtain⟨its,r,ht,hz⟩:=I.list hx
 have hlen:=r.length
 refine⟨"list",_,slot_list_getitem.lookup,ht.isList.typeIs,?_⟩
 refine wpAny_getItem_list_slice ht.isList hs pl pu .none (by simp) ?_ (by rw[mC]<;>omega)
 rw[q6H,←hlen]
 refine⟨.ref s.heap.objs.size,_,I.laid (t':=s.toks) (o:=.lst (cutV xs lo hi)) (λb ob q=>kC _ q) (kM _) ?_,rfl,q _ (I.hok.fresh (kM _))⟩
 exact⟨mF (q8W xs lo hi) hz,_,0,(r.drop (HT.sIx xs.length 0 lo)).take (HT.sIx xs.length xs.length hi-HT.sIx xs.length 0 lo),mI _ rfl⟩
noncomputable def q16:V→Bool
 | .non=>true
 | .bl _=>true
 | .int _=>true
 | .str _=>true
 |_=>false
noncomputable def eqV:V→V→Bool
 | .non,.non=>true
 | .bl a,.bl b=>a==b
 | .bl a,.int b=>(if a then 1 else 0)==b
 | .int a,.bl b=>a==(if b then 1 else 0)
 | .int a,.int b=>a==b
 | .str a,.str b=>a==b
 |_,_=>false
theorem qD8{A:Around}{s:Shared}{y x:V}{u v:Value}(ry:RelV y u)(rx:RelV x v)(fy:q16 y=true)(fx:q16 x=true):SeqAt.EqAt A s u v (eqV y x):=by
 cases y with
 |non=>
  cases ry
  cases x with
  |non=>cases rx;exact SeqAt.EqAt.same _
  |bl b=>cases rx;exact SeqAt.EqAt.none_bool b
  |int b=>obtain⟨t,rfl⟩:=rx;exact SeqAt.EqAt.none_int b t
  |str b=>obtain⟨t,rfl⟩:=rx;exact SeqAt.EqAt.none_str b t
  |_=>exact absurd (show false=true from fx) kO
 |bl a=>
  cases ry
  cases x with
  |non=>cases rx;exact SeqAt.EqAt.bool_none a
  |bl b=>cases rx;exact SeqAt.EqAt.bool_bool a b
  |int b=>obtain⟨t,rfl⟩:=rx;exact SeqAt.EqAt.bool_int a b t
  |str b=>obtain⟨t,rfl⟩:=rx;exact SeqAt.EqAt.bool_str a b t
  |_=>exact absurd (show false=true from fx) kO
 |int a=>
  obtain⟨t',rfl⟩:=ry
  cases x with
  |non=>cases rx;exact SeqAt.EqAt.int_none a t'
  |bl b=>cases rx;exact SeqAt.EqAt.int_bool a t' b
  |int b=>obtain⟨t,rfl⟩:=rx;exact pR a t' b t
  |str b=>obtain⟨t,rfl⟩:=rx;exact SeqAt.EqAt.int_str a t' b t
  |_=>exact absurd (show false=true from fx) kO
 |str a=>
  obtain⟨t',rfl⟩:=ry
  cases x with
  |non=>cases rx;exact SeqAt.EqAt.str_none a t'
  |bl b=>cases rx;exact SeqAt.EqAt.str_bool a t' b
  |int b=>obtain⟨t,rfl⟩:=rx;exact SeqAt.EqAt.str_int a t' b t
  |str b=>obtain⟨t,rfl⟩:=rx;exact SeqAt.EqAt.str_str a t' b t
  |_=>exact absurd (show false=true from fx) kO
 |_=>exact absurd (show false=true from fy) kO
noncomputable def eqU(x:V)(u:Value):Bool:=match u with
 | .none=>eqV .non x
 | .bool b=>eqV (.bl b) x
 | .int i _=>eqV (.int i) x
 | .str z _=>eqV (.str z) x
 |_=>false
theorem qD9{x y:V}{u:Value}(r:RelV y u)(f:q16 y=true):eqU x u=eqV y x:=by
 cases y with
 |non=>cases r;rfl
 |bl b=>cases r;rfl
 |int i=>obtain⟨t,rfl⟩:=r;rfl
 |str z=>obtain⟨t,rfl⟩:=r;rfl
 |_=>exact absurd (show false=true from f) kO
theorem q3N{x:V}:∀{xs:List V} {us:List Value},Vals xs us→xs.all q16=true→us.any (eqU x)=xs.any λy=>eqV y x
 |_,_,.nil,_=>rfl
 |y::xs,u::us,.cons r t,f=>by
  rw[List.all_cons,mR]at f
  rw[cB,cB,qD9 r f.1,q3N t f.2]
theorem q1E{A:Around}{s:Shared}{x:V}{v:Value}(rx:RelV x v)(fx:q16 x=true):∀{xs:List V} {us:List Value},Vals xs us→xs.all q16=true→∀u∈us,SeqAt.EqAt A s u v (eqU x u)
 |_,_,.nil,_=>λu hu=>by cases hu
 |y::xs,u::us,.cons r t,f=>λu' hu=>by
  rw[List.all_cons,mR]at f
  rcases kL.mp hu with rfl|hu
  ·rw[qD9 r f.1];exact qD8 r rx f.1 fx
  ·exact q1E rx fx t f.2 u' hu
noncomputable def inV(x:V)(xs:List V):Bool:=xs.any λy=>eqV y x
noncomputable def rIn(K:PySem.W.Frag)(neg:Bool):R2:=λx y H Q=>∃p xs,y=.ref p∧(SqL K H p xs∨SqT K H p xs)∧q16 x=true∧xs.all q16=true∧Q (.bl (if neg then !inV x xs else inV x xs)) H
theorem qC6:OpR X (compareOp .In) (rIn X.K false):=by
 intro pins s σ H x y v u Q I rx ry h
 obtain⟨p,xs,rfl,hq,fx,fs,q⟩:=h
 cases ry
 rcases hq with hq|hq
 ·obtain⟨its,r,pl,hz⟩:=I.list hq
  refine SeqAt.in_listAt (eqU x) pl.isList (λw hw=>q1E rx fx r fs w (by simpa using hw)) ⟨.bl _,H,I,rfl,?_⟩
  rw[show its.toArray.any (eqU x)=its.any (eqU x) by simp,q3N r fs]
  exact q
 ·obtain⟨its,r,pl,hz⟩:=I.tuple hq
  refine SeqAt.in_tupleAt (eqU x) pl (λw hw=>q1E rx fx r fs w (by simpa using hw)) ⟨.bl _,H,I,rfl,?_⟩
  rw[show its.toArray.any (eqU x)=its.any (eqU x) by simp,q3N r fs]
  exact q
theorem q3O:OpR X (compareOp .NotIn) (rIn X.K true):=by
 intro pins s σ H x y v u Q I rx ry h
 obtain⟨p,xs,rfl,hq,fx,fs,q⟩:=h
 cases ry
 rcases hq with hq|hq
 ·obtain⟨its,r,pl,hz⟩:=I.list hq
  refine SeqAt.notIn_listAt (eqU x) pl.isList (λw hw=>q1E rx fx r fs w (by simpa using hw)) ⟨.bl _,H,I,rfl,?_⟩
  rw[show its.toArray.any (eqU x)=its.any (eqU x) by simp,q3N r fs]
  exact q
 ·obtain⟨its,r,pl,hz⟩:=I.tuple hq
  refine SeqAt.notIn_tupleAt (eqU x) pl (λw hw=>q1E rx fx r fs w (by simpa using hw)) ⟨.bl _,H,I,rfl,?_⟩
  rw[show its.toArray.any (eqU x)=its.any (eqU x) by simp,q3N r fs]
  exact q
theorem qZ:q1D X (.builtin "len") (λxs H Q=>∃p ys,xs=[.ref p]∧(SqL X.K H p ys∨SqT X.K H p ys)∧Q (.int ys.length) H):=by
 intro pins s σ H xs us Q I r h
 obtain⟨p,ys,rfl,hq,q⟩:=h
 obtain⟨u,rfl,rx⟩:=q15 r
 cases rx
 have hn:=q5E
 rcases hq with hq|hq
 ·obtain⟨its,r',pl,hz⟩:=I.list hq
  have hlen:=r'.length
  exact Calls.call_len_list pl.isList (by simp only[mC]<;>omega) ⟨.int ys.length,H,I.tok _,⟨s.toks+1,by rw[mC,hlen]⟩,q⟩
 ·obtain⟨its,r',pl,hz⟩:=I.tuple hq
  have hlen:=r'.length
  exact len_tuple pl (by simp only[mC]<;>omega) ⟨.int ys.length,H,I.tok _,⟨s.toks+1,by rw[mC,hlen]⟩,q⟩
theorem q7O:q1D X (.type "list") (λxs H Q=>∃p ys,xs=[.ref p]∧(SqL X.K H p ys∨SqT X.K H p ys)∧∀l,H l=none→Q (.ref l) (upd H l (.lst ys))):=by
 intro pins s σ H xs us Q I r h
 obtain⟨p,ys,rfl,hq,q⟩:=h
 obtain⟨u,rfl,rx⟩:=q15 r
 cases rx
 have fin:∀(its:List Value),Vals ys its→ys.length≤sizeLine→∀(h':Heap) (c':Nat),(∀b o',s.heap.get? b=some o'→h'.get? b=some o')→
  h'.get? s.heap.objs.size=some { cls:=.type "list",dict:=none,data:=.seq its.toArray c',slots:=#[] }→EP X pins σ Q (.ref s.heap.objs.size) { s with heap:=h' }:=λits r' hz h' c' kp e=>
  ⟨.ref s.heap.objs.size,_,I.laid (t':=s.toks) kp (kM _) (show jK X.prog X.w _ h' _ (.lst ys)from⟨hz,its,c',r',e⟩),rfl,q _ (I.hok.fresh (kM _))⟩
 rcases hq with hq|hq
 ·obtain⟨its,r',pl,hz⟩:=I.list hq
  have hlen:=r'.length
  obtain⟨o,ho,hc,n,hd⟩:=pl.isList
  exact call_list_seq p (.inl rfl) ho hc hd (λh' c' kp e=>fin its r' hz h' c' kp e) (by simp only[mC]<;>omega)
 ·obtain⟨its,r',pl,hz⟩:=I.tuple hq
  have hlen:=r'.length
  obtain⟨o,ho,hc,n,hd⟩:=pl
  exact call_list_seq p (.inr rfl) ho hc hd (λh' c' kp e=>fin its r' hz h' c' kp e) (by simp only[mC]<;>omega)
noncomputable def tyV(K:PySem.W.Frag)(T:String)(x:V)(H:Hp):Prop:=match x with
 | .str _=>T="str"
 | .int _=>T="int"
 | .ref p=>(T="list"∧∃xs,SqL K H p xs)∨(T="tuple"∧∃o,K.lookup p=some o∧o.cls=.type "tuple"∧o.dict=none)∨
   (T="dict"∧((∃kvs,H p=some (.dK kvs))∨∃kvs,H p=some (.dT kvs)))∨(T="set"∧∃S n,H p=some (.set S n))
 |_=>False
theorem qDA{pins:List (Addr×Obj)}{σ:St}{H:Hp}{s:Shared}{T:String}{x:V}{v:Value}(I:Inv X pins σ H s)(r:RelV x v)(ty:tyV X.K T x H):
 s.TypeIs v T∧∀a,v=.ref a→∃ob,s.heap.get? a=some ob∧ob.dict=none:=by
 cases x with
 |str z=>
  obtain⟨t,rfl⟩:=r
  cases(show T="str" from ty)
  exact⟨typeIs_str s z t,λ_ e=>nomatch e⟩
 |int i=>
  obtain⟨t,rfl⟩:=r
  cases(show T="int" from ty)
  exact⟨typeIs_int s i t,λ_ e=>nomatch e⟩
 |ref p=>
  cases r
  rcases ty with⟨rfl,xs,hq⟩|⟨rfl,o,hk,hc,hd⟩|⟨rfl,hk⟩|⟨rfl,S,n,hk⟩
  ·obtain⟨its,_,pl,_⟩:=I.list hq
   refine⟨pl.isList.typeIs,λa e=>?_⟩
   cases e
   obtain⟨o,n,e,c,hd,_⟩:=pl
   exact⟨o,e,hd⟩
  ·refine⟨⟨o,I.kIn p o hk,hc⟩,λa e=>?_⟩
   cases e
   exact⟨o,I.kIn _ o hk,hd⟩
  ·have z:∃o,s.heap.get? p=some o∧o.ExactDict:=by
    rcases hk with⟨kvs,hk⟩|⟨kvs,hk⟩
    ·obtain⟨_,_,_,_,o,_,_,e,ex,_⟩:=I.hok p _ hk
     exact⟨o,e,ex⟩
    ·obtain⟨_,_,_,_,o,_,_,e,ex,_⟩:=I.hok p _ hk
     exact⟨o,e,ex⟩
   obtain⟨o,e,ex⟩:=z
   refine⟨⟨o,e,ex.1⟩,λa e2=>?_⟩
   cases e2
   exact⟨o,e,ex.2.1⟩
  ·obtain⟨o,_,_,_,e,ex,_⟩:=I.hok p _ hk
   refine⟨⟨o,e,ex.1⟩,λa e2=>?_⟩
   cases e2
   exact⟨o,e,ex.2.1⟩
 |_=>exact False.elim ty
noncomputable def tBM0(K:PySem.W.Frag)(T:String)(r:V→List V→Hp→VK→Prop)(to:TE):TE:=λσ H Q=>to σ H λx H1=>tyV K T x H1∧r x [] H1 Q
noncomputable def tBM(K:PySem.W.Frag)(T:String)(r:V→List V→Hp→VK→Prop)(to:TE)(t:TA):TE:=λσ H Q=>to σ H λx H1=>tyV K T x H1∧t σ H1 λxs H2=>r x xs H2 Q
variable{o e:Expr}{es:List Expr}{to:TE}{t:TA}{name:Str}{apos cpos:Pos}{T id:String}{r:V→List V→Hp→VK→Prop}
theorem qHV(pa:PlainAttrs T)(slot:Slot T name id)(hty:typeOf (.builtin id)=pure (.type "method_descriptor"))(hm:MtR X id r)(ho:PE X o to)
 (hbase:attributeBase o name X.env (eval o X.env)=eval o X.env:=by rfl) (hline:(apos.endLine==cpos.line)=true:=by rfl):PE X (.Call (.Attribute o name apos) [] [] cpos) (tBM0 X.K T r to):=by
 intro pins s σ H Q I h
 refine wpAny_Call_method0_late hbase hline (thn (ho pins s σ H _ I h) λv s1 hZ=>?_)
 obtain⟨x,H1,I1,r1,ty,q1⟩:=hZ
 obtain⟨h1,h2⟩:=qDA I1 r1 ty
 exact⟨T,id,pa,slot,hty,h1,h2,cO rfl (PySem.evalArgs_none (hm pins s1 σ H1 x [] v [] Q I1 r1 .nil q1))⟩
theorem qB3(pa:PlainAttrs T)(slot:Slot T name id)(hty:typeOf (.builtin id)=pure (.type "method_descriptor"))(hm:MtR X id r)(ho:PE X o to)(ha:PA X (e::es) t)
 (hbase:attributeBase o name X.env (eval o X.env)=eval o X.env:=by rfl)
 (hfew:((backTo cpos (starEach (e::es) X.env)).all (λx=>!x.1)&&(backToKw cpos (keywordEach [] X.env)).all (λx=>x.1.isSome)
  &&decide ((e::es).length+([]:List Keyword).length+(if([]:List Keyword).isEmpty then 0 else 1)<30))=true:=by rfl)
 (hline:(apos.endLine==cpos.line)=true:=by rfl) (hs:starEach (e::es) X.env=(false,eval e X.env)::starEach es X.env:=by rfl) (hplain:(backTo cpos (starEach es X.env)).any (·.1)=false:=by rfl):
 PE X (.Call (.Attribute o name apos) (e::es) [] cpos) (tBM X.K T r to t):=by
 intro pins s σ H Q I h
 refine wpAny_Call_method_late hbase hfew hline rfl (thn (ho pins s σ H _ I h) λv s1 hZ=>?_)
 obtain⟨x,H1,I1,r1,ty,q1⟩:=hZ
 obtain⟨h1,h2⟩:=qDA I1 r1 ty
 refine⟨T,id,pa,slot,hty,h1,h2,?_⟩
 have hA:=ha cpos pins s1 σ H1 _ I1 q1
 rw[hs]at hA ⊢
 refine cO (by show(false||(backTo cpos (starEach es X.env)).any (·.1))=false;rw[hplain]<;>rfl) (Calls.evalArgs_plain ?_)
 exact thn hA λus s2 ⟨vs,H2,I2,r2,q2⟩=>hm pins s2 σ H2 x vs v us Q I2 r1 r2 q2
end
noncomputable def MtM(X:Cx)(id:String)(r:V→List V→Hp→VK→Prop):Prop:=
 ∀(pins:List (Addr×Obj)) (s:Shared) (σ:St) (H:Hp) (x:V) (xs:List V) (v:Value) (us:List Value) (Q:VK),Inv X pins σ H s→RelV x v→Vals xs us→r x xs H Q→
  wpAny (model X.prog X.w) X.A (call (.builtin id) (v::us)) (EP X pins σ Q) X.xe s
theorem Vals.one{x:V}{us:List Value}(h:Vals [x] us):∃u,us=[u]∧RelV x u:=by
 cases h with
 |cons r t=>
  cases t
  exact⟨_,rfl,r⟩
theorem Vals.zero:∀{us:List Value},Vals [] us→us=[]
 |_,.nil=>rfl
theorem Vals.rep{xs:List V}{us:List Value}(h:Vals xs us):∀k:Nat,Vals (List.replicate k xs).flatten (List.replicate k us).flatten
 |0=>.nil
 |k+1=>by
  rw[dL,dL,wQ,wQ]
  exact Vals.append h (Vals.rep h k)
theorem q76(its:List Value):∀(k:Nat) (acc:List Value),
 List.foldl (λx1 x2=>x1++x2) acc.toArray (List.replicate k its.toArray)=(acc++(List.replicate k its).flatten).toArray
 |0,acc=>by simp
 |k+1,acc=>by
  have e:acc.toArray++its.toArray=(acc++its).toArray:=by simp
  have e2:(acc++its)++(List.replicate k its).flatten=acc++(List.replicate (k+1) its).flatten:=by
   rw[dL,wQ,cP]
  rw[←e2,←q76 its k (acc++its),←e,dL,List.foldl_cons]
section
variable{X:Cx}{pins:List (Addr×Obj)}{σ:St}{H:Hp}{s:Shared}{l b:Addr}{xs ys zs:List V}
theorem Inv.lset{its its':List Value}{n:Nat}{f:Array Value→Array Value}{t':Nat}(I:Inv X pins σ H s)(hH:H l=some (.lst xs))
 (e:s.heap.get? l=some { cls:=.type "list",data:=.seq its.toArray n }) (hf:f its.toArray=its'.toArray) (hv:Vals ys its') (hz:ys.length≤sizeLine):
 Inv X pins σ (upd H l (.lst ys)) { s with heap:=s.heap.update l (Obj.mapSeq f),toks:=t' }:=by
 have q:=PySem.IsL.update e f
 rw[hf]at q
 refine I.write (x:=l) (e:=l) (by rw[hH];exact trivial) (.inl rfl) (λb' u hb hu=>(kY s.heap (Obj.mapSeq f) (wD hb)).trans hu) ⟨_,q⟩ ?_
 exact⟨hz,its',_,hv,q⟩
theorem Inv.lnew{its:List Value}{t':Nat}(I:Inv X pins σ H s)(hv:Vals ys its)(hz:ys.length≤sizeLine):
 Inv X pins σ (upd H s.heap.objs.size (.lst ys)) { s with heap:=s.heap.push { cls:=.type "list",data:=.seq its.toArray },toks:=t' }:=
 I.laid (λ_ _ q=>kC _ q) (kM _) ⟨hz,its,0,hv,mI _ rfl⟩
theorem Inv.fresh(I:Inv X pins σ H s):H s.heap.objs.size=none:=I.hok.fresh (kM _)
theorem Inv.lstM(I:Inv X pins σ H s)(hH:H l=some (.lst xs)):xs.length≤sizeLine∧∃(its:List Value) (n:Nat),Vals xs its∧xs.length=its.length∧s.heap.get? l=some { cls:=.type "list",data:=.seq its.toArray n }:=by
 obtain⟨z,its,n,r,e⟩:=I.hok l _ hH
 exact⟨z,its,n,r,r.length,e⟩
theorem qDB{n:Nat}(h:n≤sizeLine):Builtin.List.listTooLong n=false:=by
 unfold Builtin.List.listTooLong
 exact kD (by omega)
end
section
variable{X:Cx}
noncomputable def qFE:V→List V→Hp→VK→Prop:=λx vs H Q=>∃l xs y,x=.ref l∧vs=[y]∧H l=some (.lst xs)∧xs.length<sizeLine∧Q .non (upd H l (.lst (xs++[y])))
theorem vT:MtM X "list.append" qFE:=by
 intro pins s σ H x vs v us Q I rx rv h
 obtain⟨l,xs,y,rfl,rfl,hH,hz,q⟩:=h
 cases rx
 obtain⟨u,rfl,ru⟩:=rv.one
 obtain⟨z,its,n,r,hl,e⟩:=I.lstM hH
 refine call_meets F.slot_list_append ⟨_,e,rfl⟩ F.entry_list_append (F.args_list_append_2 _ _) (PySem.list_append l its.toArray n u (by rw[mC];omega)) ⟨e,?_⟩
 refine⟨.non,_,I.lset (its':=its++[u]) hH e (by simp) (r.append (.cons ru .nil)) ?_,rfl,q⟩
 rw[kP,mP]
 omega
noncomputable def rRep:R2:=λx y H Q=>∃l k xs,x=.ref l∧y=.int k∧H l=some (.lst xs)∧-(2 ^ 63)≤k∧k<2 ^ 63∧xs.length*k.toNat≤sizeLine∧
 ∀p,H p=none→Q (.ref p) (upd H p (.lst (List.replicate k.toNat xs).flatten))
theorem qFF{α:Type}(xs:List α)(k:Nat):(List.replicate k xs).flatten.length=k*xs.length:=by
 induction k with
 |zero=>simp
 |succ k ih=>rw[dL,wQ,kP,ih,wX,Nat.add_comm]
theorem qHW:OpR X (binaryOp .Mult) rRep:=by
 intro pins s σ H x y v u Q I rx ry h
 obtain⟨l,k,xs,rfl,rfl,hH,h1,h2,hz,q⟩:=h
 cases rx
 obtain⟨t,rfl⟩:=ry
 obtain⟨z,its,n,r,hl,e⟩:=I.lstM hH
 have hlen:its.toArray.size*k.toNat≤sizeLine:=by rw[mC,←hl];exact hz
 have hcap:¬its.toArray.size*k.toNat>(2 ^ 63-1) / 8:=by
  have:(sizeLine:Nat)≤(2 ^ 63-1) / 8:=by decide
  omega
 have hfit:¬(!Builtin.List.listFitsIndex k)=true:=by
  rw[fitsIndex_both h1 h2]
  exact kO
 have hlong:¬Builtin.List.listTooLong (its.toArray.size*k.toNat)=true:=by
  rw[qDB hlen]
  exact kO
 have hnew:List.foldl (λx1 x2=>x1++x2) #[] (List.replicate (if its.toArray.isEmpty=true then 0 else k.toNat) its.toArray)=(List.replicate k.toNat its).flatten.toArray:=by
  have f0:∀m:Nat,List.foldl (λx1 x2=>x1++x2) #[] (List.replicate m its.toArray)=(List.replicate m its).flatten.toArray:=λm=>by
   have:=q76 its m []
   rw[rR]at this
   exact this
  rw[f0]
  cases its with
  |nil=>simp
  |cons a r'=>rw[kF (by simp)]
 refine wpAny_binaryOp_repeat_ref (T:="list") (U:="int") (by decide) ⟨_,e,rfl⟩ (λs'=>typeIs_int s' k t) noFill_list_mul F.fills_int_mul F.slot_int_rmul repeat_list F.slot_int_index.lookup
  (call_meets F.slot_int_rmul (typeIs_int s k t) F.entry_int_rmul (F.args_int_rmul_2 _ _) (int___rmul___int_list k t l its.toArray n)
   ⟨e,rfl,⟨_,e,rfl⟩,call_meets F.slot_list_mul ⟨_,e,rfl⟩ F.entry_list_mul (F.args_list_mul_2 _ _) (AutoListH.list___mul___list_int_3 l its.toArray n k t hfit hcap hlong) ⟨e,?_⟩⟩)
 rw[hnew]
 exact⟨.ref _,_,I.lnew (t':=s.toks) (r.rep k.toNat) (by rw[qFF,d3];exact hz),rfl,q _ I.fresh⟩
end
section
variable{κ:Type}[DecidableEq κ]
noncomputable def valV(kvs:List (κ×V))(k:κ):Option V:=(kvs.find? λkv=>decide (kv.1=k)).map (·.2)
noncomputable def putK(kvs:List (κ×V))(k:κ)(v:V):List (κ×V):=
 if(kvs.any λkv=>decide (kv.1=k))=true then kvs.map (λkv=>if kv.1=k then(kv.1,v)else kv)else kvs++[(k,v)]
noncomputable def q5J(kvs:List (κ×V))(k:κ):List (κ×V):=kvs.filter λkv=>decide (kv.1≠k)
theorem q3P{p:κ×V}{r:List (κ×V)}{k:κ}(e:p.1=k):valV (p::r) k=some p.2:=by simp[valV,dN,e]
theorem q1F{p:κ×V}{r:List (κ×V)}{k:κ}(e:¬p.1=k):valV (p::r) k=valV r k:=by simp[valV,dN,e]
theorem q8X(k:κ):∀kvs:List (κ×V),(kvs.any λkv=>decide (kv.1=k))=(valV kvs k).isSome
 | []=>rfl
 |p::r=>by
  rw[cB]
  by_cases e:p.1=k
  ·simp only[q3P e,hG e,Bool.true_or,Option.isSome_some]
  ·rw[q1F e,kD e,Bool.false_or];exact q8X k r
theorem q4I(kvs:List (κ×V))(k:κ)(v:V):(putK kvs k v).length≤kvs.length+1:=by
 unfold putK
 split
 ·rw[h9];omega
 ·rw[kP,mG,wI];omega
theorem RelO.isSome_eq{o:Option V}{u:Option Value}(r:RelO o u):o.isSome=u.isSome:=by
 cases o with
 |none=>cases u with
  |none=>rfl
  |some _=>exact(show False from r).elim
 |some _=>cases u with
  |none=>exact(show False from r).elim
  |some _=>rfl
theorem KV.val{kvs:List (κ×V)}{vs:List (κ×Value)}(r:KV kvs vs)(k:κ):RelO (valV kvs k) (valueAt vs k):=by
 unfold KV at r
 induction r with
 |nil=>exact True.intro
 |@cons p q ps qs h t ih=>
  obtain⟨h1,h2⟩:=h
  by_cases e:p.1=k
  ·have e':q.1=k:=h1.symm.trans e
   have b:valueAt (q::qs) k=some q.2:=by simp[valueAt,dN,e']
   rw[q3P e,b];exact h2
  ·have e':¬q.1=k:=λz=>e (h1.trans z)
   have b:valueAt (q::qs) k=valueAt qs k:=by simp[valueAt,dN,e']
   rw[q1F e,b];exact ih
theorem KV.any{kvs:List (κ×V)}{vs:List (κ×Value)}(r:KV kvs vs)(k:κ):(kvs.any λkv=>decide (kv.1=k))=vs.any λkv=>decide (kv.1=k):=by
 unfold KV at r
 induction r with
 |nil=>rfl
 |cons h t ih=>rw[cB,cB,ih,h.1]
theorem KV.repl{kvs:List (κ×V)}{vs:List (κ×Value)}(r:KV kvs vs)(k:κ){y:V}{u:Value}(ry:RelV y u):
 KV (kvs.map λkv=>if kv.1=k then(kv.1,y)else kv) (vs.map λkv=>if kv.1=k then(kv.1,u)else kv):=by
 unfold KV at r ⊢
 induction r with
 |nil=>exact .nil
 |@cons p q ps qs h t ih=>
  rw[mU,mU]
  refine .cons ?_ ih
  obtain⟨h1,h2⟩:=h
  by_cases e:p.1=k
  ·rw[kI e,kI (h1.symm.trans e)];exact⟨h1,ry⟩
  ·rw[kF e,kF (λz=>e (h1.trans z))];exact⟨h1,h2⟩
theorem KV.put{kvs:List (κ×V)}{vs:List (κ×Value)}(r:KV kvs vs)(k:κ){y:V}{u:Value}(ry:RelV y u):KV (putK kvs k y) (stored vs k u):=by
 unfold putK stored
 rw[r.any k]
 by_cases e:(vs.any λkv=>decide (kv.1=k))=true
 ·rw[kI e,kI e];exact r.repl k ry
 ·rw[kF e,kF e];exact Paired.snoc r ⟨rfl,ry⟩
theorem KV.drop{kvs:List (κ×V)}{vs:List (κ×Value)}(r:KV kvs vs)(k:κ):KV (q5J kvs k) (without vs k):=by
 unfold KV at r ⊢
 unfold q5J without
 induction r with
 |nil=>exact .nil
 |@cons p q ps qs h t ih=>
  obtain⟨h1,h2⟩:=h
  rw[gC,gC]
  by_cases e:p.1=k
  ·have a:¬decide (p.1≠k)=true:=by simp[e]
   have b:¬decide (q.1≠k)=true:=by simp[h1.symm.trans e]
   rw[kF a,kF b];exact ih
  ·have e':¬q.1=k:=λz=>e (h1.trans z)
   have a:decide (p.1≠k)=true:=by simp[e]
   have b:decide (q.1≠k)=true:=by simp[e']
   rw[kI a,kI b];exact .cons ⟨h1,h2⟩ ih
theorem KV.keys{kvs:List (κ×V)}{vs:List (κ×Value)}(r:KV kvs vs):kvs.map (·.1)=vs.map (·.1):=by
 unfold KV at r
 induction r with
 |nil=>rfl
 |cons h t ih=>rw[mU,mU,ih,h.1]
theorem KV.length{kvs:List (κ×V)}{vs:List (κ×Value)}(r:KV kvs vs):kvs.length=vs.length:=Paired.length r
theorem qDC(kvs:List (κ×V))(k:κ):(q5J kvs k).length≤kvs.length:=mE _ _
end
theorem q8Y{P:Program}{w:World}{k:Key}{u:Value}(r:RelV (kV k) u):(y7 P w).is k u=true:=by
 cases k with
 |inl i=>obtain⟨t,e⟩:=(show ∃t,u=Value.int i t from r);subst e;exact q8O P w i t
 |inr x=>obtain⟨t,e⟩:=(show ∃t,u=Value.str x t from r);subst e;exact q8P P w x t
theorem q77{P:Program}{w:World}:∀{ks:List Key} {us:List Value},Vals (ks.map kV) us→ItemsAre (y7 P w) ks us
 | [],_,r=>by rw[List.map_nil]at r;cases r;exact .nil
 |k::ks,_,r=>by
  rw[mU]at r
  cases r with
  |cons h t=>exact .cons (q8Y h) (q77 t)
noncomputable abbrev KT(H:Hp):List (List Key×V)→List (List Key×Addr×Value)→Prop:=Paired λp q=>p.1=q.1∧H q.2.1=some (.tup (p.1.map kV))∧RelV p.2 q.2.2
theorem KT.val{H:Hp}{kvs:List (List Key×V)}{xs:List (List Key×Addr×Value)}(r:KT H kvs xs)(k:List Key):RelO (valV kvs k) ((atKey xs k).map (·.2)):=by
 induction r with
 |nil=>exact True.intro
 |@cons p q ps qs h t ih=>
  obtain⟨h1,_,h2⟩:=h
  by_cases e:p.1=k
  ·have e':q.1=k:=h1.symm.trans e
   have b:atKey (q::qs) k=some q.2:=by simp[atKey,dN,e']
   rw[q3P e,b];exact h2
  ·have e':¬q.1=k:=λz=>e (h1.trans z)
   have b:atKey (q::qs) k=atKey qs k:=by simp[atKey,dN,e']
   rw[q1F e,b];exact ih
theorem KT.repl{H:Hp}{kvs:List (List Key×V)}{xs:List (List Key×Addr×Value)}(r:KT H kvs xs)(k:List Key){y:V}{u:Value}(ry:RelV y u):
 KT H (kvs.map λkv=>if kv.1=k then(kv.1,y)else kv) (xs.map (putAt k u)):=by
 induction r with
 |nil=>exact .nil
 |@cons p q ps qs h t ih=>
  rw[mU,mU]
  refine .cons ?_ ih
  obtain⟨h1,h2,h3⟩:=h
  unfold putAt
  by_cases e:p.1=k
  ·rw[kI e,kI (h1.symm.trans e)];exact⟨h1,h2,ry⟩
  ·rw[kF e,kF (λz=>e (h1.trans z))];exact⟨h1,h2,h3⟩
theorem KT.put{H:Hp}{kvs:List (List Key×V)}{xs:List (List Key×Addr×Value)}(r:KT H kvs xs)(k:List Key){b:Addr}{y:V}{u:Value}(hb:H b=some (.tup (k.map kV)))(ry:RelV y u):
 KT H (putK kvs k y) (storedH xs k b u):=by
 have e:(kvs.any λkv=>decide (kv.1=k))=(atKey xs k).isSome:=by
  rw[q8X,(r.val k).isSome_eq,Option.isSome_map]
 unfold putK storedH
 rw[e]
 by_cases q:(atKey xs k).isSome=true
 ·rw[kI q,kI q];exact r.repl k ry
 ·rw[kF q,kF q];exact Paired.snoc r ⟨rfl,hb,ry⟩
theorem KT.keeps{H H':Hp}{kvs:List (List Key×V)}{xs:List (List Key×Addr×Value)}(r:KT H kvs xs)(ht:∀b ys,H b=some (.tup ys)→H' b=some (.tup ys)):KT H' kvs xs:=
 Paired.mapP r λ_ _ z=>⟨z.1,ht _ _ z.2.1,z.2.2⟩
section
variable{P:Program}{w:World}{H:Hp}{h:Heap}{a:Addr}
theorem qH4{u:HO}(ok:HOk P w H h)(e:Rd H a u):jK P w H h a u:=e.ok ok
theorem q8Z{kvs:List (Key×V)}(ok:HOk P w H h)(e:Rd H a (.dK kvs)):kvs.length≤sizeLine∧(a==sysModules)=false∧∃vs,KV kvs vs∧h.DictOf (y7 P w) a vs:=
 show jK P w H h a (.dK kvs)from qH4 ok e
theorem q90{kvs:List (Key×V)}(ok:HOk P w H h)(e:H a=some (.dK kvs)):kvs.length≤sizeLine∧(a==sysModules)=false∧∃vs,KV kvs vs∧h.DictOf (y7 P w) a vs:=q8Z ok (.inl e)
theorem q7P{ks:List Key}(ok:HOk P w H h)(e:H a=some (.tup (ks.map kV))):(tupleKind (y7 P w)).is h ks a:=by
 obtain⟨_,its,r,o,h1,h2,n,h3⟩:=(show jK P w H h a (.tup (ks.map kV))from ok a _ e)
 exact⟨o,its.toArray,n,h1,h2,h3,by simpa using q77 r⟩
theorem q91{kvs:List (List Key×V)}(ok:HOk P w H h)(e:Rd H a (.dT kvs)):kvs.length≤sizeLine∧(a==sysModules)=false∧
 ∃xs,KT H kvs xs∧h.DictOfH (tupleKind (y7 P w)) a xs:=by
 obtain⟨z,y,xs,r,o,es,ep,h1,h2,h3,h4,h5⟩:=(show jK P w H h a (.dT kvs)from qH4 ok e)
 refine⟨z,y,xs,r,o,es,ep,h1,h2,h3,h4,λx hx=>?_,h5⟩
 have all:∀{l:List (List Key×V)} {m:List (List Key×Addr×Value)},KT H l m→∀x∈m,(tupleKind (y7 P w)).is h x.1 x.2.1:=by
  intro l m q
  induction q with
  |nil=>intro x hx;exact nomatch hx
  |@cons p q ps qs hq t ih=>
   intro x hx
   rcases kL.mp hx with e|hx
   ·subst e
    exact q7P ok (by rw[←hq.1];exact hq.2.1)
   ·exact ih x hx
 exact all r x hx
theorem qK0{kvs:List (List Key×V)}(ok:HOk P w H h)(e:H a=some (.dT kvs)):kvs.length≤sizeLine∧(a==sysModules)=false∧
 ∃xs,KT H kvs xs∧h.DictOfH (tupleKind (y7 P w)) a xs:=q91 ok (.inl e)
end
noncomputable def DGet(H:Hp)(a:Addr)(y:V)(r:Option V):Prop:=
 (∃kvs k,Rd H a (.dK kvs)∧y=kV k∧r=valV kvs k)∨∃kvs k b,Rd H a (.dT kvs)∧y=.ref b∧H b=some (.tup (k.map kV))∧r=valV kvs k
noncomputable def DPut(H:Hp)(a:Addr)(y v:V)(H':Hp):Prop:=
 (∃kvs k,H a=some (.dK kvs)∧y=kV k∧kvs.length<sizeLine∧H'=upd H a (.dK (putK kvs k v)))∨
 ∃kvs k b,H a=some (.dT kvs)∧y=.ref b∧H b=some (.tup (k.map kV))∧kvs.length<sizeLine∧H'=upd H a (.dT (putK kvs k v))
theorem DGet.k{H:Hp}{a:Addr}{kvs:List (Key×V)}{k:Key}(e:H a=some (.dK kvs)):DGet H a (kV k) (valV kvs k):=.inl ⟨kvs,k,.inl e,rfl,rfl⟩
section
variable{X:Cx}{pins:List (Addr×Obj)}{σ:St}{H:Hp}{s:Shared}{a:Addr}{y v:V}{u r:Value}{o:Option V}{A:Around}{E:Value→Shared→Prop}
theorem Inv.big(I:Inv X pins σ H s):sysModules<s.heap.objs.size:=by
 have h:mainGlobals<s.heap.objs.size:=(I.mod.glob.keeps I.bk).lt
 exact Nat.lt_trans (by decide) h
theorem qC7{Q:Value→Shared→Prop}(hu:A.units+1<cLine)(I:Inv X pins σ H s)(g:DGet H a y (some v))(ry:RelV y u)(h:∀w' s',Inv X pins σ H s'→RelV v w'→Q w' s'):
 wpAny (model X.prog X.w) A (getItem (.ref a) u) Q E s:=by
 rcases g with⟨kvs,k,e,ey,l⟩|⟨kvs,k,b,e,ey,eb,l⟩
 ·subst ey
  obtain⟨z,hd,vs,rel,dd⟩:=q8Z I.hok e
  obtain⟨w',hw,rw'⟩:=RelO.some_of (v:=v) (o:=valueAt vs k) (by rw[l];exact rel.val k)
  exact wpAny_getItem_of (q8Y ry) dd.mapOf hw (h w' _ (I.tok _) rw')
 ·subst ey
  cases(show u=Value.ref b from ry)
  obtain⟨z,hd,xs,rel,dd⟩:=q91 I.hok e
  obtain⟨w',hw,rw'⟩:=RelO.some_of (v:=v) (o:=(atKey xs k).map (·.2)) (by rw[l];exact rel.val k)
  obtain⟨p,hp,hp2⟩:=mH.mp hw
  refine wpAny_getItem_heap (pT hu) (q7P I.hok eb) dd hp ?_
  rw[hp2]
  exact h w' _ (I.tok _) rw'
theorem d_in{Q:Value→Shared→Prop}(hu:A.units+1<cLine)(I:Inv X pins σ H s)(g:DGet H a y o)(ry:RelV y u)(h:∀s',Inv X pins σ H s'→Q (.bool o.isSome) s'):
 wpAny (model X.prog X.w) A (compareOp .In u (.ref a)) Q E s:=by
 rcases g with⟨kvs,k,e,ey,l⟩|⟨kvs,k,b,e,ey,eb,l⟩
 ·subst ey
  obtain⟨z,hd,vs,rel,dd⟩:=q8Z I.hok e
  refine wpAny_in_of (q8Y ry) hd dd.mapOf ?_
  rw[←(rel.val k).isSome_eq,←l]
  exact h _ (I.tok _)
 ·subst ey
  cases(show u=Value.ref b from ry)
  obtain⟨z,hd,xs,rel,dd⟩:=q91 I.hok e
  refine wpAny_in_heap (pT hu) (q7P I.hok eb) hd dd ?_
  have q:=(rel.val k).isSome_eq
  rw[Option.isSome_map]at q
  rw[←q,←l]
  exact h _ (I.tok _)
theorem q7Q{h':Heap}{t':Nat}{ob:HO}(I:Inv X pins σ H s)(mu:Mut (H a))(hs:Heap.SameBut a s.heap h')(he:∃q,h'.get? a=some q)(new:jK X.prog X.w (upd H a ob) h' a ob):
 Inv X pins σ (upd H a ob) { s with heap:=h',toks:=t' }:=
 I.write (x:=a) (e:=a) mu (.inl rfl) (λb q hb z=>(hs.2 b hb).trans z) he new
theorem qDD{P:Program}{w:World}{H':Hp}{h':Heap}{kvs:List (Key×V)}{vs:List (Key×Value)}(z:kvs.length≤sizeLine)(hd:(a==sysModules)=false)(rel:KV kvs vs)(dd:h'.DictOf (y7 P w) a vs):
 jK P w H' h' a (.dK kvs):=⟨z,hd,vs,rel,dd⟩
theorem qC8{H':Hp}{Q:Unit→Shared→Prop}(hu:A.units+1<cLine)(I:Inv X pins σ H s)(g:DPut H a y v H')(ry:RelV y u)(rv:RelV v r)(h:∀s',Inv X pins σ H' s'→Q () s'):
 wpAny (model X.prog X.w) A (setItem (.ref a) u r) Q E s:=by
 rcases g with⟨kvs,k,e,ey,l,eH⟩|⟨kvs,k,b,e,ey,eb,l,eH⟩
 ·subst ey eH
  obtain⟨z,hd,vs,rel,dd⟩:=q90 I.hok e
  have hz:vs.length≤sizeLine:=by rw[←rel.length];exact z
  have hl:(putK kvs k v).length≤sizeLine:=by have:=q4I kvs k v;omega
  refine wpAny_setItem_pairs (hsz:=hz) (q8Y ry) dd λh' dd' hs=>h _ ?_
  have he:∃q,h'.get? a=some q:=let⟨q,_,_,hq,_⟩:=dd';⟨q,hq⟩
  exact q7Q I (by rw[e];exact True.intro) hs he (qDD hl hd (rel.put k rv) dd')
 ·subst ey eH
  cases(show u=Value.ref b from ry)
  obtain⟨z,hd,xs,rel,dd⟩:=qK0 I.hok e
  have hz:xs.length≤sizeLine:=by rw[←Paired.length rel];exact z
  have hl:(putK kvs k v).length≤sizeLine:=by have:=q4I kvs k v;omega
  refine wpAny_setItem_heap (hsz:=hz) (pT hu) (q7P I.hok eb) dd λh' dd' hs=>h _ ?_
  obtain⟨q,es,ep,hq,h2,h3,h4,_,h5⟩:=dd'
  refine q7Q I (by rw[e];exact True.intro) hs ⟨q,hq⟩ ⟨hl,hd,_,(rel.put k eb rv).keeps λc ys ec=>?_,q,es,ep,hq,h2,h3,h4,h5⟩
  rw[qD (jU ec e (λz=>nomatch z))]
  exact ec
end
section
variable{X:Cx}{pins:List (Addr×Obj)}{σ:St}{H:Hp}{s:Shared}{a:Addr}{kvs:List (Key×V)}{k:Key}{u:Value}{A:Around}{E:Value→Shared→Prop}
theorem qK1{v:V}{more:List Value}{Q:Value→Shared→Prop}(I:Inv X pins σ H s)(e:H a=some (.dK kvs))(ry:RelV (kV k) u)(l:valV kvs k=some v)(hm:more=[]∨∃x,more=[x])
 (h:∀w' s',Inv X pins σ (upd H a (.dK (q5J kvs k))) s'→RelV v w'→Q w' s'):wpAny (model X.prog X.w) A (call (.builtin "dict.pop") (.ref a::u::more)) Q E s:=by
 obtain⟨z,hd,vs,rel,dd⟩:=q90 I.hok e
 obtain⟨w',hw,rw'⟩:=RelO.some_of (v:=v) (o:=valueAt vs k) (by rw[←l];exact rel.val k)
 have hp:(keyPart u).isSome=true:=by
  cases k with
  |inl i=>obtain⟨t,q⟩:=(show ∃t,u=Value.int i t from ry);subst q;rfl
  |inr x=>obtain⟨t,q⟩:=(show ∃t,u=Value.str x t from ry);subst q;rfl
 have ha:argsOk "dict.pop" ⟨.ref a::u::more,[]⟩:=by
  rcases hm with q|⟨x,q⟩
  ·subst q;exact PySem.F.args_dict_pop_2 _ _
  ·subst q;exact PySem.F.args_dict_pop_3 _ _ _
 refine call_meetsIn PySem.F.slot_dict_pop dd.typeIs PySem.F.entry_dict_pop ha (meets_dict_pop_there (y7 X.prog X.w) a (q8Y ry) more hm hp)
  ⟨vs,w',dd,by rw[←rel.length];exact z,hw,λh' dd' hs=>h w' _ ?_ rw'⟩
 have he:∃q,h'.get? a=some q:=let⟨q,_,_,hq,_⟩:=dd';⟨q,hq⟩
 exact q7Q I (by rw[e];exact True.intro) hs he (qDD (mF (qDC kvs k) z) hd (rel.drop k) dd')
end
noncomputable def NoSl(i:Expr):Prop:=∀ov iv,subscripted i false ov iv=operate [ov,iv] (getItem ov iv)
theorem qFG{prog:Program}{w:World}{A:Around}{E:Value→Shared→Prop}{s:Shared}{env:Env}{value slice:Expr}{pos:Pos}{T id:String}{Q:Value→Shared→Prop}
 (hl:typeLookup (.type T) "__getitem__"=pure (some (.builtin id))) (hs:NoSl slice)
 (h:wpAny (model prog w) A (eval value env) (λo s₁=>wpAny (model prog w) A (eval slice env) (λi s₂=>s₂.TypeIs o T∧wpAny (model prog w) A (getItem o i) Q E s₂) E s₁) E s):
 wpAny (model prog w) A (eval (.Subscript value slice pos) env) Q E s:=by
 refine Subscript_ (dB h (λo s₁ h₁=>dB h₁ (λi s₂ h₂=>?_) λ_ _ x=>x) λ_ _ x=>x)
 obtain⟨hT,h₂⟩:=h₂
 unfold subscriptTail
 refine kB ?_
 rw[getitemInPython_of_ne hT.not_modules]
 refine kB (wpAny_specialOf hT hl ?_)
 have fin:wpAny (model prog w) A (subscripted slice false o i) (λr s₃=>wpAny (model prog w) A (letTemporaryGo value o r >>= λ_=>pure r) Q E s₃) E s₂:=by
  rw[hs o i]
  exact wpAny_operating (dB h₂ (λr s₃ h₃=>kB (wpAny_letTemporaryGo (mB h₃))) λ_ _ x=>x)
 first
  |exact mB (kB fin)
  |exact kB (mB (kB fin))
  |exact kB fin
theorem q92{X:Cx}{pins:List (Addr×Obj)}{σ:St}{H:Hp}{s:Shared}{a:Addr}{y:V}{o:Option V}(I:Inv X pins σ H s)(g:DGet H a y o):s.TypeIs (.ref a) "dict":=by
 rcases g with⟨kvs,k,e,_,_⟩|⟨kvs,k,b,e,_,_,_⟩
 ·obtain⟨_,_,vs,_,dd⟩:=q8Z I.hok e
  exact dd.typeIs
 ·obtain⟨_,_,xs,_,dd⟩:=q91 I.hok e
  exact dd.typeIs
noncomputable def qK2(td ty:TE):TE:=λσ H Q=>td σ H λx H1=>ty σ H1 λy H2=>∃a v,x=.ref a∧DGet H2 a y (some v)∧Q v H2
noncomputable def tDIn(ty td:TE):TE:=λσ H Q=>ty σ H λy H1=>td σ H1 λx H2=>∃a o,x=.ref a∧DGet H2 a y o∧Q (.bl o.isSome) H2
noncomputable def qK3(td ty tv:TE):TS:=λD σ H=>tv σ H λv H1=>td σ H1 λx H2=>ty σ H2 λy H3=>∃a H4,x=.ref a∧DPut H3 a y v H4∧D.nx σ H4
section
variable{X:Cx}{o i e value:Expr}{pos pos' tpos:Pos}{td ty tv:TE}
theorem qFH(hu:X.A.units+1<cLine)(ho:PE X o td)(hi:PE X i ty)(hs:NoSl i):PE X (.Subscript o i pos) (qK2 td ty):=by
 intro pins s σ H Q I h
 refine qFG PySem.F.slot_dict_getitem.lookup hs (thn (ho pins s σ H _ I h) λu s1 ⟨x,H1,I1,rx,q1⟩=>thn (hi pins s1 σ H1 _ I1 q1) λiv s2 hZ=>?_)
 obtain⟨y,H2,I2,ry,a,v,ex,g,q2⟩:=hZ
 subst ex
 obtain rfl:u=Value.ref a:=rx
 exact⟨q92 I2 g,qC7 hu I2 g ry λw' s3 I3 rw'=>⟨v,H2,I3,rw',q2⟩⟩
theorem qDE(hu:X.A.units+1<cLine)(hi:PE X i ty)(ho:PE X o td):PC X .In i o (tDIn ty td):=by
 intro pins s σ H Q I h
 refine thn (hi pins s σ H _ I h) λiv s1 ⟨y,H1,I1,ry,q1⟩=>thn (ho pins s1 σ H1 _ I1 q1) λu s2 hZ=>?_
 obtain⟨x,H2,I2,rx,a,ov,ex,g,q2⟩:=hZ
 subst ex
 obtain rfl:u=Value.ref a:=rx
 exact d_in hu I2 g ry λs3 I3=>⟨.bl ov.isSome,H2,I3,rfl,q2⟩
theorem qFI(hu:X.A.units+1<cLine)(ho:PE X o td)(hi:PE X i ty)(hv:PE X value tv)(hs:swapsWith value (some (.Subscript o i pos')) pos.line X.env=pure false):
 PS X (.Assign [.Subscript o i pos'] value pos) (qK3 td ty tv):=by
 intro pins s σ H D I h
 refine wpAny_Assign_Subscript (thn (hv pins s σ H _ I h) λr s1 ⟨v,H1,I1,rv,q1⟩=>thn (ho pins s1 σ H1 _ I1 q1) λu s2 ⟨x,H2,I2,rx,q2⟩=>thn (hi pins s2 σ H2 _ I2 q2) λiv s3 hZ=>?_) hs
 obtain⟨y,H3,I3,ry,a,H4,ex,g,q3⟩:=hZ
 subst ex
 obtain rfl:u=Value.ref a:=rx
 exact qC8 hu I3 g ry rv λs4 I4=>⟨σ,H4,I4,q3⟩
end
theorem qDF{P:Program}{w:World}{H:Hp}(h:Heap)(hb:sysModules<h.objs.size):jK P w H (h.push { cls:=.type "dict",data:=.dict #[] }) h.objs.size (.dK []):=
 ⟨mO _,rD.mpr (wD (mL hb)),[],.nil,Heap.DictOf.new h⟩
noncomputable def qHX:TE:=λ_ H Q=>∀p,H p=none→Q (.ref p) (upd H p (.dK []))
section
variable{X:Cx}{pos:Pos}
theorem q93:PE X (.Dict [] [] pos) qHX:=λpins s σ H Q I h=>
 wpAny_Dict_empty ⟨.ref s.heap.objs.size,_,I.laid (a:=s.heap.objs.size) (o:=.dK []) (t':=s.toks) (λ_ _ q=>kC _ q) (kM _) (qDF s.heap I.big),rfl,h _ (I.hok.fresh (kM _))⟩
end
structure M1(X:Cx)(o:Expr)(m:Str)(apos:Pos)(e:Expr)(cpos:Pos):Prop where
 base:attributeBase o m X.env (eval o X.env)=eval o X.env
 few:((backTo cpos (starEach [e] X.env)).all (λx=>!x.1)&&(backToKw cpos (keywordEach [] X.env)).all (λx=>x.1.isSome)
  &&decide (([e]:List Expr).length+([]:List Keyword).length+(if([]:List Keyword).isEmpty then 0 else 1)<30))=true
 line:(apos.endLine==cpos.line)=true
 trees:backTo cpos (starEach [e] X.env)=[(false,eval e X.env)]
noncomputable def IsD(H:Hp)(a:Addr):Prop:=(∃kvs,Rd H a (.dK kvs))∨∃kvs,Rd H a (.dT kvs)
theorem qHY{X:Cx}{pins:List (Addr×Obj)}{σ:St}{H:Hp}{s:Shared}{a:Addr}(I:Inv X pins σ H s)(d:IsD H a):
 s.TypeIs (.ref a) "dict"∧(∀b,Value.ref a=.ref b→∃ob,s.heap.get? b=some ob∧ob.dict=none)∧(a==sysModules)=false:=by
 rcases d with⟨kvs,e⟩|⟨kvs,e⟩
 ·obtain⟨_,hd,vs,_,dd⟩:=q8Z I.hok e
  refine⟨dd.typeIs,λb q=>?_,hd⟩
  cases q
  obtain⟨ob,_,_,h1,h2,_⟩:=dd
  exact⟨ob,h1,h2.2.1⟩
 ·obtain⟨_,hd,xs,_,dd⟩:=q91 I.hok e
  refine⟨dd.typeIs,λb q=>?_,hd⟩
  cases q
  obtain⟨ob,_,_,h1,h2,_⟩:=dd
  exact⟨ob,h1,h2.2.1⟩
noncomputable def qHZ(td ty:TE):TE:=λσ H Q=>td σ H λx H1=>∃a,x=.ref a∧IsD H1 a∧ty σ H1 λy H2=>∃kvs k v,H2 a=some (.dK kvs)∧y=kV k∧valV kvs k=some v∧Q v (upd H2 a (.dK (q5J kvs k)))
section
variable{X:Cx}{o e f:Expr}{apos cpos:Pos}{td ty tx:TE}
theorem qDG(ho:PE X o td)(he:PE X e ty)(m:M1 X o "pop" apos e cpos):PE X (.Call (.Attribute o "pop" apos) [e] [] cpos) (qHZ td ty):=by
 intro pins s σ H Q I h
 refine wpAny_Call_method m.base m.few m.line PySem.F.plainAttrs_dict PySem.F.slot_dict_pop PySem.F.type_dict_pop (thn (ho pins s σ H _ I h) λu s1 hZ=>?_)
 obtain⟨x,H1,I1,rx,a,ex,d,q1⟩:=hZ
 subst ex
 obtain rfl:u=Value.ref a:=rx
 obtain⟨t1,t2,_⟩:=qHY I1 d
 refine⟨t1,t2,?_⟩
 rw[m.trees]
 refine cO rfl (Calls.evalArgs_plain (Calls.spliced_cons (thn (he pins s1 σ H1 _ I1 q1) λiv s2 ⟨y,H2,I2,ry,kvs,k,v,ea,ey,l,q2⟩=>Calls.spliced_nil ?_)))
 subst ey
 exact qK1 I2 ea ry l (.inl rfl) λw' s3 I3 rw'=>⟨v,_,I3,rw',q2⟩
end
end L2
namespace Att
open PySem PySem.W PySem.Calls PyProof.Rows
theorem q4O{P:Params}{h:Heap}:∀(ns:List Int) (vs:List Value),WellAll P h vs (ns.map WData.int)→IntsAre vs ns:=by
 intro ns
 induction ns with
 |nil=>
  intro vs w
  rw[List.map_nil]at w
  cases w
  exact .nil
 |cons n ns ih=>
  intro vs w
  rw[mU]at w
  cases w with
  |cons a b=>
   cases a
   exact .cons _ _ (ih _ b)
theorem qC9{l:OpenLaw}{n:Nat}(hn:l.most=some n){P:Params}{h:Heap}{args:List WData}{vals:List Value}
 (hpre:l.row.toRowW.claim.pre args=true) (hwl:WellAll P h vals args):
 ∃a vs ns,vals=[Value.ref a]∧args=[WData.list (ns.map WData.int)]∧h.get? a=some { cls:=.type "list",data:=.seq vs.toArray }∧IntsAre vs ns∧ns.length≤n:=by
 have hsh:WShape.hasAll [] args [.list .int]=true:=(pre_splitW hpre).1
 have hc:l.pre.holds [] { args:=args } =true:=(pre_splitW hpre).2
 obtain⟨d,r,rfl,h1,h2⟩:=hasAllW_cons hsh
 obtain rfl:=hasAllW_nil h2
 obtain⟨xs,rfl,h3⟩:=hasW_list h1
 obtain⟨ns,rfl⟩:=items_int h3
 have hlen:ns.length≤n:=by
  unfold OpenLaw.pre at hc
  have h4:(WTm.not (.lt (.lit (.int (n:Int))) (.len (.arg 0)))).holds [] { args:=[.list (ns.map .int)] } =true:=by
   have h4:=(holds_andW hc).1
   rw[hn]at h4
   exact h4
  have h5:=condW_of h4 (w_not (w_lt w_lit (w_len_list (w_arg rfl))))
  rw[h9]at h5
  refine Nat.le_of_not_lt λq=>?_
  have q':(n:Int)<((ns.length:Nat):Int):=by omega
  first
   |(rw[hG q']at h5;exact absurd h5 (by decide))
   |(simp at h5;omega)
 cases hwl with
 |cons w1 w2=>
  cases w2
  cases w1 with
  |list ho hall=>exact⟨_,_,ns,rfl,rfl,ho,q4O ns _ hall,hlen⟩
theorem qCA(l:OpenLaw)(args:List WData):l.row.toRowW.claim.post args (.bool true) args=true:=
 postW_of (r:=l.row.toRowW) (X:=(true==true))
  (show WShape.has [] (.bool true) .bool=true by first|rfl|decide|simp[WShape.has,WShape.arms,WShape.armsAll])
  (show(WTm.eq .res (.lit (.bool true))).value [] { args:=args,res:=some (.bool true),after:=args } =some (.bool (true==true))from w_eq_bool (w_res rfl) w_lit) rfl
theorem attach_call{l:OpenLaw}{n:Nat}{q:Program}{loose:List Str}{XP:(Str→Option Value)→Heap→Prop}{YP:World→Heap→Prop}{d:DefRec}
 (hn:l.most=some n) (hdf:d.params.defaults=[])
 (call:∀(w:World) (s₀ s₁:Shared) (mg mb:Str→Option Value) (fa:Addr) (o:Obj) (pm cd doc:Value) (a:Addr) (vs:List Value) (ns:List Int),
  Ground q loose [] XP w s₀ mg mb s₁.heap→YP w s₁.heap→
  s₁.heap.get? fa=some o→o.data=.func (docDef d.name d.params d.body d.scope pm cd doc)→s₁.heap.CodeRec cd d.name→mg d.name=some (.ref fa)→
  s₁.heap.get? a=some { cls:=.type "list",data:=.seq vs.toArray }→IntsAre vs ns→ns.length≤n→s₁.gens=#[]→
  codeAny (model l.prog w) callerA (.call (.ref fa) ⟨[.ref a],[]⟩) (λr s'=>r=.ok (.ret (.bool true))∧OldK s₁.heap s'.heap∧s'.os=s₁.os∧AllBare s'.gens) s₁):
 WalkO q loose XP YP l.row.toRowW d [] (λf vs=>PySem.call f vs):=by
 intro w s₀ s₁ mg mb G Y fa o pm cd doc dV kV ho hd hcd hD hmg hg args vals as hpre hlay hrd hwl hlo
 obtain rfl:dV=.none:=Dflts.none hD hdf
 obtain rfl:kV=.none:=Dflts.noKw hD
 obtain⟨a,vs,ns,rfl,rfl,hobj,hints,hlen⟩:=qC9 hn hpre hwl
 refine enter_call (cM (call w s₀ s₁ mg mb fa o pm cd doc a vs ns G Y ho (fd_plain hd) hcd hmg hobj hints hlen hg) λr s' hq=>?_)
 obtain⟨rfl,h2,h3,h4⟩:=hq
 exact⟨.inl ⟨.bool true,.bool true,[],rfl,λ_=>rfl,.bool true,qCA l _,λ_=>⟨List.Pairwise.nil,λ_ hm=>(nomatch hm)⟩⟩,h2,h3,h4⟩
end Att
namespace L2
open PySem PySem.Spec PyProof.Rows
theorem q78:∀{vs:List Value} {ns:List Int},IntsAre vs ns→Vals (ns.map V.int) vs
 |_,_,.nil=>.nil
 |_,_,.cons n t h=>.cons ⟨t,rfl⟩ (q78 h)
noncomputable def qN(s:Stmt)(j:Nat):Stmt:=match s with
 | .ClassDef _ _ _ body _ _ _ _ _ _ _=>body.getD j (.Pass ⟨0,0,0,0⟩)
 |_=>.Pass ⟨0,0,0,0⟩
noncomputable def yB(s:Stmt):Arguments:=match s with
 | .FunctionDef _ a _ _ _ _ _ _ _ _=>a
 |_=>{ posonlyargs:=[],args:=[],vararg:=none,kwonlyargs:=[],kw_defaults:=[],kwarg:=none,defaults:=[] }
noncomputable def jP(s:Stmt):List Stmt:=match s with
 | .FunctionDef _ _ b _ _ _ _ _ _ _=>b
 |_=>[]
noncomputable def qF(s:Stmt):Scope:=match s with
 | .FunctionDef _ _ _ _ _ _ sc _ _ _=>sc
 |_=>{ kind:=.function,names:=[],isGenerator:=false,isCoroutine:=false }
noncomputable abbrev CX0:CXT:=λ_ _ _ _ _ _=>False
noncomputable abbrev E0:XK:=λ_ _ _=>False
theorem qK{X:Cx}:q0O CX0 X E0:=λ_ _ _ _ _ _ _ h=>h.elim
theorem q79{A:Around}{k:Nat}(hr:Room k A):A.units+1<cLine:=cG (Nat.add_le_add_left (by decide:1≤64) _) hr.units
section
variable{X:Cx}
theorem pv(i:Nat){x:Str}{pos:Pos}(hN:X.N[i]?=some x:=by rfl)(hv:Vis X.env.scope x:=by first|exact Or.inl rfl|exact Or.inr (Or.inl rfl)|exact Or.inr (Or.inr rfl))(hd:(x==("__debug__":Str))=false:=by decide)
 (hcd:(x==("__classdict__":Str))=false:=by decide):PE X (.Name x pos) (tVar i):=qHK hN hv hd hcd
end
theorem iteF{A B:Prop}(h:B):if false=true then A else B:=by
 rw[kF kO]
 exact h
theorem iteT{A B:Prop}(h:A):if true=true then A else B:=by
 rw[kI rfl]
 exact h
theorem ite2{c A B:Prop}[Decidable c](h1:c→A)(h2:¬c→B):if c then A else B:=by
 by_cases h:c
 ·rw[kI h]
  exact h1 h
 ·rw[kF h]
  exact h2 h
noncomputable def Same(H H':Hp):Prop:=∀b o,H b=some o→H' b=some o
theorem Same.refl(H:Hp):Same H H:=λ_ _ h=>h
theorem Same.trans{H H1 H2:Hp}(a:Same H H1)(b:Same H1 H2):Same H H2:=λc o h=>b c o (a c o h)
theorem Same.free{H H':Hp}(e:Same H H'){l:Addr}(h:H' l=Option.none):H l=Option.none:=by
 cases q:H l with
 |none=>rfl
 |some o=>
  rw[e l o q]at h
  cases h
theorem Same.seq{K:PySem.W.Frag}{H H':Hp}{a:Addr}{xs:List V}(e:Same H H')(h:SqL K H a xs):SqL K H' a xs:=by
 rcases h with(h|⟨o,h⟩)|h
 ·exact .inl (.inl (e _ _ h))
 ·exact .inl (.inr ⟨o,e _ _ h⟩)
 ·exact .inr h
section
variable{X:Cx}
theorem q1G:PGet X (rIxL X.K):=by
 intro pins s σ H o i ov iv Q I ro ri h
 obtain⟨p,xs,k,z,rfl,rfl,hq,he,q⟩:=h
 cases ro
 obtain⟨t,rfl⟩:=ri
 obtain⟨its,r,pl,hz⟩:=I.list hq
 obtain⟨j,h1,h2,h3,h4,h5⟩:=q7M he
 obtain⟨w,ew,rw'⟩:=r.get h2
 have hl:=r.length
 have hn:=q5E
 have fin:EP X pins σ Q w s:=⟨z,H,I,rw',q⟩
 by_cases h0:0≤k
 ·have hj:k.toNat=j:=by
   rw[seqIndex_of h0 h5]at h1
   exact kQ h1
  exact wpAny_getItem_list pl.isList h0 (by omega) (by rw[hj];simpa using ew) fin
 ·have hj:(k+(its.toArray.size:Int)).toNat=j:=by
   rw[seqIndex_neg (by omega) h4]at h1
   rw[mC,←hl]
   exact kQ h1
  exact wpAny_getItem_list_neg pl.isList (by omega) (by rw[mC]<;>omega) (by omega) (by rw[hj];simpa using ew) fin
end
noncomputable def isW:V→Bool
 | .int _=>true
 |_=>false
noncomputable def isI:V→Bool
 | .int _=>true
 | .bl _=>true
 |_=>false
noncomputable def isB:V→Bool
 | .bl _=>true
 |_=>false
noncomputable def isS:V→Bool
 | .str _=>true
 |_=>false
inductive Knd(H:Hp):V→Prop where
 |non:Knd H .non
 |bl (b:Bool):Knd H (.bl b)
 |int (i:Int):Knd H (.int i)
 |str (x:Str):Knd H (.str x)
 |lst {a:Addr} {xs:List V} (e:H a=some (.lst xs)):Knd H (.ref a)
 |tup {a:Addr} {xs:List V} (e:H a=some (.tup xs)):Knd H (.ref a)
section
variable{K:PySem.W.Frag}{H:Hp}{x:V}
theorem qI0:PySem.W.kitOne K (.type "NoneType") (.type "int")=some false:=by kernel_rfl
theorem qI1:PySem.W.kitOne K (.type "bool") (.type "int")=some true:=by kernel_rfl
theorem qI2:PySem.W.kitOne K (.type "int") (.type "int")=some true:=by kernel_rfl
theorem qI3:PySem.W.kitOne K (.type "str") (.type "int")=some false:=by kernel_rfl
theorem qI4:PySem.W.kitOne K (.type "list") (.type "int")=some false:=by kernel_rfl
theorem qI5:PySem.W.kitOne K (.type "tuple") (.type "int")=some false:=by kernel_rfl
theorem qI6:PySem.W.kitOne K (.type "NoneType") (.type "bool")=some false:=by kernel_rfl
theorem qI7:PySem.W.kitOne K (.type "bool") (.type "bool")=some true:=by kernel_rfl
theorem qI8:PySem.W.kitOne K (.type "int") (.type "bool")=some false:=by kernel_rfl
theorem qI9:PySem.W.kitOne K (.type "str") (.type "bool")=some false:=by kernel_rfl
theorem qIA:PySem.W.kitOne K (.type "list") (.type "bool")=some false:=by kernel_rfl
theorem qIB:PySem.W.kitOne K (.type "tuple") (.type "bool")=some false:=by kernel_rfl
theorem qIC:PySem.W.kitOne K (.type "NoneType") (.type "str")=some false:=by kernel_rfl
theorem qID:PySem.W.kitOne K (.type "bool") (.type "str")=some false:=by kernel_rfl
theorem qIE:PySem.W.kitOne K (.type "int") (.type "str")=some false:=by kernel_rfl
theorem qIF:PySem.W.kitOne K (.type "str") (.type "str")=some true:=by kernel_rfl
theorem qIG:PySem.W.kitOne K (.type "list") (.type "str")=some false:=by kernel_rfl
theorem qIH:PySem.W.kitOne K (.type "tuple") (.type "str")=some false:=by kernel_rfl
theorem Knd.ty(k:Knd H x):∃t,TyOf K H x t∧PySem.W.kitOne K t (.type "int")=some (isI x)∧PySem.W.kitOne K t (.type "bool")=some (isB x)∧PySem.W.kitOne K t (.type "str")=some (isS x):=by
 cases k with
 |non=>exact⟨_,.non,qI0,qI6,qIC⟩
 |bl b=>exact⟨_,.bl b,qI1,qI7,qID⟩
 |int i=>exact⟨_,.int i,qI2,qI8,qIE⟩
 |str y=>exact⟨_,.str y,qI3,qI9,qIF⟩
 |lst e=>exact⟨_,.lst e,qI4,qIA,qIG⟩
 |tup e=>exact⟨_,.tup e,qI5,qIB,qIH⟩
theorem qII(x:V):(if isI x=true then !isB x else false)=isW x:=by cases x<;>rfl
end
noncomputable def yF(ns:List Int)(k:Int):Int:=ns.getD k.toNat 0
theorem qCB{ns:List Int}{k:Int}(h0:0≤k)(h:k<ns.length):atI (ns.map V.int) k=some (.int (yF ns k)):=by
 obtain⟨j,rfl⟩:=d9 h0
 refine yP ?_
 have hj:j<ns.length:=by omega
 unfold yF
 simp[hj]
theorem qAC{ns:List Int}{k:Int}(h0:0≤k)(h:¬k<ns.length):yF ns k=0:=by
 unfold yF
 rw[kJ,rL (by omega)]
 rfl
theorem Same.upd{H:Hp}{p:Addr}{o:HO}(h:H p=none):Same H (upd H p o):=λb u e=>by
 rw[qD (qH e h)]
 exact e
noncomputable abbrev NewO(H:Hp)(o:HO)(Q:VK):Prop:=∀p H',H p=none→Same H H'→H' p=some o→Q (.ref p) H'
theorem NewO.at{H:Hp}{o:HO}{Q:VK}(q:NewO H o Q)(p:Addr)(n:H p=none):Q (.ref p) (upd H p o):=q p _ n (Same.upd n) qI
section
variable{X:Cx}{e:Expr}{es:List Expr}{t:TA}{pos:Pos}
noncomputable def qK4(t:TA):TE:=λσ H Q=>t σ H λxs H1=>xs.length≤sizeLine∧NewO H1 (.tup xs) Q
noncomputable def qK5(t:TA):TE:=λσ H Q=>t σ H λxs H1=>xs.length≤sizeLine∧NewO H1 (.lst xs) Q
theorem uD{x1}(h:PA X es t):PE X (.Tuple es x1 pos) (qK4 t):=by
 intro pins s σ H Q I hq
 refine wpAny_Tuple_spliced (thn (h pos pins s σ H _ I hq) λus s1 ⟨xs,H1,I1,r,z,q⟩=>⟨by rw[←r.length];exact z,?_⟩)
 have hf:H1 s1.heap.objs.size=none:=I1.hok.fresh (kM _)
 refine⟨.ref s1.heap.objs.size,upd H1 s1.heap.objs.size (.tup xs),I1.laid (t':=s1.toks) (λb u e=>kC _ e) (kM _) ?_,rfl,q.at _ hf⟩
 exact⟨z,us,r,⟨_,mI _ rfl,rfl,_,rfl⟩⟩
theorem jX(h:PA X es t):PE X (.List es pos) (qK5 t):=by
 intro pins s σ H Q I hq
 refine wpAny_List_spliced (thn (h pos pins s σ H _ I hq) λus s1 ⟨xs,H1,I1,r,z,q⟩=>⟨by rw[←r.length];exact z,?_⟩)
 have hf:H1 s1.heap.objs.size=none:=I1.hok.fresh (kM _)
 refine⟨.ref s1.heap.objs.size,upd H1 s1.heap.objs.size (.lst xs),I1.laid (t':=s1.toks) (λb u e=>kC _ e) (kM _) ?_,rfl,q.at _ hf⟩
 exact⟨z,us,0,r,mI _ rfl⟩
noncomputable def qK6:R2:=λx y H Q=>∃l k v,x=.ref l∧y=.int k∧H l=some (.lst [v])∧0≤k∧k≤100000∧NewO H (.lst (List.replicate k.toNat v)) Q
theorem q94{α:Type}(v:α):∀k:Nat,(List.replicate k [v]).flatten=List.replicate k v
 |0=>rfl
 |k+1=>by rw[dL,wQ,q94 v k,dL];rfl
theorem zM:OpR X (binaryOp .Mult) qK6:=by
 intro pins s σ H x y v u Q I rx ry hZ
 obtain⟨l,k,z,e1,e2,h1,h2,h3,q⟩:=hZ
 refine qHW pins s σ H x y v u Q I rx ry ⟨l,k,[z],e1,e2,h1,by omega,by omega,?_,?_⟩
 ·rw[gM,mP]
  omega
 ·rw[q94]
  exact q.at
theorem q2V:q1D X (.type "list") (λxs H Q=>∃p ys,xs=[.ref p]∧(SqL X.K H p ys∨SqT X.K H p ys)∧NewO H (.lst ys) Q):=by
 intro pins s σ H xs us Q I r hZ
 obtain⟨p,ys,e,h,q⟩:=hZ
 exact q7O pins s σ H xs us Q I r ⟨p,ys,e,h,q.at⟩
end
noncomputable def qFJ:Sp:=λvs H Q _=>∃x,vs=[x]∧Knd H x∧Q (.bl (isW x)) H
noncomputable def inB(x:V)(lo hi:Int):Bool:=match x with
 | .int i=>decide (lo≤i)&&decide (i≤hi)
 |_=>false
noncomputable def qDH:Sp:=λvs H Q _=>∃x lo hi,vs=[x,.int lo,.int hi]∧Knd H x∧Q (.bl (inB x lo hi)) H
noncomputable def qIJ(K:PySem.W.Frag):Sp:=λvs H Q _=>∃a ns k,vs=[.ref a,.int k]∧SqL K H a (ns.map V.int)∧0≤k∧Q (.int (yF ns k)) H
end L2
namespace L2
open PySem
noncomputable def ExO(h:Heap)(e:Addr)(C:Value)(od:Option Addr)(vs:Array Value):Prop:=∃oe,h.get? e=some oe∧oe.cls=C∧oe.dict=od∧oe.data=.fields vs∧1<vs.size
noncomputable def TrO(h:Heap)(e T:Addr)(vs:Array Value)(f:Value):Prop:=vs[1]?=some (.ref T)∧T≠e∧∃oT ts,h.get? T=some oT∧oT.data=.fields ts∧ts[3]?=some f
noncomputable def Air(L:Addr)(h:Heap)(e:Addr)(C:Value)(od:Option Addr):Option Addr→Prop
 |none=>∃vs,ExO h e C od vs∧vs[1]?=some .none
 |some T=>∃vs f,ExO h e C od vs∧TrO h e T vs f∧(f=.none∨f=rawInt L)
noncomputable def Held(f:Value)(h:Heap)(e T:Addr)(C:Value)(od:Option Addr):Prop:=∃vs,ExO h e C od vs∧TrO h e T vs f
structure Chg(fr rs:List Addr)(h h':Heap):Prop where
 keep:∀b o,b∉fr→b∉rs→h.get? b=some o→h'.get? b=some o
 slot:∀b o,b∉rs→h.get? b=some o→∃sl,h'.get? b=some { o with slots:=sl }
 there:∀b o,h.get? b=some o→∃o',h'.get? b=some o'
theorem Chg.refl{fr rs:List Addr}{h:Heap}:Chg fr rs h h:=⟨λ_ _ _ _ e=>e,λ_ o _ e=>⟨o.slots,e⟩,λ_ o e=>⟨o,e⟩⟩
theorem Chg.trans{fr rs:List Addr}{h h1 h2:Heap}(x:Chg fr rs h h1)(y:Chg fr rs h1 h2):Chg fr rs h h2:=
 ⟨λb o f r e=>y.keep b o f r (x.keep b o f r e),λb o r e=>let⟨_,e1⟩:=x.slot b o r e;let⟨sl,e2⟩:=y.slot b _ r e1;⟨sl,e2⟩,
  λb o e=>let⟨_,e1⟩:=x.there b o e;y.there b _ e1⟩
theorem Chg.fresh{fr rs rs':List Addr}{h h1 h2:Heap}(x:Chg fr rs h h1)(y:Chg fr rs' h1 h2)(n:∀b∈rs',b∈rs∨h.get? b=none):Chg fr rs h h2:=by
 have m:∀b o,b∉rs→h.get? b=some o→b∉rs':=λb o r e z=>(n b z).elim r λq=>by rw[q]at e;cases e
 exact⟨λb o f r e=>y.keep b o f (m b o r e) (x.keep b o f r e),λb o r e=>let⟨_,e1⟩:=x.slot b o r e;let⟨sl,e2⟩:=y.slot b _ (m b o r e) e1;⟨sl,e2⟩,
  λb o e=>let⟨_,e1⟩:=x.there b o e;y.there b _ e1⟩
theorem Chg.slots{fr rs:List Addr}{h h':Heap}(x:Heap.SlotsOnly fr h h'):Chg fr rs h h':=
 ⟨λb o f _ e=>(x.2.1 b f).trans e,λb o _ e=>x.2.2 b o e,λb o e=>let⟨sl,q⟩:=x.2.2 b o e;⟨_,q⟩⟩
theorem Chg.upd{fr rs:List Addr}{h:Heap}{a:Addr}{f:Obj→Obj}(ha:a∈rs)(hf:∀o,h.get? a=some o→(f o).isFreed=false):Chg fr rs h (h.update a f):=by
 have k:∀b o,b∉rs→h.get? b=some o→(h.update a f).get? b=some o:=λb o r e=>by
  exact(kY h f (λ(q:a=b)=>r (q▸ha))).trans e
 refine⟨λb o _ r e=>k b o r e,λb o r e=>⟨o.slots,k b o r e⟩,λb o e=>?_⟩
 by_cases q:b=a
 ·subst q;exact⟨_,dS f e (hf o e)⟩
 ·exact⟨o,by rw[kY h f (wD q)];exact e⟩
theorem Chg.push{fr rs:List Addr}{h:Heap}{o:Obj}:Chg fr rs h (h.push o):=
 ⟨λb u _ _ e=>kC _ e,λb u _ e=>⟨u.slots,kC _ e⟩,λb u e=>⟨u,kC _ e⟩⟩
theorem qCC(o:Obj)(f:Array Value→Array Value):(o.mapFields f).dict=o.dict:=by
 obtain⟨c,d,dt,sl⟩:=o
 cases dt<;>rfl
theorem ExO.set{h:Heap}{e:Addr}{C:Value}{od:Option Addr}{vs:Array Value}(x:ExO h e C od vs)(i:Nat)(v:Value):ExO (h.update e (Obj.mapFields (·.setIfInBounds i v))) e C od (vs.setIfInBounds i v):=by
 obtain⟨oe,h1,h2,h3,h4,h5⟩:=x
 have hd:=cH h4 (·.setIfInBounds i v)
 exact⟨_,dS _ h1 (rM hd),(Obj.cls_mapFields _ _).trans h2,(qCC _ _).trans h3,hd,by simpa using h5⟩
theorem ExO.of{h h':Heap}{e:Addr}{C:Value}{od:Option Addr}{vs:Array Value}(x:ExO h e C od vs)(k:∀o,h.get? e=some o→h'.get? e=some o):ExO h' e C od vs:=
 let⟨oe,h1,r⟩:=x;⟨oe,k _ h1,r⟩
section
variable{M:Model}{A:Around}{E:Value→Shared→Prop}{s:Shared}{env:Env}{outer:List Env}{L e T:Addr}{C:Value}{od:Option Addr}{base:Heap}
theorem ExO.nofr{h:Heap}{l:List Env}{vs:Array Value}(x:ExO h e C od vs)(hl:h.FunFrames base l):e∉l.filterMap (·.frame):=λhm=>by
 obtain⟨_,o,ho,hn⟩:=hl.mem hm
 obtain⟨oe,h1,_,_,h4,_⟩:=x
 rw[h1]at ho
 cases ho
 exact hn _ h4
theorem q95{head:Value}{hn:Bool}{vs:Array Value}{Q:Unit→Shared→Prop}(hfr:A.frames=some (env::outer))(hl:s.heap.FunFrames base (env::outer))(hf:env.frame=some L)(x:ExO s.heap e C od vs)
 (q:∀h' T,Chg ((env::outer).filterMap (·.frame)) [e] s.heap h'→Held (rawInt L) h' e T C od→s.heap.objs.size≤T→Q () { s with heap:=h' }):
 wpAny M A (do let a←frameOf env;let pl←entryPlaceOf L hn;let b←EntryCells.newEntry head a .none (rawInt L) .none pl;setField (.ref e) 1 b) Q E s:=by
 have ne:=x.nofr hl
 refine kB (wpAny_frameOf_fun hfr hl hf λh1 so=>kB (wpAny_entryPlaceOf λpl hp=>?_))
 unfold EntryCells.newEntry newFields
 refine kB (wpAny_newObj_type ?_ (hp.sizeOk5 _ _ _ _ _))
 have x1:ExO h1 e C od vs:=x.of λo z=>(so.2.1 e ne).trans z
 have x2:=x1.of (h':=h1.push _) λo z=>kC { cls:=.type "traceback",dict:=none,data:=.fields ([head,.ref L,.none,rawInt L,.none]++(if pl.isEmpty then List.replicate 6 Value.none else pl)).toArray } z
 obtain⟨oe,a1,a2,a3,a4,a5⟩:=id x2
 refine wpAny_setField a1 a4 a5 ?_
 have hlt:e<h1.objs.size:=let⟨_,z,_⟩:=x1;kX z
 have fresh:s.heap.objs.size≤h1.objs.size:=cL so.1.symm
 refine q _ h1.objs.size (((Chg.slots so).trans Chg.push).trans (Chg.upd (hV.mpr rfl) λo z=>?_)) ⟨_,x2.set 1 _,?_,rG hlt,{ cls:=.type "traceback",dict:=none,data:=.fields ([head,.ref L,.none,rawInt L,.none]++(if pl.isEmpty then List.replicate 6 Value.none else pl)).toArray },_,?_,rfl,?_⟩ fresh
 ·rw[a1]at z
  cases z
  exact rM (cH a4 _)
 ·simp[a5]
 ·rw[kY _ _ (mL hlt)]
  exact mI h1 rfl
 ·first|(simp;done)|(rcases hp with rfl|⟨_,_,_,_,_,_,_,rfl⟩<;>simp)
theorem qFK{tr:Option Addr}{Q:Unit→Shared→Prop}(hfr:A.frames=some (env::outer))(hl:s.heap.FunFrames base (env::outer))(hf:env.frame=some L)(x:Air L s.heap e C od tr)
 (q:∀h' T,Chg ((env::outer).filterMap (·.frame)) (e::tr.toList) s.heap h'→Held (rawInt L) h' e T C od→(T∈tr∨s.heap.objs.size≤T)→Q () { s with heap:=h' }):
 wpAny M A (noteFrame (.ref e) env) Q E s:=by
 unfold noteFrame
 simp only[hf]
 cases tr with
 |none=>
  obtain⟨vs,x,h1⟩:=x
  obtain⟨oe,a1,a2,a3,a4,a5⟩:=id x
  refine kB (wpAny_field a1 a4 h1 ?_)
  rw[kF (by decide)]
  exact q95 hfr hl hf x λh' T c hd n=>q h' T c hd (.inr n)
 |some T=>
  obtain⟨vs,f,x,⟨t1,t2,oT,ts,t3,t4,t5⟩,hfl⟩:=x
  obtain⟨oe,a1,a2,a3,a4,a5⟩:=id x
  refine kB (wpAny_field a1 a4 t1 ?_)
  rw[kI (by simp)]
  refine kB (wpAny_field t3 t4 t5 ?_)
  rcases hfl with rfl|rfl
  ·rw[kF (by simp[rawInt])]
   refine kB (wpAny_setField t3 t4 (Array.getElem?_eq_some_iff.mp t5).1 ?_)
   have k:∀b o,b≠T→s.heap.get? b=some o→(s.heap.update T (Obj.mapFields (·.setIfInBounds 3 Value.none))).get? b=some o:=λb o n z=>(kY _ _ (wD n)).trans z
   have hl2:(s.heap.update T (Obj.mapFields (·.setIfInBounds 3 Value.none))).FunFrames base (env::outer):=hl.of_keeps λb o z nf=>⟨o,k b o (λw=>by subst w;rw[t3]at z;cases z;exact nf _ t4) z,rfl⟩
   refine q95 (s:={ s with heap:=s.heap.update T (Obj.mapFields (·.setIfInBounds 3 Value.none)) }) hfr hl2 hf (x.of λo z=>k e o (wD t2) z) λh' T' c hd n=>q h' T' ?_ hd ?_
   ·refine(Chg.upd (a:=T) (by simp) λo z=>?_).fresh c λb hb=>.inl ?_
    ·rw[t3]at z
     cases z
     exact rM (cH t4 _)
    ·rw[hV.mp hb]
     exact kW
   ·exact .inr (mF (cL (Heap.size_after_update ..).symm) n)
  ·rw[kI (by simp)]
   exact mB (q _ T .refl ⟨vs,x,t1,t2,oT,ts,t3,t4,t5⟩ (.inl rfl))
theorem qCD{f:Value}{fr:Option Addr}{Q:Unit→Shared→Prop}(x:Held f s.heap e T C od)
 (q:∀h',Chg [] [T] s.heap h'→Held (fr.elim .none λf=>rawInt f) h' e T C od→Q () { s with heap:=h' }):wpAny M A (setFlight (.ref e) fr) Q E s:=by
 obtain⟨vs,x,t1,t2,oT,ts,t3,t4,t5⟩:=x
 obtain⟨oe,a1,a2,a3,a4,a5⟩:=id x
 have hz:=(Array.getElem?_eq_some_iff.mp t5).1
 unfold setFlight
 refine kB (wpAny_field a1 a4 t1 ?_)
 rw[kI (by simp)]
 have hd:=cH t4 (·.setIfInBounds 3 (fr.elim .none λf=>rawInt f))
 refine wpAny_setField t3 t4 hz (q _ (Chg.upd (by simp) λo z=>?_) ⟨vs,x.of λo z=>?_,t1,t2,_,_,dS _ t3 (rM hd),hd,by simp[hz]⟩)
 ·rw[t3]at z
  cases z
  exact rM hd
 ·exact(kY _ _ t2).trans z
theorem Held.air{f:Value}{h:Heap}(x:Held f h e T C od)(hf:f=.none∨f=rawInt L):Air L h e C od (some T):=let⟨vs,a,b⟩:=x;⟨vs,f,a,b,hf⟩
theorem qDI{tr:Option Addr}{Q:Unit→Shared→Prop}(hfr:A.frames=some (env::outer))(hl:s.heap.FunFrames base (env::outer))(hf:env.frame=some L)(x:Air L s.heap e C od tr)
 (q:∀h' T,Chg ((env::outer).filterMap (·.frame)) (e::tr.toList) s.heap h'→Held .none h' e T C od→(T∈tr∨s.heap.objs.size≤T)→Q () { s with heap:=h' }):wpAny M A (leaving env (.ref e)) Q E s:=by
 unfold leaving
 refine kB (qFK hfr hl hf x λh' T c hd n=>qCD hd λh2 c2 hd2=>q h2 T ?_ hd2 n)
 refine c.fresh (rs':=[T]) ⟨λb o _ r z=>c2.keep b o (by simp) r z,c2.slot,c2.there⟩ λb hb=>?_
 rw[hV.mp hb]
 exact n.imp (λz=>hX _ (by cases tr with|none=>cases z|some t=>cases z;exact hV.mpr rfl)) pC
end
end L2
namespace L2
open PySem PySem.Spec PyProof.Rows
section
variable{P:Program}{w:World}{H:Hp}{h h':Heap}{a:Addr}{o:HO}
theorem jK.there(x:jK P w H h a o):∃ob,h.get? a=some ob:=by
 cases o with
 |lst xs=>obtain⟨_,_,_,_,e⟩:=x;exact⟨_,e⟩
 |tup xs=>obtain⟨_,_,_,_,e,_⟩:=x;exact⟨_,e⟩
 |dK kvs=>obtain⟨_,_,_,_,o,_,_,e,_⟩:=x;exact⟨_,e⟩
 |dT kvs=>obtain⟨_,_,_,_,o,_,_,e,_⟩:=x;exact⟨_,e⟩
 |set S n=>obtain⟨o,_,_,_,e,_⟩:=x;exact⟨_,e⟩
 |ins C dx fs=>obtain⟨_,_,_,e,_⟩:=x;exact⟨_,e⟩
 |own y=>exact x
 |xd fs=>obtain⟨_,⟨_,_,_,e,_⟩,_⟩:=x;exact⟨_,e⟩
 |rng lo hi=>obtain⟨_,_,_,e⟩:=x;exact⟨_,e⟩
 |frz ob u=>exact⟨_,x.1⟩
 |tbl ps=>exact⟨_,show h.get? a=some _ from x⟩
 |met f y=>exact⟨_,show h.get? a=some _ from x⟩
 |ext φ=>exact x.2.1
theorem HOk.free(x:HOk P w H h)(e:h.get? a=none):H a=none:=by
 cases q:H a with
 |none=>rfl
 |some o=>
  obtain⟨_,z⟩:=(x a o q).there
  rw[e]at z
  cases z
theorem HOk.chg{fr rs:List Addr}(x:HOk P w H h)(c:Chg fr rs h h')(hf:∀b∈fr,H b=none)(hr:∀b∈rs,H b=none):HOk P w H h':=by
 intro a o e
 refine(x a o e).stay (λb u hb z=>?_) (λ_ q=>q) λ_ _ q=>q
 have n:H b≠none:=by
  rcases hb with rfl|q
  ·rw[e];intro y;cases y
  ·rw[q];intro y;cases y
 exact c.keep b u (λm=>n (hf b m)) (λm=>n (hr b m)) z
end
noncomputable def Recs(h:Heap)(rs:List Addr):Prop:=∀b∈rs,∃o vs,h.get? b=some o∧o.data=.fields vs
theorem Air.recs{L e:Addr}{h:Heap}{C:Value}{od tr:Option Addr}(x:Air L h e C od tr):Recs h (e::tr.toList):=by
 intro b hb
 cases tr with
 |none=>
  obtain⟨vs,⟨oe,a1,_,_,a4,_⟩,_⟩:=x
  have e':b=e:=by simpa using hb
  subst e'
  exact⟨_,_,a1,a4⟩
 |some T=>
  obtain⟨vs,f,⟨oe,a1,_,_,a4,_⟩,⟨_,_,oT,ts,t3,t4,_⟩,_⟩:=x
  have e':b=e∨b=T:=by simpa using hb
  rcases e' with rfl|rfl
  ·exact⟨_,_,a1,a4⟩
  ·exact⟨_,_,t3,t4⟩
noncomputable def Ours(X:Cx)(pins:List (Addr×Obj))(H:Hp)(rs:List Addr):Prop:=∀b∈rs,(X.s₀.heap.get? b=none∨b∈X.ex)∧H b=none∧∀p∈X.pn++pins,p.1≠b
section
variable{X:Cx}{pins:List (Addr×Obj)}{σ:St}{H:Hp}{s:Shared}{h':Heap}{rs:List Addr}
theorem Inv.chg{t':Nat}(I:Inv X pins σ H s)(c:Chg (frs X.stack) rs s.heap h')(o:Ours X pins H rs)(rc:Recs s.heap rs):Inv X pins σ H { s with heap:=h',toks:=t' }:=by
 obtain⟨m,hn,hv⟩:=I.loc
 have nl:X.env.locals∉rs:=λz=>by
  obtain⟨ob,vs,e,d⟩:=rc _ z
  obtain⟨o',es,ep,ho,hd,_⟩:=hn
  rw[e]at ho
  cases ho
  rw[d]at hd
  cases hd
 have nc:∀c v,s.heap.IsCell c v→c∉rs:=λc v q z=>by
  obtain⟨ob,vs,e,d⟩:=rc _ z
  obtain⟨o',ho,hd⟩:=q
  rw[e]at ho
  cases ho
  rw[d]at hd
  cases hd
 have cellk:∀c v,s.heap.IsCell c v→h'.IsCell c v:=λa v q=>by
  have n:=nc a v q
  obtain⟨o',ho,hd⟩:=q
  obtain⟨sl,z⟩:=c.slot a o' n ho
  exact⟨_,z,hd⟩
 have old:∀b ob,X.s₀.heap.get? b=some ob→b∉X.ex→b∉rs:=λb ob q ne z=>by
  rcases(o b z).1 with y|y
  ·rw[q]at y;cases y
  ·exact ne y
 have ns':h'.Ns X.env.locals m:=by
  obtain⟨o',es,ep,ho,r⟩:=hn
  obtain⟨sl,z⟩:=c.slot _ o' nl ho
  exact⟨_,es,ep,z,r⟩
 refine⟨I.ok,I.os,I.bare,⟨λb ob q n nf ne=>?_,λb ob q n hf ne=>?_,I.base.free,λb ob q ne=>?_,I.base.tups,I.base.frzs,I.base.tbls⟩,
  ⟨m,ns',λi x v e1 e2 e3=>?_⟩,λx a e=>?_,I.free,I.freeC,λp hp=>?_,I.hok.chg c I.stkFree λb hb=>(o b hb).2.1,I.len⟩
 ·refine c.keep b ob (λz=>?_) (old b ob q ne) (I.base.keep b ob q n nf ne)
  rcases kL.mp (I.stkSub b z)with rfl|y
  ·exact absurd (kX q) (Nat.not_lt.mpr I.ok.above)
  ·exact nf y
 ·obtain⟨sl,z⟩:=I.base.slot b ob q n hf ne
  obtain⟨sl',z'⟩:=c.slot b _ (old b ob q ne) z
  exact⟨sl',z'⟩
 ·obtain⟨o',z⟩:=I.base.there b ob q ne
  exact c.there b o' z
 ·obtain⟨u,r,lk⟩:=hv i x v e1 e2 e3
  refine⟨u,r,lk.imp id λ⟨k,cc,l,q⟩=>⟨k,cc,l,cellk _ _ q⟩⟩
 ·obtain⟨v,q⟩:=I.cell x a e
  exact⟨v,cellk _ _ q⟩
 ·obtain⟨p1,p2,p3,p4,p5⟩:=I.pin p hp
  refine⟨c.keep _ _ (λz=>?_) (λz=>(o _ z).2.2 p hp rfl) p1,p2,p3,p4,p5⟩
  rcases kL.mp (I.stkSub _ z)with y|y
  ·exact p3 y
  ·exact p4 y
end
noncomputable def CXe(P:Program)(w:World):CXT:=λouter H s E e s'=>∃ea T C od H',e=.ref ea∧s'.os=s.os∧AllBare s'.gens∧Un (frs outer) [] H H' s.heap s'.heap∧HOk P w H' s'.heap∧
 Held .none s'.heap ea T C od∧(s.heap.get? ea=none∧s.heap.get? T=none)∧(H' ea=none∧H' T=none)∧E C od H'
noncomputable def q4J(X:Cx)(ES:St→XK):Prop:=∀(pins:List (Addr×Obj)) (σ:St) (H:Hp) (s:Shared) (ea:Addr) (tr:Option Addr) (C:Value) (od:Option Addr),
 Inv X pins σ H s→Air X.env.locals s.heap ea C od tr→Ours X pins H (ea::tr.toList)→ES σ C od H→X.xe (.ref ea) s
noncomputable def qFL(CX:CXT)(X:Cx)(ES:St→XK):Prop:=∀(pins:List (Addr×Obj)) (σ:St) (H:Hp) (s:Shared) (e:Value) (s':Shared),Inv X pins σ H s→CX X.stack H s (ES σ) e s'→X.xe e s'
theorem q4J.passes{X:Cx}{ES:St→XK}(t:q4J X ES):qFL (CXe X.prog X.w) X ES:=by
 intro pins σ H s e s' I hZ
 obtain⟨ea,T,C,od,H',e1,ho,hg,u,hok,hd,⟨f1,f2⟩,⟨g1,g2⟩,q⟩:=hZ
 subst e1
 refine t pins σ H' s' ea (some T) C od (I.call' ho u hok hg λb hb=>by cases hb) (hd.air (.inl rfl)) (λb hb=>?_) q
 have key:∀b,s.heap.get? b=none→H' b=none→(X.s₀.heap.get? b=none∨b∈X.ex)∧H' b=none∧∀p∈X.pn++pins,p.1≠b:=λb f g=>by
  refine⟨?_,g,λp hp z=>?_⟩
  ·by_cases y:b∈X.ex
   ·exact .inr y
   ·refine .inl ?_
    cases z:X.s₀.heap.get? b with
    |none=>rfl
    |some ob=>
     obtain⟨o',z'⟩:=I.base.there b ob z y
     rw[f]at z'
     cases z'
  ·have y:=(I.pin p hp).1
   rw[z,f]at y
   cases y
 have e':b=ea∨b=T:=by simpa using hb
 rcases e' with rfl|rfl
 ·exact key _ f1 g1
 ·exact key _ f2 g2
theorem jF{P:Program}{w:World}{K:PySem.W.Frag}{mg:Str→Option Value}{base:Heap}{N:List Str}{qual:Str}{scope:Scope}{f:Addr}{cd:Value}{A:Around}{outer:List Env}{s:Shared}{H:Hp}{E:XK}:
 q4J (cxOf (CXe P w) P w K mg base N qual scope f cd A outer s H E) (λ_=>E):=by
 intro pins σ H' s' ea tr C od I air ours q
 refine qDI (base:=base) I.ok.frames I.stack rfl air λh' T c hd n=>?_
 have I2:=I.chg (t':=s'.toks) c ours air.recs
 have out:∀b,s'.heap.objs.size≤b→s.heap.get? b=none:=λb z=>by
  cases y:s.heap.get? b with
  |none=>rfl
  |some ob=>
   obtain⟨o',y'⟩:=I.base.there b ob y (by intro m;cases m)
   exact absurd (kX y') (Nat.not_lt.mpr z)
 have own:∀b,b∈ea::tr.toList→s.heap.get? b=none∧H' b=none:=λb hb=>⟨(ours b hb).1.elim id (λz=>by cases z),(ours b hb).2.1⟩
 have hT:s.heap.get? T=none∧H' T=none:=by
  rcases n with z|z
  ·exact own T (hX _ (by cases tr with|none=>cases z|some t=>cases z;exact hV.mpr rfl))
  ·exact⟨out T z,I.hok.fresh z⟩
 exact⟨ea,T,C,od,H',rfl,I.os,I.bare,I2.base,I2.hok,hd,⟨(own ea (kW)).1,hT.1⟩,⟨(own ea (kW)).2,hT.2⟩,q⟩
noncomputable def qDJ(C:Addr)(m:Str)(sp:Sp)(dvs:List V)(ES:St→XK)(ta:TE)(t:TA):TE:=λσ H Q=>ta σ H λx H1=>∃a dx fs,x=.ref a∧H1 a=some (.ins C dx fs)∧fs.lookup m=none∧
 t σ H1 λvs H2=>sp (x::(vs++dvs)) H2 Q (ES σ)
theorem q1H{X:Cx}:q4J X (λ_ _ _ _=>False):=λ_ _ _ _ _ _ _ _ _ _ _ h=>h.elim
section
variable{X:Cx}{k:Nat}{f C:Addr}{fd:FuncData}{ps:List Str}{sp:Sp}{dvs:List V}{ds:List Value}{E:XK}{ES:St→XK}{x m:Str}{p pos apos:Pos}{e o:Expr}{es:List Expr}{ta:TE}{t:TA}
theorem qB4{pins:List (Addr×Obj)}{σ:St}{H:Hp}{s:Shared}{Q:VK}{us:List Value}{vs:List V}(F:FnOk X.prog X.w X.K X.mg X.base (CXe X.prog X.w) k f fd ps sp)(hr:Room k X.A)(hb:jS X.K fd ps ds)(hd:Vals dvs ds)(tk:q4J X ES)
 (I:Inv X pins σ H s) (r:Vals vs us) (h:sp (vs++dvs) H Q (ES σ)):wpAny (model X.prog X.w) X.A (call (.ref f) us) (EP X pins σ Q) X.xe s:=by
 have r2:Vals (vs++dvs) (us++ds):=r.append hd
 have hl:(us++ds).length=ps.length:=by rw[←r2.length];exact F.len _ _ _ _ h
 refine cF (cM (F.run X.A X.stack s H ⟨us,[]⟩ (us++ds) (vs++dvs) Q (ES σ) hr I.env0 (hb s us I.kIn hl) r2 h) λr s' hq=>?_)
 cases r with
 |error e=>exact tk.passes pins σ H s e s' I hq
 |ok fl=>
  cases fl with
  |ret u=>exact I.after hq
  |next=>exact False.elim hq
  |brk=>exact False.elim hq
  |cont=>exact False.elim hq
theorem jV{pl:Sem Bool}(tk:q4J X ES)(he:PE X o ta)(c:Cls X.K C)(hm:Meth X.K C m f)(F:FnOk X.prog X.w X.K X.mg X.base (CXe X.prog X.w) k f fd ps sp)(hr:Room k X.A)(hb:jS X.K fd ps ds)(hd:Vals dvs ds)(ha:PA X (e::es) t)
 (hst:starEach (e::es) X.env=(false,eval e X.env)::starEach es X.env:=by rfl) (hpl:(backTo pos (starEach es X.env)).any (·.1)=false:=by rfl)
 (ht:eval (.Call (.Attribute o m apos) (e::es) [] pos) X.env=(do
  let ov←eval o X.env
  standAt apos.atName
  let(f,first)←holding [ov] (getMethod ov m pl)
  callWith pos f first (backTo pos (starEach (e::es) X.env)) (backToKw pos (keywordEach [] X.env))):=by rfl):
 PE X (.Call (.Attribute o m apos) (e::es) [] pos) (qDJ C m sp dvs ES ta t):=by
 intro pins s σ H Q I h
 refine rK (pl:=pl) (thn (he pins s σ H _ I h) λu s1 hZ=>?_) ht
 obtain⟨x,H1,I1,rx,a,dx,fs,ex,ea,l,q⟩:=hZ
 subst ex
 obtain rfl:u=Value.ref a:=rx
 refine q0N I1 ea c hm l ?_
 refine wF (first:=[.ref a]) (h₀:=X.base) I.ok.mod.kin hm.kp (thn (ha pos pins s1 σ H1 _ I1 q) λus s2 ⟨vs,H2,I2,r,q2⟩=>⟨I2.kIn,?_⟩) hst hpl
 exact qB4 (us:=.ref a::us) (vs:=.ref a::vs) F hr hb hd tk I2 (.cons rfl r) q2
theorem uL{pl:Sem Bool}(tk:q4J X ES)(he:PE X o ta)(c:Cls X.K C)(hm:Meth X.K C m f)(F:FnOk X.prog X.w X.K X.mg X.base (CXe X.prog X.w) k f fd ps sp)(hr:Room k X.A)(hb:jS X.K fd ps ds)(hd:Vals dvs ds)
 (ht:eval (.Call (.Attribute o m apos) [] [] pos) X.env=(do
  let ov←eval o X.env
  standAt apos.atName
  let(f,first)←holding [ov] (getMethod ov m pl)
  callWith pos f first (backTo pos (starEach [] X.env)) (backToKw pos (keywordEach [] X.env))):=by rfl):
 PE X (.Call (.Attribute o m apos) [] [] pos) (qDJ C m sp dvs ES ta tNil):=by
 intro pins s σ H Q I h
 refine rK (pl:=pl) (thn (he pins s σ H _ I h) λu s1 hZ=>?_) ht
 obtain⟨x,H1,I1,rx,a,dx,fs,ex,ea,l,q⟩:=hZ
 subst ex
 obtain rfl:u=Value.ref a:=rx
 refine q0N I1 ea c hm l ?_
 exact pM (first:=[.ref a]) I1.kIn hm.kp (qB4 (us:=[.ref a]) (vs:=[.ref a]) F hr hb hd tk I1 (.cons rfl .nil) q)
end
structure FunD(K:PySem.W.Frag)(x qual:Str)(st:Stmt)(dV:Value)(f:Addr)(fd:FuncData):Prop where
 ex:∃(oc:Value) (od:Option Addr) (kV doc pm:Value) (an:Option Addr) (cdv ct:Value) (osl:Array (Option Value)),
  fd=PySem.W.fnOf x qual (yB st) (jP st) (qF st) dV kV doc pm an cdv ct∧K.lookup f=some ⟨oc,od,.func fd,osl⟩∧PySem.W.codeIn K cdv qual=true
section
variable{P:Program}{w:World}{K:PySem.W.Frag}{mg:Str→Option Value}{base:Heap}{dV:Value}
theorem FunD.mk'{x qual:Str}{st:Stmt}{f:Addr}{oc:Value}{od an:Option Addr}{osl:Array (Option Value)}{kV doc pm cdv ct:Value}(l:K.lookup f=some ⟨oc,od,.func (PySem.W.fnOf x qual (yB st) (jP st) (qF st) dV kV doc pm an cdv ct),osl⟩)
 (c:PySem.W.codeIn K cdv qual=true):FunD K x qual st dV f (PySem.W.fnOf x qual (yB st) (jP st) (qF st) dV kV doc pm an cdv ct):=⟨⟨oc,od,kV,doc,pm,an,cdv,ct,osl,rfl,l,c⟩⟩
theorem FunD.okE{x qual:Str}{st:Stmt}{f:Addr}{fd:FuncData}{N ps:List Str}{k:Nat}{sp:Sp}(F:FunD K x qual st dV f fd)(S:FnScope N ps (qF st))(len:∀vs H Q E,sp vs H Q E→vs.length=ps.length)
 (hbody:∀(cdv:Value) (A:Around) (outer:List Env) (s:Shared) (H:Hp) (vs:List V) (Q:VK) (E:XK),Room k (A.deeper (envOfC qual (qF st) s.heap.objs.size f cdv))→sp vs H Q E→
  ∃t,PSs (cxOf (CXe P w) P w K mg base N qual (qF st) f cdv A outer s H E) (jP st) t∧t { nx:=λ_ H'=>Q .non H',rt:=Q } (zL N vs) H):FnOk P w K mg base (CXe P w) (k+1) f fd ps sp:=by
 obtain⟨oc,od,kV,doc,pm,an,cdv,ct,osl,rfl,lk,hcd⟩:=F.ex
 exact qB1 lk hcd S len λA outer s H vs Q E hr hsp=>hbody cdv A outer s H vs Q E hr hsp
theorem FunD.ok0{x qual:Str}{st:Stmt}{f:Addr}{fd:FuncData}{N ps:List Str}{k:Nat}{sp:Sp}(F:FunD K x qual st dV f fd)(S:FnScope N ps (qF st))
 (hbody:∀(cdv:Value) (A:Around) (outer:List Env) (s:Shared) (H:Hp) (vs:List V) (Q:VK) (E:XK),Room k (A.deeper (envOfC qual (qF st) s.heap.objs.size f cdv))→sp vs H Q E→
  ∃t,PSs (cxOf CX0 P w K mg base N qual (qF st) f cdv A outer s H E).nox (jP st) t∧t { nx:=λ_ H'=>Q .non H',rt:=Q } (zL N vs) H)(len:∀vs H Q E,sp vs H Q E→vs.length=ps.length:=by intro _ _ _ _ h;(repeat obtain⟨_,h⟩:=h);all_goals subst_vars;rfl):FnOk P w K mg base CX0 (k+1) f fd ps sp:=by
 obtain⟨oc,od,kV,doc,pm,an,cdv,ct,osl,rfl,lk,hcd⟩:=F.ex
 refine qB1 lk hcd S len λA outer s H vs Q E hr hsp=>?_
 obtain⟨t,h,q⟩:=hbody cdv A outer s H vs Q E hr hsp
 exact⟨t,h.nox,q⟩
end
noncomputable abbrev bmVE:List Value:=[.type "ValueError",.type "Exception",.type "BaseException",.type "object"]
noncomputable abbrev XCls(K:PySem.W.Frag)(C:Addr):Prop:=PySem.W.excIn K C bmVE "ValueError.__new__"=true
theorem qFM{K:PySem.W.Frag}{C:Addr}(q:XCls K C):∃bm N nm qn bs hd sn sub ab col dd k0 k1 k2 k3 k5,K.lookup C=some (excClassObj nm qn C N bs bm hd sn sub ab col dd k0 k1 k2 k3 k5 "ValueError.__new__")∧
 PySem.W.tailIn K bmVE bm=true∧PySem.W.nsOkIn K N=true∧PySem.W.nsIn K N "__init__"=some none:=by
 unfold XCls PySem.W.excIn at q
 split at q
 ·rename_i dd cd sl ho
  split at q
  ·rename_i C' bm k0 k1 k2 k3 n k5 hm hs
   obtain⟨nm,bs,mro,ns,qn,hd,sn,sub,ab,col,del⟩:=cd
   obtain⟨l⟩:=sl
   simp only[mR,rT,rA]at q hm hs
   obtain⟨⟨⟨⟨⟨e1,e2⟩,e3⟩,e4⟩,e5⟩,e6⟩:=q
   subst e1 e2 e3 hm hs
   exact⟨bm,ns,nm,qn,bs,hd,sn,sub,ab,col,dd,k0,k1,k2,k3,k5,ho,e4,e5,e6⟩
  ·cases q
 ·cases q
noncomputable def qIK(ES:St→XK)(C:Addr)(t:TA):TS:=λ_ σ H=>t σ H λvs H1=>vs.length≤sizeLine∧ES σ (.ref C) none H1
section
variable{X:Cx}{ES:St→XK}{C:Addr}{x:Str}{np cpos pos:Pos}{e:Expr}{es:List Expr}{t:TA}
theorem qDK{pins:List (Addr×Obj)}{σ:St}{H:Hp}{s:Shared}{h':Heap}{ea:Addr}{C:Value}{vs:List Value}(I:Inv X pins σ H s)(m:Heap.MadeExcOf s.heap h' ea C vs):
 Air X.env.locals h' ea C none none∧Ours X pins H [ea]:=by
 obtain⟨t,m1,m2,m3⟩:=m.there
 refine⟨⟨_,⟨_,m1,rfl,rfl,rfl,by simp⟩,rfl⟩,λb hb=>?_⟩
 rw[hV.mp hb]
 refine⟨?_,I.hok.free m.new,λp hp z=>?_⟩
 ·by_cases y:ea∈X.ex
  ·exact .inr y
  ·refine .inl ?_
   cases z:X.s₀.heap.get? ea with
   |none=>rfl
   |some ob=>
    obtain⟨o',z'⟩:=I.base.there ea ob z y
    rw[m.new]at z'
    cases z'
 ·have y:=(I.pin p hp).1
  rw[z,m.new]at y
  cases y
theorem q96(tk:q4J X ES)(hc:X.calm=true)(hg:Gl X x)(hm:X.mg x=some (.ref C))(hx:XCls X.K C)(ha:PA X (e::es) t)(hdb:(x==("__debug__":Str))=false:=by decide)
 (he:starEach (e::es) X.env=(false,eval e X.env)::starEach es X.env:=by rfl) (hpl:(backTo cpos (starEach es X.env)).any (·.1)=false:=by rfl):
 PS X (.Raise (some (.Call (.Name x np) (e::es) [] cpos)) none pos) (qIK ES C t):=by
 intro pins s σ H D I hq
 obtain⟨bm,N,nm,qn,bs,hd,sn,sub,ab,col,dd,k0,k1,k2,k3,k5,lk,tl,ok,ni⟩:=qFM hx
 have kb:=I.mod.kin
 have T0:=PySem.W.tail_of_in kb tl
 have hN:X.base.Ns N (X.base.nsMap N):=.of_isNs (PySem.W.isNs_of_in kb ok)
 have hni:=PySem.W.nsMap_none_of_in kb ok ni
 have hplain:(backTo cpos (starEach (e::es) X.env)).any (·.1)=false:=by
  rw[he]
  show(false||(backTo cpos (starEach es X.env)).any (·.1))=false
  rw[hpl]
  rfl
 refine wpAny_Raise_call_subT (C:=C) (nm:=nm) (q:=qn) (N:=N) (bs:=bs) (bm:=bm) (hdct:=hd) (sn:=sn) (sub:=sub) (ab:=ab) (col:=col) (dd:=dd) (k0:=k0) (k1:=k1) (k2:=k2) (k3:=k3) (k5:=k5) (mN:=X.base.nsMap N)
  PySem.F.excBase_ValueError (T0.hasType (by decide)) (I.ok.hd hc) hplain hni (q2D I hg hm ⟨rfl,?_⟩ hdb)
 have h0:=ha cpos pins s σ H _ I hq
 rw[he]at h0 ⊢
 refine PySem.Calls.evalArgs_plain (dB h0 (λus s1 h1=>?_) λ_ _ y=>y)
 obtain⟨vs,H1,I1,r,hz,hE⟩:=h1
 refine⟨rfl,by rw[←r.length];exact hz,I1.bk _ _ (kb _ _ lk),?_,T0.keeps I1.bk,λh' ea m=>?_⟩
 ·obtain⟨o',es',ep',z,rr⟩:=hN
  exact⟨o',es',ep',I1.bk _ _ z,rr⟩
 ·obtain⟨air,ours⟩:=qDK I1 m
  refine tk pins σ H1 { s1 with heap:=h' } ea none (.ref C) none (I1.kept (t':=s1.toks) m.keeps) air ours hE
end
noncomputable def qK7(ea:Addr)(C:Value)(od:Option Addr):Heap→Prop:=λh=>∃o vs,h.get? ea=some o∧o.cls=C∧o.dict=od∧o.data=.fields vs
noncomputable abbrev XO(ea:Addr)(C:Value)(od:Option Addr):HO:=.ext (qK7 ea C od)
noncomputable def NewX(ea:Addr)(C:Value)(od:Option Addr):Heap→Prop:=λh=>∃vs sl,h.get? ea=some ⟨C,od,.fields vs,sl⟩∧1<vs.size∧vs[1]?=some .none
noncomputable abbrev XN(ea:Addr)(C:Value)(od:Option Addr):HO:=.ext (NewX ea C od)
noncomputable def qH5(X:Cx)(pins:List (Addr×Obj))(a:Addr):Prop:=(X.s₀.heap.get? a=none∨a∈X.ex)∧∀p∈X.pn++pins,p.1≠a
section
variable{X:Cx}{pins:List (Addr×Obj)}{σ:St}{H:Hp}{s:Shared}{a:Addr}
theorem Inv.young(I:Inv X pins σ H s)(e:s.heap.get? a=none):qH5 X pins a:=by
 refine⟨?_,λp hp z=>?_⟩
 ·by_cases y:a∈X.ex
  ·exact .inr y
  ·refine .inl ?_
   cases z:X.s₀.heap.get? a with
   |none=>rfl
   |some ob=>
    obtain⟨o',z'⟩:=I.base.there a ob z y
    rw[e]at z'
    cases z'
 ·have y:=(I.pin p hp).1
  rw[z,e]at y
  cases y
theorem Inv.trackG{o:HO}(I:Inv X pins σ H s)(n:H a=none)(y:qH5 X pins a)(nl:a≠X.env.locals)(nc:∀x c,X.env.cells.lookup x=some c→c≠a)(new:jK X.prog X.w (upd H a o) s.heap a o):Inv X pins σ (upd H a o) s:=by
 have ne:∀b o',X.s₀.heap.get? b=some o'→b∉X.ex→b≠a:=λb o' z x q=>by
  subst q
  rcases y.1 with w|w
  ·rw[z]at w;cases w
  ·exact x w
 have nt:∀b u,H b=some u→b≠a:=λb u z q=>by rw[q,n]at z;cases z
 refine⟨I.ok,I.os,I.bare,⟨I.base.keep,I.base.slot,λb o' z m x=>?_,I.base.there,λb xs z=>?_,λb o' u z=>?_,λb ps z=>?_⟩,I.loc,I.cell,?_,λx c z=>?_,λp hp=>?_,λb u z=>?_,I.len⟩
 ·rw[qD (ne b o' z x)]
  exact I.base.free b o' z m x
 ·have w:=I.base.tups b xs z
  rw[qD (nt _ _ w)]
  exact w
 ·have w:=I.base.frzs b o' u z
  rw[qD (nt _ _ w)]
  exact w
 ·obtain⟨more,w⟩:=I.base.tbls b ps z
  exact⟨more,by rw[qD (nt _ _ w)];exact w⟩
 ·rw[qD (wD nl)]
  exact I.free
 ·rw[qD (nc x c z)]
  exact I.freeC x c z
 ·obtain⟨p1,p2,p3,p4,p5⟩:=I.pin p hp
  exact⟨p1,by rw[qD (y.2 p hp)];exact p2,p3,p4,p5⟩
 ·by_cases q:b=a
  ·subst q
   rw[qI]at z
   cases z
   exact new
  ·rw[qD q]at z
   refine(I.hok b u z).stay (λ_ _ _ g=>g) (λc g=>?_) λc xs g=>?_
   ·rw[qD (nt _ _ g)];exact g
   ·rw[qD (nt _ _ g)];exact g
end
noncomputable def qDL:List Value→Bool
 | .ref _::r=>qDL r
 |l=>l==bmVE
noncomputable def veIn(K:PySem.W.Frag)(C:Addr):Bool:=(PySem.W.clsIn K C).any (λcd=>qDL cd.mro)
structure XAt(K:PySem.W.Frag)(C:Addr):Prop where
 hd:PySem.W.hasDictIn K C=true
 sa:PySem.W.findIn K (.ref C) "__setattr__"=some (some (.builtin "object.__setattr__"))
 mro:veIn K C=true
structure XRd(K:PySem.W.Frag)(C:Addr):Prop where
 ga:PySem.W.findIn K (.ref C) "__getattribute__"=some (some (.builtin "BaseException.__getattribute__"))
 gn:PySem.W.findIn K (.ref C) "__getattr__"=some none
 mb:PySem.W.mroIn K C (.type "BaseException")=some true
 hd:PySem.W.hasDictIn K C=true
 cls:PySem.W.findIn K (.ref C) "__class__"=some (some (.builtin "object.__class__"))
 cget:PySem.W.specialIn K (.builtin "object.__class__") "__get__"=some (some (.builtin "getset_descriptor.__get__"))
 ctk:PySem.W.takesIn K (.builtin "object.__class__")=some true
 mo:PySem.W.mroIn K C (.type "object")=some true
noncomputable def XAny(H:Hp)(ea:Addr)(C:Value)(od:Option Addr):Prop:=H ea=some (XO ea C od)∨H ea=some (XN ea C od)
section
variable{X:Cx}{pins:List (Addr×Obj)}{σ:St}{H:Hp}{s:Shared}{ea C:Addr}{od:Option Addr}
theorem XAny.at{C:Value}(x:XAny H ea C od)(I:Inv X pins σ H s):∃o vs,s.heap.get? ea=some o∧o.cls=C∧o.dict=od∧o.data=.fields vs:=by
 rcases x with e|e
 ·exact(I.hok ea _ e).1
 ·obtain⟨vs,sl,z,_⟩:=(I.hok ea _ e).1
  exact⟨_,vs,z,rfl,rfl,rfl⟩
theorem qFN{A:Around}{E:Value→Shared→Prop}{K:PySem.W.Frag}{prog:Program}{w:World}{s:Shared}{x:Addr}{ox:Obj}{od:Option Obj}{name:Str}{tk:Tok}{fill b:Bool}{Q:Value→Shared→Prop}(X:K.In s.heap)(J:PySem.W.InstAt s.heap x ox C od)(c:XRd K C)
 (h:∀A',wpAny (model prog w) A' (Builtin.«object.__getattribute__» ⟨[.ref x,.str name tk],[]⟩) (λfin s'=>∃v,fin=.done (.ret v)∧PySem.W.handedIn v=true∧Q v s') (λ_ _=>False) s):wpAny (model prog w) A (getAttrBy (.ref x) (.str name tk) fill b) Q E s:=by
 obtain⟨hh,g,d,t,os⟩:=s
 have L0:=J.type (M:=model prog w)
 have L1:=wU (M:=model prog w) X c.ga
 have L2:=wU (M:=model prog w) X c.gn
 have SF:=PySem.F.excAttr_ValueError.ga
 unfold getAttrBy
 refine gK (kB (L0.at (kB (L1.at ?_))))
 show wpAny _ _ (getAttrByItsOwn (.ref x) (.str name tk) (.ref C) (.builtin "BaseException.__getattribute__") fill b) _ _ _
 unfold getAttrByItsOwn
 refine kB ?_
 show wpAny _ _ (typeLookup (.ref C) "__getattr__") _ _ _
 refine L2.at ?_
 refine kB (wpAny_attempt (gK ?_))
 have e1:callGetattribute (.ref x) (.str name tk) (.builtin "BaseException.__getattribute__") b=boundAndCalled (.builtin "BaseException.__getattribute__") (.ref x) (.str name tk):=by
  unfold callGetattribute
  rw[kF (by cases b<;>exact Bool.noConfusion)]
 rw[e1]
 unfold boundAndCalled
 rw[SF.bind (.ref x)]
 refine kB (mB ?_)
 refine cF (pD SF.plain PySem.F.entry_bexc_ga ?_)
 have su:PySem.W.Looks (model prog w) hh (isInstance (.ref x) (.type "BaseException")) true:=J.type.andThen (PySem.W.looks_mroIn X c.mb)
 have hk:builtinKind "BaseException.__getattribute__"=some .slot:=by decide+kernel
 have hs:splitId "BaseException.__getattribute__"=some ("BaseException","__getattribute__"):=by decide+kernel
 refine @PySem.W.check_slot (model prog w) _ _ ⟨hh,g,d,t,os⟩ "BaseException.__getattribute__" "BaseException" "__getattribute__" (.ref x) [.str name tk] [] _ hk hs su (PySem.F.args_bexc_ga (.ref x) (.str name tk)) ?_
 refine dB (h _) (λfin s' z=>?_) (λ_ _ z=>z.elim)
 obtain⟨v,rfl,z1,z2⟩:=z
 exact PySem.W.handed_on z1 z2
end
noncomputable def clsV:V→Option Value
 | .ref a=>some (.ref a)
 | .ty n=>some (.type n)
 |_=>none
theorem qDM{c:V}{cv u:Value}(h:clsV c=some cv)(r:RelV c u):u=cv:=by
 cases c<;>first|(cases h;exact r)|cases h
noncomputable def KndT(K:PySem.W.Frag)(H:Hp)(x:V)(t:Value):Prop:=TyOf K H x t∨∃ea C od,x=.ref ea∧t=.ref C∧XAny H ea (.ref C) od∧XRd K C∧(od=none∨∃dx fs,od=some dx∧H dx=some (.xd fs))
theorem qIL{K:PySem.W.Frag}{x D:Addr}{ox:Obj}{od:Option Obj}(c:XRd K D):PySem.W.KitX K (.ref x) (.ref D) (λh=>PySem.W.InstAt h x ox D od) where
 ty:=λ_ _ _ I=>I.type
 it:=λ_ _ X _=>by
  obtain⟨cd,hc,_⟩:=cV c.hd
  unfold PySem.W.clsIn at hc
  split at hc
  ·rename_i ho
   intro A' Q' E' s' k q
   unfold isType loadHead
   exact kB (wpAny_loadPart (k _ _ (X _ _ ho)) (mB q))
  ·cases hc
 ne:=λh tp dd its n sl X htp=>by
  obtain⟨cd,hc,_⟩:=cV c.hd
  refine Bool.eq_false_iff.mpr λq=>?_
  have e:D=tp:=Value.ref.inj (rT.mp q)
  subst e
  unfold PySem.W.clsIn at hc
  split at hc
  ·rename_i ho
   have z:=(X _ _ ho).symm.trans htp
   cases z
  ·cases hc
 ca:=fun {prog w _ _ _ s} X I k=>by
  have hf:PySem.W.findObj K D od "__class__"=some (.bind (.builtin "getset_descriptor.__get__") (.builtin "object.__class__")):=by
   obtain⟨cd,hc,_⟩:=cV c.hd
   unfold PySem.W.findObj
   rw[hc,cW,c.cls,cW]
   dsimp only
   rw[c.cget,cW]
   dsimp only
   rw[c.ctk,cW]
  unfold getAttr? getAttrBy?
  refine kB (wpAny_mkText (kB (wpAny_attempt (qFN (s:={ s with toks:=s.toks+1 }) X I c λA'=>?_))))
  have L0:=I.type (M:=model prog w)
  have L1:=PySem.W.looks_find (M:=model prog w) X I hf
  obtain⟨hh,gg,d,t,os⟩:=s
  refine kB (mB (kB (mB (kB (L0.at (kB (L1.at ?_)))))))
  show wpAny _ _ (holding [.builtin "object.__class__"] (call (.builtin "getset_descriptor.__get__") [.builtin "object.__class__",.ref x,.ref D]) >>= ret) _ _ _
  exact kB (gK (cF (PySem.W.class_get (s:=⟨hh,gg,d,t+1,os⟩) (ox:=ox) (od:=od) X I c.mo (mB ⟨_,rfl,rfl,mB k⟩))))
theorem q3Q{X:Cx}:q1D X (.builtin "isinstance") (λxs H Q=>∃x c cv t b,xs=[x,c]∧clsV c=some cv∧KndT X.K H x t∧PySem.W.kitOne X.K t cv=some b∧Q (.bl b) H):=by
 intro pins s σ H xs us Q I r h
 obtain⟨x,c,cv,t,b,rfl,hc,ty,e,q⟩:=h
 obtain⟨u,w',rfl,ru,rw'⟩:=qD1 r
 cases qDM hc rw'
 rcases ty with ty|⟨ea,C,od,rfl,rfl,hx,ca,hd⟩
 ·exact qC5 I ru ty e λtk=>⟨.bl b,H,I.tok tk,rfl,q⟩
 ·obtain rfl:u=Value.ref ea:=ru
  obtain⟨o,vs,e1,e2,e3,e4⟩:=hx.at I
  have hno:PySem.W.notCls o=true:=by rw[PySem.W.notCls,e4]
  have J:∃oD,PySem.W.InstAt s.heap ea o C oD:=by
   rcases hd with rfl|⟨dx,fs,rfl,hdx⟩
   ·exact⟨none,e1,e2,hno,by rw[e3];exact True.intro⟩
   ·obtain⟨mA,n1,rl⟩:=I.hok dx _ hdx
    obtain⟨oD,g1,g2⟩:=q6Y n1
    exact⟨some oD,e1,e2,hno,by rw[e3];exact g1⟩
  obtain⟨oD,J⟩:=J
  exact gX (qIL ca) I.kIn J e (λz=>nomatch z) λtk=>⟨.bl b,H,I.tok tk,rfl,q⟩
structure BIni(K:PySem.W.Frag)(W:Addr):Prop where
 rd:PySem.W.readsIn K W (.type "type")=true
 fd:PySem.W.findCls K (.ref W) (.type "type") "__init__"=some (.val (.builtin "ValueError.__init__"))
 ga:PySem.W.specialIn K (.ref W) "__getattribute__"=some (some (.builtin "type.__getattribute__"))
end L2
namespace L2
open PySem
structure Keep(F:List Addr)(H H':Hp):Prop where
 k:∀b o,b∉F→H b=some o→H' b=some o
 tp:∀b xs,H b=some (.tup xs)→H' b=some (.tup xs)
theorem Keep.refl{F:List Addr}{H:Hp}:Keep F H H:=⟨λ_ _ _ e=>e,λ_ _ e=>e⟩
theorem Keep.trans{F:List Addr}{H H1 H2:Hp}(a:Keep F H H1)(b:Keep F H1 H2):Keep F H H2:=⟨λx o n e=>b.k x o n (a.k x o n e),λx xs e=>b.tp x xs (a.tp x xs e)⟩
theorem Keep.mono{F F':List Addr}{H H':Hp}(a:Keep F H H')(s:∀b∈F,b∈F'):Keep F' H H':=⟨λx o n e=>a.k x o (λm=>n (s x m)) e,a.tp⟩
theorem Keep.upd{F:List Addr}{H:Hp}{p:Addr}{o u:HO}(h:H p=some u)(nt:∀xs,u≠ .tup xs)(m:p∈F):Keep F H (upd H p o):=by
 refine⟨λb x n e=>?_,λb xs e=>?_⟩
 ·rw[qD (λ(z:b=p)=>n (z▸m))];exact e
 ·rw[qD (jU e h (λz=>nt xs z.symm))];exact e
theorem Keep.same{F:List Addr}{H H':Hp}(s:Same H H'):Keep F H H':=⟨λb o _ e=>s b o e,λb xs e=>s b _ e⟩
theorem Keep.none{F:List Addr}{H H':Hp}(a:Keep F H H'){b:Addr}(n:b∉F)(e:H' b=Option.none):H b=Option.none:=by
 cases q:H b with
 |none=>rfl
 |some o=>rw[a.k b o n q]at e;cases e
structure CM where
 bl:Int
 pg:Int
 mo:Int
 lim:List (Key×V)
 bo:List V
 cl:List Int
 dc:List Int
 br:List Bool
 lf:Option Int
 rc:List (Str×Int×Bool)
structure CA where
 dx:Addr
 li:Addr
 bo:Addr
 cl:Addr
 dc:Addr
 br:Addr
 rc:Addr
noncomputable def lfV:Option Int→V
 | .none=>.non
 | .some i=>.int i
noncomputable def chF(a:CA)(m:CM):List (Str×V):=[("blocks",.int m.bl),("pages",.int m.pg),("most",.int m.mo),("limits",.ref a.li),("borne",.ref a.bo),("clearings",.ref a.cl),("deed_counts",.ref a.dc),("broken",.ref a.br),("deeds_left",lfV m.lf),("record",.ref a.rc)]
noncomputable def trip(H:Hp)(v:V)(d:Str×Int×Bool):Prop:=∃p,v=.ref p∧H p=some (.tup [.str d.1,.int d.2.1,.bl d.2.2])
noncomputable abbrev Recd(H:Hp):List V→List (Str×Int×Bool)→Prop:=Paired (trip H)
theorem Recd.keep{F:List Addr}{H H':Hp}(k:Keep F H H'){rs:List V}{ds:List (Str×Int×Bool)}(r:Recd H rs ds):Recd H' rs ds:=Paired.mapP r λv d ⟨p,e,h⟩=>⟨p,e,k.tp _ _ h⟩
theorem _root_.PySem.Paired.len{α β:Type}{F:α→β→Prop}:∀{l₁:List α} {l₂:List β},Paired F l₁ l₂→l₁.length=l₂.length
 |_,_,.nil=>rfl
 |_,_,.cons _ t=>dR (· + 1) t.len
theorem Paired.snoc{α β:Type}{F:α→β→Prop}:∀{l₁:List α} {l₂:List β} {a:α} {b:β},Paired F l₁ l₂→F a b→Paired F (l₁++[a]) (l₂++[b])
 |_,_,_,_,.nil,h=>.cons h .nil
 |_,_,_,_,.cons r t,h=>.cons r (Paired.snoc t h)
noncomputable def foot(c:Addr)(a:CA):List Addr:=[c,a.bo,a.cl,a.dc,a.br,a.rc]
structure ChipAt(C:Addr)(H:Hp)(c:Addr)(a:CA)(m:CM):Prop where
 ins:H c=some (.ins C a.dx (chF a m))
 li:H a.li=some (.dK m.lim)
 bo:H a.bo=some (.lst m.bo)
 cl:H a.cl=some (.lst (m.cl.map V.int))
 dc:H a.dc=some (.lst (m.dc.map V.int))
 br:H a.br=some (.lst (m.br.map V.bl))
 rc:∃rs,H a.rc=some (.lst rs)∧Recd H rs m.rc
 nd:[a.bo,a.cl,a.dc,a.br,a.rc].Nodup
structure CM.Ok(m:CM):Prop where
 bl1:2≤m.bl
 bl2:m.bl≤16
 pg1:1≤m.pg
 pg2:m.pg≤16
 nbo:(m.bo.length:Int)=m.bl*m.pg
 ncl:(m.cl.length:Int)=m.bl
 ndc:(m.dc.length:Int)=m.bl
 nbr:(m.br.length:Int)=m.bl
 lim:∀b v,valV m.lim (Sum.inl b)=some v→∃n,v=.int n
 nrc:m.rc.length≤1000000
section
variable{C c:Addr}{a:CA}{m:CM}{H H':Hp}
theorem ChipAt.ne(h:ChipAt C H c a m):c≠a.bo∧c≠a.cl∧c≠a.dc∧c≠a.br∧c≠a.rc:=by
 obtain⟨rs,e,_⟩:=h.rc
 exact⟨jU h.ins h.bo (by intro z;cases z),jU h.ins h.cl (by intro z;cases z),jU h.ins h.dc (by intro z;cases z),jU h.ins h.br (by intro z;cases z),jU h.ins e (by intro z;cases z)⟩
theorem ChipAt.nel(h:ChipAt C H c a m):a.li≠c∧a.li≠a.bo∧a.li≠a.cl∧a.li≠a.dc∧a.li≠a.br∧a.li≠a.rc:=by
 obtain⟨rs,e,_⟩:=h.rc
 exact⟨jU h.li h.ins (by intro z;cases z),jU h.li h.bo (by intro z;cases z),jU h.li h.cl (by intro z;cases z),jU h.li h.dc (by intro z;cases z),jU h.li h.br (by intro z;cases z),jU h.li e (by intro z;cases z)⟩
theorem ChipAt.dst(h:ChipAt C H c a m):(a.bo≠a.cl∧a.bo≠a.dc∧a.bo≠a.br∧a.bo≠a.rc)∧(a.cl≠a.dc∧a.cl≠a.br∧a.cl≠a.rc)∧(a.dc≠a.br∧a.dc≠a.rc)∧a.br≠a.rc:=by
 have:=h.nd
 simp only[m9,kL,gY,not_or,cC]at this
 obtain⟨⟨a1,a2,a3,a4⟩,⟨b1,b2,b3⟩,⟨c1,c2⟩,d1,_⟩:=this
 exact⟨⟨a1,a2,a3,a4⟩,⟨b1,b2,b3⟩,⟨c1,c2⟩,d1⟩
theorem ChipAt.keep{F:List Addr}(h:ChipAt C H c a m)(k:Keep F H H')(n:∀b∈a.li::foot c a,b∉F):ChipAt C H' c a m:=by
 obtain⟨rs,e,r⟩:=h.rc
 exact⟨k.k _ _ (n _ (by simp[foot])) h.ins,k.k _ _ (n _ (by simp)) h.li,k.k _ _ (n _ (by simp[foot])) h.bo,k.k _ _ (n _ (by simp[foot])) h.cl,k.k _ _ (n _ (by simp[foot])) h.dc,k.k _ _ (n _ (by simp[foot])) h.br,
  ⟨rs,k.k _ _ (n _ (by simp[foot])) e,r.keep k⟩,h.nd⟩
theorem ChipAt.same(h:ChipAt C H c a m)(s:Same H H'):ChipAt C H' c a m:=h.keep (F:=[]) (Keep.same s) (by simp)
theorem ChipAt.setLf(h:ChipAt C H c a m)(v:Option Int):ChipAt C (upd H c (.ins C a.dx (chF a { m with lf:=v }))) c a { m with lf:=v }:=by
 obtain⟨n1,n2,n3,n4,n5⟩:=h.ne
 obtain⟨l1,_⟩:=h.nel
 obtain⟨rs,e,r⟩:=h.rc
 have k:Keep [c] H (upd H c (.ins C a.dx (chF a { m with lf:=v }))):=Keep.upd h.ins (λ_ z=>by cases z) (by simp)
 exact⟨qI,by rw[qD l1];exact h.li,by rw[qD n1.symm];exact h.bo,by rw[qD n2.symm];exact h.cl,by rw[qD n3.symm];exact h.dc,by rw[qD n4.symm];exact h.br,⟨rs,by rw[qD n5.symm];exact e,r.keep k⟩,h.nd⟩
theorem ChipAt.setBo(h:ChipAt C H c a m)(v:List V):ChipAt C (upd H a.bo (.lst v)) c a { m with bo:=v }:=by
 obtain⟨n1,n2,n3,n4,n5⟩:=h.ne
 obtain⟨l0,l1,l2,l3,l4,l5⟩:=h.nel
 obtain⟨⟨a1,a2,a3,a4⟩,⟨b1,b2,b3⟩,⟨c1,c2⟩,d1⟩:=h.dst
 obtain⟨rs,e,r⟩:=h.rc
 have k:Keep [a.bo] H (upd H a.bo (.lst v)):=Keep.upd h.bo (λ_ z=>by cases z) (by simp)
 exact⟨by rw[qD n1];exact h.ins,by rw[qD l1];exact h.li,qI,by rw[qD a1.symm];exact h.cl,by rw[qD a2.symm];exact h.dc,by rw[qD a3.symm];exact h.br,⟨rs,by rw[qD a4.symm];exact e,r.keep k⟩,h.nd⟩
theorem ChipAt.setCl(h:ChipAt C H c a m)(v:List Int):ChipAt C (upd H a.cl (.lst (v.map V.int))) c a { m with cl:=v }:=by
 obtain⟨n1,n2,n3,n4,n5⟩:=h.ne
 obtain⟨l0,l1,l2,l3,l4,l5⟩:=h.nel
 obtain⟨⟨a1,a2,a3,a4⟩,⟨b1,b2,b3⟩,⟨c1,c2⟩,d1⟩:=h.dst
 obtain⟨rs,e,r⟩:=h.rc
 have k:Keep [a.cl] H (upd H a.cl (.lst (v.map V.int))):=Keep.upd h.cl (λ_ z=>by cases z) (by simp)
 exact⟨by rw[qD n2];exact h.ins,by rw[qD l2];exact h.li,by rw[qD a1];exact h.bo,qI,by rw[qD b1.symm];exact h.dc,by rw[qD b2.symm];exact h.br,⟨rs,by rw[qD b3.symm];exact e,r.keep k⟩,h.nd⟩
theorem ChipAt.setDc(h:ChipAt C H c a m)(v:List Int):ChipAt C (upd H a.dc (.lst (v.map V.int))) c a { m with dc:=v }:=by
 obtain⟨n1,n2,n3,n4,n5⟩:=h.ne
 obtain⟨l0,l1,l2,l3,l4,l5⟩:=h.nel
 obtain⟨⟨a1,a2,a3,a4⟩,⟨b1,b2,b3⟩,⟨c1,c2⟩,d1⟩:=h.dst
 obtain⟨rs,e,r⟩:=h.rc
 have k:Keep [a.dc] H (upd H a.dc (.lst (v.map V.int))):=Keep.upd h.dc (λ_ z=>by cases z) (by simp)
 exact⟨by rw[qD n3];exact h.ins,by rw[qD l3];exact h.li,by rw[qD a2];exact h.bo,by rw[qD b1];exact h.cl,qI,by rw[qD c1.symm];exact h.br,⟨rs,by rw[qD c2.symm];exact e,r.keep k⟩,h.nd⟩
theorem ChipAt.addRc{p:Addr}{rs:List V}{d:Str×Int×Bool}(h:ChipAt C H c a m)(e:H a.rc=some (.lst rs))(hp:H p=some (.tup [.str d.1,.int d.2.1,.bl d.2.2])):ChipAt C (upd H a.rc (.lst (rs++[.ref p]))) c a { m with rc:=m.rc++[d] }:=by
 obtain⟨n1,n2,n3,n4,n5⟩:=h.ne
 obtain⟨l0,l1,l2,l3,l4,l5⟩:=h.nel
 obtain⟨⟨a1,a2,a3,a4⟩,⟨b1,b2,b3⟩,⟨c1,c2⟩,d1⟩:=h.dst
 obtain⟨rs',e',r⟩:=h.rc
 rw[e]at e'
 cases e'
 have k:Keep [a.rc] H (upd H a.rc (.lst (rs++[.ref p]))):=Keep.upd e (λ_ z=>by cases z) (by simp)
 exact⟨by rw[qD n5];exact h.ins,by rw[qD l5];exact h.li,by rw[qD a4];exact h.bo,by rw[qD b3];exact h.cl,by rw[qD c2];exact h.dc,by rw[qD d1];exact h.br,⟨_,qI,Paired.snoc (r.keep k) ⟨p,rfl,k.tp _ _ hp⟩⟩,h.nd⟩
end
noncomputable def CM.deed(m:CM)(w:Str)(pl b:Int)(f:Bool):CM:={ m with lf:=m.lf.map (· - 1),dc:=m.dc.set b.toNat (m.dc.getD b.toNat 0+1),rc:=m.rc++[(w,pl,!f)],br:=if f then m.br.set b.toNat true else m.br }
noncomputable def clr(xs:List V)(i n:Nat):List V:=match n with
 |0=>xs
 |n+1=>(clr xs i n).set (i+n) .non
noncomputable def CM.new(bl pg mo:Int)(lim:List (Key×V)):CM:=⟨bl,pg,mo,lim,List.replicate (bl*pg).toNat .non,List.replicate bl.toNat 0,List.replicate bl.toNat 0,List.replicate bl.toNat false,none,[]⟩
theorem qFO{x:V}{lo hi:Int}(h:inB x lo hi=true):∃p,x=.int p∧lo≤p∧p≤hi:=by
 cases x with
 |int p=>
  have h:(decide (lo≤p)&&decide (p≤hi))=true:=h
  rw[mR]at h
  exact⟨p,rfl,mV h.1,mV h.2⟩
 |_=>cases h
theorem qIM{m:CM}{p:Int}(ok:m.Ok)(p0:0≤p)(p1:p≤m.bl*m.pg-1):0≤p / m.pg∧p / m.pg<m.bl:=by
 have:=ok.pg1
 exact⟨Int.ediv_nonneg p0 (by omega),Int.ediv_lt_of_lt_mul (by omega) (by omega)⟩
theorem lf0{m:CM}:decide (lfV m.lf=V.int 0)=decide (m.lf=some 0):=by
 cases e:m.lf with
 |none=>rfl
 |some i=>
  show decide (V.int i=V.int 0)=_
  by_cases z:i=0
  ·subst z;rfl
  ·rw[kD (λq=>z (by injection q)),kD (λq=>z (by injection q))]
theorem qFP{m:CM}:scal (lfV m.lf) (.int 0)=true:=by
 cases m.lf<;>rfl
theorem getB{m:CM}{b:Int}(h0:0≤b)(h:b<(m.br.length:Int)):atI (m.br.map V.bl) b=some (.bl (m.br.getD b.toNat false)):=by
 obtain⟨j,rfl⟩:=d9 h0
 refine yP ?_
 have hj:j<m.br.length:=by omega
 simp[hj]
theorem getI{xs:List Int}{b:Int}(h0:0≤b)(h:b<(xs.length:Int)):atI (xs.map V.int) b=some (.int (xs.getD b.toNat 0)):=by
 obtain⟨j,rfl⟩:=d9 h0
 refine yP ?_
 have hj:j<xs.length:=by omega
 simp[hj]
theorem getV{xs:List V}{b:Int}(h0:0≤b)(h:b<(xs.length:Int)):atI xs b=some (xs.getD b.toNat .non):=by
 obtain⟨j,rfl⟩:=d9 h0
 refine yP ?_
 have hj:j<xs.length:=by omega
 simp[hj]
theorem ixOk{n:Nat}{b:Int}(h0:0≤b)(h:b<(n:Int)):ixN n b=some b.toNat:=by
 unfold ixN
 rw[kI h0,kI h]
theorem CM.Ok.deed{m:CM}(ok:m.Ok){w:Str}{pl b:Int}{f:Bool}(h:m.rc.length<1000000):(m.deed w pl b f).Ok:=by
 refine⟨ok.bl1,ok.bl2,ok.pg1,ok.pg2,ok.nbo,ok.ncl,?_,?_,ok.lim,?_⟩
 ·show((m.dc.set _ _).length:Int)=m.bl
  rw[gG]
  exact ok.ndc
 ·show(((if f then m.br.set b.toNat true else m.br)).length:Int)=m.bl
  cases f with
  |true=>
   rw[kI rfl,gG]
   exact ok.nbr
  |false=>
   exact ok.nbr
 ·show(m.rc++[_]).length≤1000000
  rw[kP,mP]
  omega
noncomputable def qFQ:Sp:=λvs H Q _=>∃x y,vs=[x,y]∧Knd H x∧Knd H y∧Q (.bl (inB x 2 16&&inB y 1 16)) H
theorem Paired.at{α β:Type}{F:α→β→Prop}:∀{l₁:List α} {l₂:List β} {i:Nat} {a:α},Paired F l₁ l₂→l₁[i]?=some a→∃b,l₂[i]?=some b∧F a b
 |_,_,0,_,.cons r _,e=>by simp at e;subst e;exact⟨_,rfl,r⟩
 |_,_,i+1,_,.cons _ t,e=>by
  have e2:=List.getElem?_cons_succ.symm.trans e
  obtain⟨b,h1,h2⟩:=Paired.at t e2
  exact⟨b,List.getElem?_cons_succ.trans h1,h2⟩
 |_,_,_,_,.nil,e=>by simp at e
theorem q52(xs:List V)(i:Nat):∀n,(clr xs i n).length=xs.length
 |0=>rfl
 |n+1=>by
  show((clr xs i n).set (i+n) .non).length=xs.length
  rw[gG,q52 xs i n]
theorem qIN{bl pg mo:Int}{lim:List (Key×V)}(b1:2≤bl)(b2:bl≤16)(p1:1≤pg)(p2:pg≤16)(hl:∀b v,valV lim (Sum.inl b)=some v→∃n,v=V.int n):(CM.new bl pg mo lim).Ok:=by
 have h:0≤bl*pg:=pU (by omega) (by omega)
 refine⟨b1,b2,p1,p2,?_,?_,?_,?_,hl,by show 0≤1000000;decide⟩
 ·show((List.replicate (bl*pg).toNat V.non).length:Int)=bl*pg
  rw[gF]
  omega
 ·show((List.replicate bl.toNat (0:Int)).length:Int)=bl
  rw[gF]
  omega
 ·show((List.replicate bl.toNat (0:Int)).length:Int)=bl
  rw[gF]
  omega
 ·show((List.replicate bl.toNat false).length:Int)=bl
  rw[gF]
  omega
noncomputable def Up(x:Addr)(H H':Hp):Prop:=∀b o,b≠x→H b=some o→H' b=some o
section
variable{x C dx:Addr}{fs:List (Str×V)}{H H':Hp}
theorem Up.of{o:HO}(s:Same H H'):Up x H (upd H' x o):=λb u n e=>by rw[qD n];exact s b u e
theorem Up.free(u:Up x H H'){b:Addr}(n:b≠x)(e:H' b=none):H b=none:=by
 cases q:H b with
 |none=>rfl
 |some o=>rw[u b o n q]at e;cases e
end
end L2
namespace L2
open PySem PySem.Spec PyProof.Rows
noncomputable def tMid(t u:TS):TS:=λD σ H=>∃M:St→Hp→Prop,t { D with nx:=M } σ H∧∀σ' H',M σ' H'→u D σ' H'
noncomputable def qK8(t:TE):TE:=λσ H Q=>∃M:VK,t σ H M∧∀v H',M v H'→Q v H'
section
variable{X:Cx}{st:Stmt}{rest:List Stmt}{t u:TS}{e:Expr}{te:TE}{tt:TT}
theorem q2F(h1:PS X st t)(h2:PSs X rest u):PSs X (st::rest) (tMid t u):=by
 intro pins s σ H D I hZ
 obtain⟨M,a,b⟩:=hZ
 refine kB (thn (h1 pins s σ H _ I a) λf s1 z=>?_)
 cases f with
 |next=>obtain⟨σ',H',I',q⟩:=z;exact h2 pins s1 σ' H' D I' (b σ' H' q)
 |brk=>exact mB z
 |cont=>exact mB z
 |ret v=>exact mB z
theorem qDN(h:PE X e te):PE X e (qK8 te):=λpins s σ H Q I ⟨M,a,b⟩=>thn (h pins s σ H M I a) λc s1 ⟨v,H',I',r,q⟩=>⟨v,H',I',r,b v H' q⟩
end
theorem v7{a b:Int}:decide (V.int a=V.int b)=decide (a=b):=by
 by_cases e:a=b
 ·subst e;simp
 ·rw[kD e,kD (λz=>e (by injection z))]
theorem q0P(x n:Int)(h:0<n):0≤x%n∧x%n<n:=⟨Int.emod_nonneg _ (by omega),Int.emod_lt_of_pos _ h⟩
section
variable{X:Cx}{pins:List (Addr×Obj)}{σ:St}{H:Hp}{s:Shared}{h':Heap}
theorem Inv.turnedN{t':Nat}{fp:List Addr}(I:Inv X pins σ H s)(k:∀b o,b∉fp→s.heap.get? b=some o→h'.get? b=some o)(hf:∀b∈fp,FpOk X pins H b):Inv X pins σ H { s with heap:=h',toks:=t' }:=by
 have nit:∀b u,H b=some u→b∉fp:=λb u e z=>by rw[(hf b z).1]at e;cases e
 refine I.step (g':=s.gens) (d':=s.drawn) (ch:=fp) (λb hb=>?_) (λb o _ _ hc e _=>k b o hc e) (λb o _ _ hc e _=>⟨o.slots,k b o hc e⟩) (λ_ _ _ _ n=>n)
  (λb o hc e=>⟨o,k b o hc e⟩) (λ_ _ e=>e) (λ_ _ _ e=>e) (λb ps e=>⟨#[],by rw[e];simp⟩) (λm hm=>?_) (λb u e=>?_) I.bare
 ·obtain⟨f0,f1,f2,f3,f4,f5⟩:=hf b hb
  exact⟨f3,f1,f4,f5⟩
 ·obtain⟨o,es,ep,ho,r⟩:=hm
  exact⟨o,es,ep,k _ o (λz=>(hf _ z).2.1 rfl) ho,r⟩
 ·refine(I.hok b u e).stay (λc v hc q=>k c v ?_ q) (λ_ q=>q) λ_ _ q=>q
  rcases hc with z|z
  ·rw[z];exact nit b u e
  ·exact nit c _ z
end
end L2
namespace L2
open PySem
theorem q1I{es rest:List Expr}{x1}{p:Pos}{env:Env}:starEach (.Tuple es x1 p::rest) env=(false,eval (.Tuple es x1 p) env)::starEach rest env:=rfl
theorem qDO{es rest:List Expr}{p:Pos}{env:Env}:starEach (.List es p::rest) env=(false,eval (.List es p) env)::starEach rest env:=rfl
end L2
namespace L2
open PySem PySem.Spec PyProof.Rows
inductive Eqv(K:PySem.W.Frag)(H:Hp):Nat→V→V→Prop where
 |flat {n:Nat} {x:V} (f:q16 x=true):Eqv K H n x x
 |lst {n:Nat} {a b:Addr} {xs ys:List V} (ha:SqL K H a xs) (hb:SqL K H b ys) (hl:xs.length=ys.length) (hi:∀(i:Nat) x y,xs[i]?=some x→ys[i]?=some y→Eqv K H n x y):Eqv K H (n+1) (.ref a) (.ref b)
 |tup {n:Nat} {a b:Addr} {xs ys:List V} (ha:SqT K H a xs) (hb:SqT K H b ys) (hl:xs.length=ys.length) (hi:∀(i:Nat) x y,xs[i]?=some x→ys[i]?=some y→Eqv K H n x y):Eqv K H (n+1) (.ref a) (.ref b)
theorem qDP{x:V}(f:q16 x=true):eqV x x=true:=by
 cases x with
 |non=>rfl
 |bl b=>cases b<;>rfl
 |int i=>show(i==i)=true;exact p7 i
 |str z=>show(z==z)=true;exact p7 z
 |_=>exact absurd (show false=true from f) kO
theorem q1J{n:Nat}:(List.range n).all (λ_=>true)=true:=by simp
section
variable{X:Cx}{pins:List (Addr×Obj)}{σ:St}{H:Hp}{s:Shared}
theorem Vals.atN{xs:List V}{us:List Value}(r:Vals xs us){j:Nat}(h:j<us.length):∃x,xs[j]?=some x∧RelV x us[j]:=by
 have e:xs[j]?=some (xs[j]'(by rw[r.length];exact h)):=hU _
 obtain⟨u,hu,ru⟩:=r.get e
 rw[hU h]at hu
 cases hu
 exact⟨_,e,ru⟩
theorem Eqv.at(I:Inv X pins σ H s){n:Nat}{y x:V}(h:Eqv X.K H n y x):∀{A:Around} {u v:Value},RelV y u→RelV x v→A.units+n<cLine→SeqAt.EqAt A s u v true:=by
 induction h with
 |flat f=>
  intro A u v ru rv _
  have e:=qD8 (A:=A) (s:=s) ru rv f f
  rw[qDP f]at e
  exact e
 |@lst n a b xs ys ha hb hl hi ih=>
  intro A u v ru rv hu
  cases ru
  cases rv
  by_cases hab:a=b
  ·subst hab
   exact SeqAt.EqAt.same _
  ·obtain⟨i1,r1,p1,_⟩:=I.list ha
   obtain⟨i2,r2,p2,_⟩:=I.list hb
   have l1:=r1.length
   have l2:=r2.length
   refine SeqAt.EqAt.of_refs hab ?_
   have e:=SeqAt.RcAt.lists (A:=A) (e:=λ_=>true) p1.isList p2.isList (by simp;omega) (by omega) (λj h1 h2=>?_)
   ·rw[q1J]at e
    exact e
   ·obtain⟨x1,e1,q1⟩:=r1.atN (j:=j) (by simpa using h1)
    obtain⟨x2,e2,q2⟩:=r2.atN (j:=j) (by simpa using h2)
    exact ih j x1 x2 e1 e2 (by simpa using q1) (by simpa using q2) (by show A.units+1+n<cLine;omega)
 |@tup n a b xs ys ha hb hl hi ih=>
  intro A u v ru rv hu
  cases ru
  cases rv
  by_cases hab:a=b
  ·subst hab
   exact SeqAt.EqAt.same _
  ·obtain⟨i1,r1,p1,_⟩:=I.tuple ha
   obtain⟨i2,r2,p2,_⟩:=I.tuple hb
   have l1:=r1.length
   have l2:=r2.length
   refine SeqAt.EqAt.of_refs hab ?_
   have e:=SeqAt.RcAt.tuples (A:=A) (e:=λ_=>true) (show s.heap.IsTuple a i1.toArray from p1) (show s.heap.IsTuple b i2.toArray from p2) (by omega) (λj h1 h2=>?_)
   ·rw[q1J,Bool.true_and,show(i1.toArray.size==i2.toArray.size)=true by simp;omega]at e
    exact e
   ·obtain⟨x1,e1,q1⟩:=r1.atN (j:=j) (by simpa using h1)
    obtain⟨x2,e2,q2⟩:=r2.atN (j:=j) (by simpa using h2)
    exact ih j x1 x2 e1 e2 (by simpa using q1) (by simpa using q2) (by show A.units+1+n<cLine;omega)
theorem qCE{x:V}(f:q16 x=true):scal x x=true:=by
 cases x with
 |non=>rfl
 |bl b=>rfl
 |int i=>rfl
 |str z=>rfl
 |_=>exact absurd (show false=true from f) kO
noncomputable def qK9(K:PySem.W.Frag)(r:Bool):R2:=λx y H Q=>Eqv K H 6 x y∧Q (.bl r) H
theorem qIO(hu:X.A.units+64<cLine):OpR X (compareOp .NotEq) (qK9 X.K false):=by
 intro pins s σ H x y v u Q I rx ry hZ
 obtain⟨h,q⟩:=hZ
 cases h with
 |flat f=>exact q2U pins s σ H x x v u Q I rx ry ⟨qCE f,by rw[hG rfl];exact q⟩
 |@lst _ a b xs ys ha hb hl hi=>
  cases rx
  cases ry
  obtain⟨i1,r1,p1,_⟩:=I.list ha
  obtain⟨i2,r2,p2,_⟩:=I.list hb
  have l1:=r1.length
  have l2:=r2.length
  refine SeqAt.RcNeAt.lists (e:=λ_=>true) p1.isList p2.isList (by simp;omega) (by omega) (λj h1 h2=>?_) _ _ _ _ ⟨.bl false,H,I,by rw[q1J];rfl,q⟩
  obtain⟨x1,e1,q1⟩:=r1.atN (j:=j) (by simpa using h1)
  obtain⟨x2,e2,q2⟩:=r2.atN (j:=j) (by simpa using h2)
  exact(hi j x1 x2 e1 e2).at I (by simpa using q1) (by simpa using q2) (by show X.A.units+1+5<cLine;omega)
 |@tup _ a b xs ys ha hb hl hi=>
  cases rx
  cases ry
  obtain⟨i1,r1,p1,_⟩:=I.tuple ha
  obtain⟨i2,r2,p2,_⟩:=I.tuple hb
  have l1:=r1.length
  have l2:=r2.length
  refine SeqAt.RcNeAt.tuples (e:=λ_=>true) (show s.heap.IsTuple a i1.toArray from p1) (show s.heap.IsTuple b i2.toArray from p2) (by omega) (λj h1 h2=>?_) _ _ _ _ ⟨.bl false,H,I,by rw[q1J,Bool.true_and,show(i1.toArray.size==i2.toArray.size)=true by simp;omega];rfl,q⟩
  obtain⟨x1,e1,q1⟩:=r1.atN (j:=j) (by simpa using h1)
  obtain⟨x2,e2,q2⟩:=r2.atN (j:=j) (by simpa using h2)
  exact(hi j x1 x2 e1 e2).at I (by simpa using q1) (by simpa using q2) (by show X.A.units+1+5<cLine;omega)
end
noncomputable def clOf(env:Env):List (Str×NameKind)→List (Str×Addr)→List (Str×Addr)
 | [],cs=>cs
 |(n,k)::r,cs=>clOf env r (if(k==NameKind.free)=true then(match env.cells.lookup n with|some a=>(n,a)::cs|none=>cs)else cs)
theorem q30{scope:Scope}{env:Env}(h:∀y∈scope.names,y.2=.free→∃c,env.cells.lookup y.1=some c):closureFor scope env=pure (clOf env scope.names []):=by
 unfold closureFor
 have go:∀(l:List (Str×NameKind)) (cs:List (Str×Addr)),(∀y∈l,y.2=.free→∃c,env.cells.lookup y.1=some c)→
  (forIn l cs λx r=>(match x with|(name,kind)=>if(kind==NameKind.free)=true then do let a←cellOf env name;pure (ForInStep.yield ((name,a)::r))else pure (ForInStep.yield r):Sem (ForInStep (List (Str×Addr)))))=pure (clOf env l cs):=by
  intro l
  induction l with
  |nil=>intro cs _;rfl
  |cons y r ih=>
   intro cs hl
   obtain⟨n,k⟩:=y
   rw[List.forIn_cons]
   by_cases hk:(k==NameKind.free)=true
   ·obtain⟨c,e⟩:=hl (n,k) kW (by simpa using hk)
    have e2:cellOf env n=pure c:=by unfold cellOf;rw[e]
    show(bind (if(k==NameKind.free)=true then _ else _) _:Sem _)=_
    rw[kI hk,e2]
    show(forIn r ((n,c)::cs) _:Sem _)=pure (clOf env r (if(k==NameKind.free)=true then(match env.cells.lookup n with|some a=>(n,a)::cs|none=>cs)else cs))
    rw[kI hk,e]
    exact ih _ λy hy=>hl y (hX _ hy)
   ·show(bind (if(k==NameKind.free)=true then _ else _) _:Sem _)=_
    rw[kF hk]
    show(forIn r cs _:Sem _)=pure (clOf env r (if(k==NameKind.free)=true then(match env.cells.lookup n with|some a=>(n,a)::cs|none=>cs)else cs))
    rw[kF hk]
    exact ih _ λy hy=>hl y (hX _ hy)
 exact(dR (λz:Sem (List (Str×Addr))=>z >>= λs=>pure s) (go scope.names [] h)).trans rfl
theorem q3R{env:Env}{x:Str}{c:Addr}:∀(l:List (Str×NameKind)) (cs:List (Str×Addr)),(cs.lookup x=some c→env.cells.lookup x=some c)→(clOf env l cs).lookup x=some c→env.cells.lookup x=some c
 | [],cs,hcs,h=>hcs h
 |(n,k)::r,cs,hcs,h=>by
  refine q3R r _ ?_ h
  intro q
  split at q
  ·cases e:env.cells.lookup n with
   |none=>rw[e]at q;exact hcs q
   |some a=>
    rw[e]at q
    have q:List.lookup x ((n,a)::cs)=some c:=q
    rw[dW]at q
    cases z:x==n with
    |true=>
     rw[z]at q
     have z':x=n:=by simpa using z
     rw[z',e,←q]
    |false=>
     rw[z]at q
     exact hcs q
  ·exact hcs q
theorem q5K{env:Env}{x:Str}{c:Addr}(e:env.cells.lookup x=some c):∀(l:List (Str×NameKind)) (cs:List (Str×Addr)),((x,NameKind.free)∈l∨cs.lookup x=some c)→(clOf env l cs).lookup x=some c
 | [],cs,h=>h.resolve_left (by simp)
 |(n,k)::r,cs,h=>by
  refine q5K e r _ ?_
  by_cases hn:(x==n)=true
  ·have z':x=n:=by simpa using hn
   by_cases hk:(k==NameKind.free)=true
   ·refine .inr ?_
    rw[kI hk,←z',e]
    show List.lookup x ((x,c)::cs)=some c
    simp
   ·rcases h with h|h
    ·rcases kL.mp h with q|q
     ·cases q
      exact absurd (by simp) hk
     ·exact .inl q
    ·rw[kF hk];exact .inr h
  ·have nx:x≠n:=λz=>hn (by simp[z])
   rcases h with h|h
   ·rcases kL.mp h with q|q
    ·cases q
     exact absurd rfl nx
    ·exact .inl q
   ·refine .inr ?_
    split
    ·cases en:env.cells.lookup n with
     |none=>exact h
     |some a=>
      show List.lookup x ((n,a)::cs)=some c
      have hn:(x==n)=false:=by simpa using nx
      rw[dW,hn]
      exact h
    ·exact h
theorem q97{env:Env}{x:Str}:∀{names:List (Str×NameKind)},(∀y∈names,y.2≠ .cell)→
 ((names.map λ(n,k)=>if(k==NameKind.free&&env.scope.kind== .function&&env.kindOf n==some .cell)then(n,NameKind.cell)else(n,k)).lookup x=some .cell∨
  (names.map λ(n,k)=>if(k==NameKind.free&&env.scope.kind== .function&&env.kindOf n==some .cell)then(n,NameKind.cell)else(n,k)).lookup x=some .free)→(x,NameKind.free)∈names
 | [],_,h=>by simp at h
 |(n,k)::r,hc,h=>by
  have ih:=@q97 env x r λy hy=>hc y (hX _ hy)
  rw[mU]at h
  by_cases hq:(k==NameKind.free&&env.scope.kind== .function&&env.kindOf n==some .cell)=true
  ·have hk:k=.free:=by
    rw[mR,mR]at hq
    simpa using hq.1.1
   simp only[kI hq,dW]at h
   cases hx:x==n with
   |true=>
    have e:x=n:=by simpa using hx
    rw[e,hk]
    exact kW
   |false=>
    simp only[hx]at h
    exact hX _ (ih h)
  ·simp only[kF hq,dW]at h
   cases hx:x==n with
   |true=>
    simp only[hx]at h
    have e:x=n:=by simpa using hx
    rcases h with h|h
    ·cases h
     exact absurd rfl (hc _ kW)
    ·cases h
     rw[e]
     exact kW
   |false=>
    simp only[hx]at h
    exact hX _ (ih h)
theorem q98{env:Env}{x:Str}(hk:env.scope.kind=.function)(he:env.kindOf x=some .cell):∀{names:List (Str×NameKind)},names.lookup x=some .free→
 (names.map λ(n,k)=>if(k==NameKind.free&&env.scope.kind== .function&&env.kindOf n==some .cell)then(n,NameKind.cell)else(n,k)).lookup x=some .cell
 | [],h=>by simp at h
 |(n,k)::r,h=>by
  have ih:=@q98 env x hk he r
  rw[mU]
  rw[dW]at h
  cases hx:x==n with
  |true=>
   simp only[hx]at h
   have e:x=n:=by simpa using hx
   cases h
   subst e
   show List.lookup x ((if(NameKind.free==NameKind.free&&env.scope.kind==ScopeKind.function&&env.kindOf x==some NameKind.cell)=true then(x,NameKind.cell)else(x,NameKind.free))::_)=_
   rw[kI (by rw[hk,he];rfl),dW]
   simp
  |false=>
   simp only[hx]at h
   show List.lookup x ((if(k==NameKind.free&&env.scope.kind==ScopeKind.function&&env.kindOf n==some NameKind.cell)=true then(n,NameKind.cell)else(n,k))::_)=_
   by_cases hq:(k==NameKind.free&&env.scope.kind== .function&&env.kindOf n==some .cell)=true
   ·rw[kI hq,dW]
    simp only[hx]
    exact ih h
   ·rw[kF hq,dW]
    simp only[hx]
    exact ih h
noncomputable abbrev uR(X:Cx)(N:List Str)(scope:Scope)(C:Addr)(fp:List Addr)(s:Shared)(H:Hp)(xe:Value→Shared→Prop):Cx:=
 { X with N:=N,s₀:=s,H₀:=H,env:=compEnvC scope (clOf X.env scope.names []) C X.env,outer:=X.stack,ex:=fp,fn:=λ_=>false,pn:=[],xe:=xe }
noncomputable def pick(ix:List Nat)(σ:St):St:=ix.map λi=>σ.getD i none
noncomputable def q7A(XN:List Str)(kd:Str→Option NameKind)(names:List (Str×NameKind))(N:List Str)(ix:List Nat):Bool:=
 (List.range ix.length).all λj=>match N[j]?,ix[j]? with
  |some x,some i=>decide (XN[i]?=some x)&&decide (names.lookup x=some .free)&&decide (kd x=some .cell)
  |_,_=>false
theorem qDQ{XN:List Str}{kd:Str→Option NameKind}{names:List (Str×NameKind)}{N:List Str}{ix:List Nat}(h:q7A XN kd names N ix=true){j:Nat}(hj:j<ix.length){x:Str}(hx:N[j]?=some x):
 ∃i,ix[j]?=some i∧XN[i]?=some x∧names.lookup x=some .free∧kd x=some .cell:=by
 unfold q7A at h
 rw[dX]at h
 have q:=h j (mM.mpr hj)
 rw[hx,hU hj]at q
 simp only[mR,kU]at q
 exact⟨_,hU hj,q.1.1,q.1.2,q.2⟩
theorem qB5{X:Cx}{pins:List (Addr×Obj)}{σ:St}{H:Hp}{s:Shared}(I:Inv X pins σ H s){N:List Str}{ix:List Nat}{scope:Scope}{fp:List Addr}{xe:Value→Shared→Prop}(hf:∀b∈fp,FpOk X pins H b)(ho:∀b∈fp,∃o,s.heap.get? b=some o)
 (hk:scope.kind=.function) (hc:∀y∈scope.names,y.2≠ .cell) (hfr:∀y∈scope.names,y.2=.free→X.env.kindOf y.1=some .cell) (hcap:q7A X.N X.env.kindOf scope.names N ix=true) (hN:ix.length≤N.length) {h₁:Heap} {tk n:Nat} {m:Str→Option Value}
 (hn:h₁.Ns (s.heap.objs.size+1) m) (hkp:∀b u,s.heap.get? b=some u→h₁.get? b=some u) (hD:h₁.get? s.heap.objs.size=some { cls:=.type "list",data:=.seq ([]:List Value).toArray n }):
 Inv (uR X N scope (s.heap.objs.size+1) fp s H xe) [] (pick ix σ++List.replicate (N.length-ix.length) none) (upd H s.heap.objs.size (.lst [])) { s with heap:=h₁,toks:=tk }:=by
 have fresh:H s.heap.objs.size=none:=I.hok.fresh (kM _)
 have fresh1:H (s.heap.objs.size+1)=none:=I.hok.fresh (dE _)
 have cel:∀x c,(clOf X.env scope.names []).lookup x=some c→X.env.cells.lookup x=some c:=λx c e=>q3R _ _ (by intro q;simp at q) e
 have clt:∀x c,(clOf X.env scope.names []).lookup x=some c→c<s.heap.objs.size:=λx c e=>by
  obtain⟨v,q⟩:=I.cell x c (cel x c e)
  exact q.lt
 refine⟨⟨I.ok.mod,hk,I.ok.glob,I.ok.blt,dE _,λx y c h1 h2=>I.ok.inj x y c (cel x c h1) (cel y c h2),λx hx=>?_,λx c h=>absurd h kO,I.ok.hd,I.ok.frames,.inl rfl,λb hb=>⟨?_,λx c e=>?_⟩,I.bs,mF I.ok.bsz I.sz,λb o e hb=>?_,λb hb z=>?_,I.stack,I.stkFree⟩,
  rfl,I.bare,Un.laid hkp (kM _) fresh,⟨m,hn,λi x v e1 e2 e3=>?_⟩,λx c e=>?_,?_,λx c e=>?_,λp hp=>?_,I.hok.laid hkp (kM _) ⟨by simp,[],n,.nil,hD⟩,?_⟩
 ·have hx:(x,NameKind.free)∈scope.names:=q97 hc hx
  obtain⟨c,e⟩:=I.ok.has x (.inl (hfr _ hx rfl))
  exact⟨c,q5K e _ _ (.inl hx)⟩
 ·obtain⟨o,e⟩:=ho b hb
  exact mL (g8 (kX e))
 ·exact(hf b hb).2.2.2.2.1 x c (cel x c e)
 ·rcases(hf b hb).2.2.2.1 with z|z
  ·exact I.ok.noex b o e z
  ·exact absurd (mY (kX e) (mF I.ok.bsz z)) (dZ _)
 ·rcases kL.mp (I.stkSub b z)with z|z
  ·exact(hf b hb).2.1 z
  ·exact(hf b hb).2.2.1 z
 ·have hi:i<ix.length:=by
   by_cases hi:i<ix.length
   ·exact hi
   ·rw[gP (by simpa[pick]using hi),d8]at e2
    split at e2<;>cases e2
  obtain⟨i0,q1,q2,q3,q4⟩:=qDQ hcap hi e1
  rw[rN (by simpa[pick]using hi)]at e2
  have e2:σ[i0]?=some (some v):=by
   unfold pick at e2
   rw[mD,q1]at e2
   have e2:σ.getD i0 none=some v:=kQ e2
   rw[kJ]at e2
   cases z:σ[i0]? with
   |none=>rw[z]at e2;cases e2
   |some y=>rw[z]at e2;exact dR some e2
  obtain⟨mX,_,lX⟩:=I.loc
  obtain⟨u,r,l⟩:=lX i0 x v q2 e2 (.inr (.inl q4))
  refine⟨u,r,.inr ⟨.inl (q98 I.ok.kind q4 q3),?_⟩⟩
  rcases l with⟨l,_⟩|⟨_,c,e,z⟩
  ·rw[q4]at l;cases l
  ·obtain⟨o,e',d⟩:=z
   exact⟨c,q5K e _ _ (.inl (gN q3)),o,hkp _ _ e',d⟩
 ·obtain⟨v,o,e',d⟩:=I.cell x c (cel x c e)
  exact⟨v,o,hkp _ _ e',d⟩
 ·show upd H s.heap.objs.size (.lst []) (s.heap.objs.size+1)=none
  rw[qD (rG (dU _))]
  exact fresh1
 ·rw[qD (mL (clt x c e))]
  exact I.freeC x c (cel x c e)
 ·exact absurd (show p∈([]:List (Addr×Obj))from hp) (by simp)
 ·show _=N.length
  rw[kP,gF]
  simp only[pick,h9]
  omega
noncomputable def PIf(X:Cx)(ifs:List Expr)(t:TT):Prop:=
 ∀(pins:List (Addr×Obj)) (s:Shared) (σ:St) (H:Hp) (Q:Bool→Hp→Prop),Inv X pins σ H s→t σ H Q→
  wpAny (model X.prog X.w) X.A (forIn ifs true λc r=>if r=true then do let ok←isTrue c X.env (eval c X.env);pure (ForInStep.yield ok)else pure (ForInStep.yield r)) (TP X pins σ Q) X.xe s
noncomputable def q99:TT:=λ_ H Q=>Q true H
theorem qDR{A B:Hp→Prop}{σ:St}{H:Hp}(h:A H):q99 σ H (λb H6=>if b=true then A H6 else B H6):=by
 show if true=true then A H else B H
 rw[kI rfl]
 exact h
theorem q53{X:Cx}:PIf X [] q99:=λpins s σ H Q I h=>mB ⟨H,I,h⟩
theorem vC{X:Cx}{c:Expr}{t:TT}(hc:PT X c t):PIf X [c] t:=λpins s σ H Q I h=>by
 rw[List.forIn_cons]
 show wpAny _ _ (bind (if true=true then _ else _) _) _ _ _
 rw[kI rfl]
 refine kB (kB (thn (hc pins s σ H Q I h) λb s1 q=>?_))
 exact mB (mB q)
noncomputable def tLC(wi:TI)(g:TG)(tc:TT)(te:TE)(ix:List Nat)(k:Nat):TE:=λσ H Q=>wi σ H λJ H1=>∀D H2,H1 D=none→Same H1 H2→H2 D=some (.lst [])→
 ∃W:Nat→Nat→Hp→Prop,(∃m,W 0 m H2)∧∀i m H3,W i m H3→(J.stop i H3∧Q (.ref D) H3)∨
  (J.go i H3∧∃N:Hp→Prop,(∀H',N H'→∃m',m'<m∧W (i+1) m' H')∧∀x H4,J.yld i H3 x H4→g x (pick ix σ++List.replicate k none) H4 λσ5 H5=>tc σ5 H5 λb H6=>
   if b=true then te σ5 H6 (λv H7=>∃vs,H7 D=some (.lst vs)∧vs.length<sizeLine∧N (upd H7 D (.lst (vs++[v]))))else N H6)
noncomputable def Own(g:TG)(k:Nat):Prop:=∀x σ H Q,g x σ H Q→g x σ H λσ' H'=>Q σ' H'∧σ'.length=σ.length∧∀j,j<k→σ'[j]?=σ[j]?
noncomputable def OwnS(g:TGs)(k:Nat):Prop:=∀(xs:List V) (σ:St) (H:Hp) (Q:St→Hp→Prop) (σ0:St),σ.length=σ0.length→(∀j,j<k→σ[j]?=σ0[j]?)→g xs σ H Q→g xs σ H λσ' H'=>Q σ' H'∧σ'.length=σ0.length∧∀j,j<k→σ'[j]?=σ0[j]?
theorem qFR{k:Nat}:OwnS gNil k:=λxs σ H Q σ0 h1 h2 ⟨e,q⟩=>⟨e,q,h1,h2⟩
theorem q9A{i k:Nat}{u:TGs}(h:k≤i)(hu:OwnS u k):OwnS (qH0 (q2T i) u) k:=λxs σ H Q σ0 h1 h2 ⟨v,r,e,q⟩=>
 ⟨v,r,e,hu r (σ.set i (some v)) H Q σ0 (gG.trans h1) (λj hj=>by rw[wT (by omega)];exact h2 j hj) q⟩
theorem qFS{K:PySem.W.Frag}{n k:Nat}{g:TGs}(h:OwnS g k):Own (gTup K n g) k:=λx σ H Q ⟨a,xs,e1,e2,e3,q⟩=>⟨a,xs,e1,e2,e3,h xs σ H Q σ rfl (λ_ _=>rfl) q⟩
theorem yG{i k:Nat}(h:k≤i):Own (q2T i) k:=λx σ H Q q=>⟨q,gG,λj hj=>by rw[wT (by omega)]⟩
theorem qB6{P:Program}{w:World}{A:Around}{R:Result→Shared→Prop}{s:Shared}{elt tg iter:Expr}{ifs:List Expr}{sc:Scope}{pos:Pos}{it acc:Value}{env:Env}(J:Nat→Shared→Prop)
 (turn:∀n s1,J n s1→wpAny (model P w) A (pyNext it) (λr s2=>match r with
  |none=>R (.ok .next) s2
  |some v=>wpAny (model P w) A (letOwnedTupleGo tg it v) (λ_ s3=>wpAny (model P w) A (assign tg env v) (λ_ s4=>
   wpAny (model P w) A (forIn ifs true λc r=>if r=true then do let ok←isTrue c env (eval c env);pure (ForInStep.yield ok)else pure (ForInStep.yield r)) (λok s5=>
    if ok=true then wpAny (model P w) A (eval elt env) (λx s6=>wpAny (model P w) A (call (.builtin "list.append") [acc,x]) (λ_ s7=>∃m,m<n∧J m s7) (notedBy (model P w) A env λe s'=>R (.error e) s') s6) (notedBy (model P w) A env λe s'=>R (.error e) s') s5
    else ∃m,m<n∧J m s5) (notedBy (model P w) A env λe s'=>R (.error e) s') s4) (notedBy (model P w) A env λe s'=>R (.error e) s') s3) (notedBy (model P w) A env λe s'=>R (.error e) s') s2) (notedBy (model P w) A env λe s'=>R (.error e) s') s1)
 (n:Nat) (h:J n s):codeAny (model P w) A (.compLoop (.ListComp elt [⟨tg,iter,ifs,0⟩] sc pos) 0 it acc env) R s:=by
 refine codeAny_loop rfl J (λm s1 hJ=>?_) n h
 show wpAny _ A ((compTurn _ 0 it acc env).onRaise (λx=>do noteFrame x env;theTreesLotGoes x)) _ _ s1
 refine wpAny_noted ?_
 rw[compTurn_list]
 refine kB (pA (kB (thn (turn m s1 hJ) λr s2 h2=>?_)))
 cases r with
 |none=>exact mB h2
 |some v=>
  refine kB (thn h2 λ_ s3 h3=>kB (thn h3 λ_ s4 h4=>kB (thn h4 λok s5 h5=>?_)))
  cases ok with
  |false=>exact mB ⟨rfl,h5⟩
  |true=>exact kB (kB (thn h5 λx s6 h6=>kB (thn h6 λ_ s7 h7=>mB (mB ⟨rfl,h7⟩))))
theorem qKA{X:Cx}{elt iter tg:Expr}{ifs:List Expr}{scope:Scope}{pos:Pos}{wi:TI}{g:TG}{tc:TT}{te:TE}(N:List Str)(ix:List Nat)(hcalm:X.calm=true)(hi:PI X tg iter wi)
 (hg:∀C fp s H xe,PG (uR X N scope C fp s H xe) tg g) (hif:∀C fp s H xe,PIf (uR X N scope C fp s H xe) ifs tc) (he:∀C fp s H xe,PE (uR X N scope C fp s H xe) elt te)
 (hk:scope.kind=.function) (hc:∀y∈scope.names,y.2≠ .cell) (hfr:∀y∈scope.names,y.2=.free→X.env.kindOf y.1=some .cell) (hcap:q7A X.N X.env.kindOf scope.names N ix=true) (hN:ix.length≤N.length)
 (hnames:∀x∈scope.names,x.2=.local→scope.names.lookup x.1=some .local) (hown:Own g ix.length) (hs:∀x,foldedSetIterable iter X.env x=pure x:=by intro _;rfl):
 PE X (.ListComp elt [⟨tg,iter,ifs,0⟩] scope pos) (tLC wi g tc te ix (N.length-ix.length)):=by
 intro pins s σ H Q I h
 rw[eval_ListComp]
 refine wpAny_comprehension_free (use:=none) (cl:=clOf X.env scope.names []) rfl hs (q30 λy hy hyf=>I.ok.has _ (.inl (hfr y hy hyf))) hk hnames (thn (hi pins s σ H _ I h) λv s1 h1=>thn h1 λitv s2 h2=>?_)
 obtain⟨it,fp,tn,J,H2,e,I2,T,st2,f2,q2⟩:=h2
 subst e
 refine wpAny_newObj_type (pE hc (by intro y hy;simp at hy) (λh₁ hns₁ hsb₁=>?_) hk)
 dsimp only at hns₁ hsb₁ ⊢
 rw[cK]at hns₁ hsb₁ ⊢
 have old:∀b o,s2.heap.get? b=some o→h₁.get? b=some o:=λb o e=>hsb₁.extBut b o (mL (g8 (kX e))) (kC _ (kC _ e))
 have hacc:h₁.get? s2.heap.objs.size=some { cls:=.type "list",data:=.seq ([]:List Value).toArray }:=hsb₁.extBut _ _ (mL (dU _)) (kC _ (mI _ rfl))
 have fob:∀b∈fp,∃o,s2.heap.get? b=some o:=λb hb=>let⟨o,e,_⟩:=T.obj _ _ st2 b hb;⟨o,e⟩
 have fresh:H2 s2.heap.objs.size=none:=I2.hok.fresh (kM _)
 obtain⟨W,⟨m0,w0⟩,turn⟩:=q2 s2.heap.objs.size (upd H2 s2.heap.objs.size (.lst [])) fresh (Same.upd fresh) qI
 have fin:∀{pY σ' H' s'},Inv (uR X N scope (s2.heap.objs.size+1) fp s2 H2 (notedBy (model X.prog X.w) X.A (compEnvC scope (clOf X.env scope.names []) (s2.heap.objs.size+1) X.env) λe s'=>compPost (model X.prog X.w) X.A X.xe none (EP X pins σ Q) (.ref s2.heap.objs.size) (s2.heap.objs.size+1) (.error e) s')) pY σ' H' s'→Q (.ref s2.heap.objs.size) H'→
  compPost (model X.prog X.w) X.A X.xe none (EP X pins σ Q) (.ref s2.heap.objs.size) (s2.heap.objs.size+1) (.ok .next) s':=fun {pY σ' H' s'} J q=>by
  obtain⟨m,hm,_⟩:=id J.loc
  refine⟨m,hm,λh' sb=>⟨.ref s2.heap.objs.size,H',?_,rfl,q⟩⟩
  have eb:∀b o,b≠s2.heap.objs.size+1→s'.heap.get? b=some o→h'.get? b=some o:=λb o nb e=>sb.extBut b o nb e
  have low:∀b o,s2.heap.get? b=some o→b≠s2.heap.objs.size+1:=λb o e=>mL (g8 (kX e))
  have u:=J.base
  have nC:H' (s2.heap.objs.size+1)=none:=J.free
  refine I2.call' (ch:=fp) (s':={ s' with heap:=h' }) J.os ⟨λb o e n1 n2 n3=>eb b o (low b o e) (u.keep b o e n1 n2 n3),λb o e n1 n2 n3=>?_,u.free,λb o e n1=>?_,u.tups,u.frzs,u.tbls⟩ (λb o e=>?_) J.bare λb hb=>⟨(f2 b hb).2.2.2.1,(f2 b hb).2.1,(f2 b hb).2.2.2.2.1,(f2 b hb).2.2.2.2.2⟩
  ·obtain⟨sl,q1⟩:=u.slot b o e n1 n2 n3
   exact⟨sl,eb b _ (low b o e) q1⟩
  ·obtain⟨o',q1⟩:=u.there b o e n1
   exact⟨o',eb b _ (low b o e) q1⟩
  ·refine(J.hok b o e).stay (λc v hc q1=>eb c v ?_ q1) (λ_ q1=>q1) λ_ _ q1=>q1
   rcases hc with rfl|z
   ·exact qH e nC
   ·exact qH z nC
 have IY:Inv (uR X N scope (s2.heap.objs.size+1) fp s2 H2 (notedBy (model X.prog X.w) X.A (compEnvC scope (clOf X.env scope.names []) (s2.heap.objs.size+1) X.env) λe s'=>compPost (model X.prog X.w) X.A X.xe none (EP X pins σ Q) (.ref s2.heap.objs.size) (s2.heap.objs.size+1) (.error e) s')) [] (pick ix σ++List.replicate (N.length-ix.length) none) (upd H2 s2.heap.objs.size (.lst [])) { s2 with heap:=h₁,toks:=s2.toks+([]:List (Str×Value)).length }:=
  qB5 I2 f2 fob hk hc hfr hcap hN hns₁ old hacc
 generalize hY:uR X N scope (s2.heap.objs.size+1) fp s2 H2 (notedBy (model X.prog X.w) X.A (compEnvC scope (clOf X.env scope.names []) (s2.heap.objs.size+1) X.env) λe s'=>compPost (model X.prog X.w) X.A X.xe none (EP X pins σ Q) (.ref s2.heap.objs.size) (s2.heap.objs.size+1) (.error e) s')=Y at IY fin
 have hgY:PG Y tg g:=hY▸hg _ _ _ _ _
 have hifY:PIf Y ifs tc:=hY▸hif _ _ _ _ _
 have heY:PE Y elt te:=hY▸he _ _ _ _ _
 have hP:Y.prog=X.prog:=by rw[←hY]
 have hw:Y.w=X.w:=by rw[←hY]
 have hK:Y.K=X.K:=by rw[←hY]
 have hcl:Y.calm=true:=by rw[←hY];exact hcalm
 have stat:∀{H':Hp},(∀b∈fp,H' b=none)→∀b∈fp,FpOk Y [] H' b:=fun {H'} hn b hb=>by
  rw[←hY]
  refine⟨hn b hb,?_,λz=>?_,.inl hb,λx c e=>?_,λp hp=>absurd (show p∈([]:List (Addr×Obj))from hp) (by simp)⟩
  ·obtain⟨o,e⟩:=fob b hb
   exact mL (g8 (kX e))
  ·rcases kL.mp (I2.stkSub b z)with z|z
   ·exact(f2 b hb).2.1 z
   ·exact(f2 b hb).2.2.1 z
  ·exact(f2 b hb).2.2.2.2.1 x c (q3R _ _ (by intro q;simp at q) e)
 have loop:codeAny (model X.prog X.w) X.A (.compLoop (.ListComp elt [⟨tg,iter,ifs,0⟩] scope pos) 0 (.ref it) (.ref s2.heap.objs.size) (compEnvC scope (clOf X.env scope.names []) (s2.heap.objs.size+1) X.env))
  (compPost (model X.prog X.w) X.A X.xe none (EP X pins σ Q) (.ref s2.heap.objs.size) (s2.heap.objs.size+1)) { s2 with heap:=h₁,toks:=s2.toks+([]:List (Str×Value)).length }:=by
  refine qB6 (λn s'=>∃i H',Inv Y [] (pick ix σ++List.replicate (N.length-ix.length) none) H' s'∧tn i s'.heap∧(∀b∈fp,H' b=none)∧W i n H') ?_ m0
   ⟨0,_,IY,T.keep _ _ _ st2 (λb hb o e=>old b o e),λb hb=>by obtain⟨o,e⟩:=fob b hb;rw[qD (mL (kX e))];exact(f2 b hb).1,w0⟩
  rintro n s3 ⟨i,H3,I3,st3,fr3,w3⟩
  rcases turn i n H3 w3 with⟨stop,qn⟩|⟨go,NN,hNN,step⟩
  ·have d:=T.done Y hP hw hK hcl i [] s3 _ H3 Y.xe I3 (stat fr3) st3 stop
   subst hY
   refine thn d λr s4 hZ=>?_
   obtain⟨hr,I4⟩:=hZ
   subst hr
   exact fin I4 qn
  ·have d:=T.item Y hP hw hK hcl i [] s3 _ H3 Y.xe I3 (stat fr3) st3 go
   have again:∀{p5:List (Addr×Obj)} {s5 s8:Shared} {σ6:St} {H8:Hp},p5=q42 fp s5.heap→tn (i+1) s5.heap→σ6.length=(pick ix σ++List.replicate (N.length-ix.length) none).length→(∀j,j<ix.length→σ6[j]?=(pick ix σ++List.replicate (N.length-ix.length) none)[j]?)→Inv Y ([]++p5) σ6 H8 s8→NN H8→
    ∃m',m'<n∧∃i H',Inv Y [] (pick ix σ++List.replicate (N.length-ix.length) none) H' s8∧tn i s8.heap∧(∀b∈fp,H' b=none)∧W i m' H':=fun {p5 s5 s8 σ6 H8} e5 st5 l6 k6 I8 q8=>by
    subst e5
    obtain⟨m',hm,w8⟩:=hNN _ q8
    refine⟨m',hm,i+1,H8,I8.unpinned.weak l6.symm (λj v e=>?_),T.keep _ _ _ st5 λb hb o e=>(I8.pin (b,o) (kN _ (kN _ (jT hb e)))).1,λb hb=>?_,w8⟩
    ·by_cases hj:j<ix.length
     ·rw[k6 j hj];exact e
     ·rw[gP (by simpa[pick]using hj),d8]at e
      split at e<;>cases e
    ·obtain⟨o,e,_⟩:=T.obj _ _ st5 b hb
     exact(I8.pin (b,o) (kN _ (kN _ (jT hb e)))).2.1
   have tail:∀(r:Option Value) (s4:Shared),(∃u,r=some u∧wpAny (model Y.prog Y.w) Y.A (letOwnedTupleGo tg (.ref it) u) (λ_ s2=>∃x H',Inv Y [] (pick ix σ++List.replicate (N.length-ix.length) none) H' s2∧RelV x u∧J.yld i H3 x H'∧tn (i+1) s2.heap∧∀b∈fp,H' b=none) Y.xe s4)→
    (match r with
    |none=>compPost (model X.prog X.w) X.A X.xe none (EP X pins σ Q) (.ref s2.heap.objs.size) (s2.heap.objs.size+1) (.ok .next) s4
    |some v=>wpAny (model Y.prog Y.w) Y.A (letOwnedTupleGo tg (.ref it) v) (λ_ s₁=>wpAny (model Y.prog Y.w) Y.A (assign tg Y.env v) (λ_ s₂=>
     wpAny (model Y.prog Y.w) Y.A (forIn ifs true λc r=>if r=true then do let ok←isTrue c Y.env (eval c Y.env);pure (ForInStep.yield ok)else pure (ForInStep.yield r)) (λok s₃=>
      if ok=true then wpAny (model Y.prog Y.w) Y.A (eval elt Y.env) (λx s₄=>
       wpAny (model Y.prog Y.w) Y.A (call (.builtin "list.append") [.ref s2.heap.objs.size,x]) (λ_ s₅=>∃m,m<n∧∃i H',Inv Y [] (pick ix σ++List.replicate (N.length-ix.length) none) H' s₅∧tn i s₅.heap∧(∀b∈fp,H' b=none)∧W i m H') Y.xe s₄) Y.xe s₃
      else ∃m,m<n∧∃i H',Inv Y [] (pick ix σ++List.replicate (N.length-ix.length) none) H' s₃∧tn i s₃.heap∧(∀b∈fp,H' b=none)∧W i m H') Y.xe s₂) Y.xe s₁) Y.xe s4):=by
    rintro r s4 ⟨u,rfl,h4⟩
    dsimp only
    refine thn h4 λ_ s5 hZ=>?_
    obtain⟨x,H5,I5,r5,y5,st5,fr5⟩:=hZ
    have I5':=I5.pinned (stat fr5) (T.obj _ _ st5)
    refine thn (hgY _ s5 _ H5 x u _ I5' r5 (hown _ _ _ _ (step x H5 y5))) λ_ s6 hZ=>?_
    obtain⟨σ6,H6,I6,q6,l6,k6⟩:=hZ
    refine thn (hifY _ s6 σ6 H6 _ I6 q6) λb s7 hZ=>?_
    obtain⟨H7,I7,q7⟩:=hZ
    cases b with
    |false=>
     rw[kF (by decide)]at q7 ⊢
     exact again rfl st5 l6 k6 I7 q7
    |true=>
     rw[kI rfl]at q7 ⊢
     refine thn (heY _ s7 σ6 H7 _ I7 q7) λy s8 hZ=>?_
     obtain⟨v,H8,I8,r8,vs,e8,hz,q8⟩:=hZ
     refine thn (vT (X:=Y) _ s8 σ6 H8 (.ref s2.heap.objs.size) [v] (.ref s2.heap.objs.size) [y] (λ_ H9=>NN H9) I8 rfl (.cons r8 .nil) ⟨s2.heap.objs.size,vs,v,rfl,rfl,e8,hz,q8⟩) λ_ s9 hZ=>?_
     obtain⟨_,H9,I9,_,q9⟩:=hZ
     exact again rfl st5 l6 k6 I9 q9
   subst hY
   exact thn d tail
 exact codeAny_compStart_list loop (T.self X.A 0 _ _ _ (T.keep _ _ _ st2 λb hb o e=>old b o e) loop)
noncomputable def qB7(XN:List Str)(kd:Str→Option NameKind)(sc:Scope)(N:List Str)(ix:List Nat):Bool:=
 decide (sc.kind=.function)&&sc.names.all (λy=>decide (y.2≠ .cell)&&(decide (y.2≠ .free)||decide (kd y.1=some .cell))&&(decide (y.2≠ .local)||decide (sc.names.lookup y.1=some .local)))&&q7A XN kd sc.names N ix&&decide (ix.length≤N.length)
theorem uS{X:Cx}{elt iter tg:Expr}{ifs:List Expr}{scope:Scope}{pos:Pos}{wi:TI}{g:TG}{tc:TT}{te:TE}(N:List Str)(ix:List Nat)(hcalm:X.calm=true)(hi:PI X tg iter wi)
 (hg:∀C fp s H xe,PG (uR X N scope C fp s H xe) tg g) (hif:∀C fp s H xe,PIf (uR X N scope C fp s H xe) ifs tc) (he:∀C fp s H xe,PE (uR X N scope C fp s H xe) elt te)
 (ok:qB7 X.N X.env.kindOf scope N ix=true) (hown:Own g ix.length) (hs:∀x,foldedSetIterable iter X.env x=pure x:=by intro _;rfl):
 PE X (.ListComp elt [⟨tg,iter,ifs,0⟩] scope pos) (tLC wi g tc te ix (N.length-ix.length)):=by
 unfold qB7 at ok
 rw[mR,mR,mR,dX]at ok
 obtain⟨⟨⟨h1,h2⟩,h3⟩,h4⟩:=ok
 have h2':∀y∈scope.names,y.2≠ .cell∧(y.2≠ .free∨X.env.kindOf y.1=some .cell)∧(y.2≠ .local∨scope.names.lookup y.1=some .local):=λy hy=>by
  have q:=h2 y hy
  rw[mR,mR,wJ,wJ,kU,kU,kU,kU,kU]at q
  exact⟨q.1.1,q.1.2,q.2⟩
 exact qKA N ix hcalm hi hg hif he (mV h1) (λy hy=>(h2' y hy).1) (λy hy e=>(h2' y hy).2.1.resolve_left (λz=>z e)) h3 (mV h4) (λy hy e=>(h2' y hy).2.2.resolve_left (λz=>z e)) hown hs
theorem qDS{lo:Int}{n:Nat}{D:Addr}{H2:Hp}{g:TG}{tc:TT}{te:TE}{σ0:St}{Q:VK}(Pv:Nat→Hp→Prop)(h0:Pv 0 H2)
 (hs:∀(i:Nat) H,i<n→Pv i H→g (.int (lo+i)) σ0 H λσ5 H5=>tc σ5 H5 λb H6=>if b=true then te σ5 H6 (λv H7=>∃vs,H7 D=some (.lst vs)∧vs.length<sizeLine∧Pv (i+1) (upd H7 D (.lst (vs++[v]))))else Pv (i+1) H6) (hd:∀H,Pv n H→Q (.ref D) H):
 ∃W:Nat→Nat→Hp→Prop,(∃m,W 0 m H2)∧∀i m H3,W i m H3→((Itr lo n).stop i H3∧Q (.ref D) H3)∨
  ((Itr lo n).go i H3∧∃N:Hp→Prop,(∀H',N H'→∃m',m'<m∧W (i+1) m' H')∧∀x H4,(Itr lo n).yld i H3 x H4→g x σ0 H4 λσ5 H5=>tc σ5 H5 λb H6=>
   if b=true then te σ5 H6 (λv H7=>∃vs,H7 D=some (.lst vs)∧vs.length<sizeLine∧N (upd H7 D (.lst (vs++[v]))))else N H6):=by
 refine⟨λi m H=>m=n-i∧i≤n∧Pv i H,⟨n,by simp,mO _,h0⟩,?_⟩
 rintro i m H ⟨rfl,hi,p⟩
 by_cases hlt:i<n
 ·refine .inr ⟨hlt,Pv (i+1),λH' z=>⟨n-(i+1),by omega,rfl,by omega,z⟩,?_⟩
  rintro x H4 ⟨rfl,rfl⟩
  exact hs i _ hlt p
 ·obtain rfl:i=n:=by omega
  exact .inl ⟨kM _,hd _ p⟩
theorem qB8{K:PySem.W.Frag}{a:Addr}{xs:List V}{D:Addr}{H2:Hp}{g:TG}{tc:TT}{te:TE}{σ0:St}{Q:VK}(Pv:Nat→Hp→Prop)(h0:Pv 0 H2)(hl:∀i H,Pv i H→SqL K H a xs)
 (hs:∀(i:Nat) x H,xs[i]?=some x→Pv i H→g x σ0 H λσ5 H5=>tc σ5 H5 λb H6=>if b=true then te σ5 H6 (λv H7=>∃vs,H7 D=some (.lst vs)∧vs.length<sizeLine∧Pv (i+1) (upd H7 D (.lst (vs++[v]))))else Pv (i+1) H6) (hd:∀H,Pv xs.length H→Q (.ref D) H):
 ∃W:Nat→Nat→Hp→Prop,(∃m,W 0 m H2)∧∀i m H3,W i m H3→((Itl K a).stop i H3∧Q (.ref D) H3)∨
  ((Itl K a).go i H3∧∃N:Hp→Prop,(∀H',N H'→∃m',m'<m∧W (i+1) m' H')∧∀x H4,(Itl K a).yld i H3 x H4→g x σ0 H4 λσ5 H5=>tc σ5 H5 λb H6=>
   if b=true then te σ5 H6 (λv H7=>∃vs,H7 D=some (.lst vs)∧vs.length<sizeLine∧N (upd H7 D (.lst (vs++[v]))))else N H6):=by
 refine⟨λi m H=>m=xs.length-i∧i≤xs.length∧Pv i H,⟨xs.length,by simp,mO _,h0⟩,?_⟩
 rintro i m H ⟨rfl,hi,p⟩
 have hq:=hl i H p
 by_cases hlt:i<xs.length
 ·have e1:xs[i]?=some xs[i]:=hU hlt
  refine .inr ⟨⟨xs,_,hq,e1⟩,Pv (i+1),λH' z=>⟨xs.length-(i+1),by omega,rfl,by omega,z⟩,?_⟩
  rintro x H4 ⟨rfl,hx⟩
  exact hs i x _ (hx xs hq) p
 ·obtain rfl:i=xs.length:=by omega
  exact .inl ⟨⟨xs,hq,kM _⟩,hd _ p⟩
theorem qDT{K:PySem.W.Frag}{a:Addr}{xs:List V}{k:Nat}{D:Addr}{H2:Hp}{te:TE}{σ0:St}{Q:VK}(Pv:Nat→Hp→Prop)(h0:Pv 0 H2)(hl:∀i H,Pv i H→SqL K H a xs)
 (hs:∀(i:Nat) x H,xs[i]?=some x→Pv i H→te (σ0.set k (some x)) H (λv H7=>∃vs,H7 D=some (.lst vs)∧vs.length<sizeLine∧Pv (i+1) (upd H7 D (.lst (vs++[v]))))) (hd:∀H,Pv xs.length H→Q (.ref D) H):
 ∃W:Nat→Nat→Hp→Prop,(∃m,W 0 m H2)∧∀i m H3,W i m H3→((Itl K a).stop i H3∧Q (.ref D) H3)∨
  ((Itl K a).go i H3∧∃N:Hp→Prop,(∀H',N H'→∃m',m'<m∧W (i+1) m' H')∧∀x H4,(Itl K a).yld i H3 x H4→q2T k x σ0 H4 λσ5 H5=>q99 σ5 H5 λb H6=>
   if b=true then te σ5 H6 (λv H7=>∃vs,H7 D=some (.lst vs)∧vs.length<sizeLine∧N (upd H7 D (.lst (vs++[v]))))else N H6):=
 qB8 (g:=q2T k) (tc:=q99) Pv h0 hl (λi x H hx p=>qDR (σ:=σ0.set k (some x)) (A:=λH6=>te (σ0.set k (some x)) H6 _) (B:=λH6=>Pv (i+1) H6) (hs i x H hx p)) hd
noncomputable def rEmp(K:PySem.W.Frag):R2:=λx y H Q=>∃p xs e,x=.ref p∧y=.ref e∧SqL K H p xs∧SqL K H e []∧Q (.bl (decide (xs=[]))) H
theorem q7R{X:Cx}(hu:X.A.units+64<cLine):OpR X (compareOp .Eq) (rEmp X.K):=by
 intro pins s σ H x y v u Q I rx ry hZ
 obtain⟨p,xs,e,ex,ey,hp,he,q⟩:=hZ
 subst ex ey
 cases rx
 cases ry
 obtain⟨i1,r1,p1,_⟩:=I.list hp
 obtain⟨i2,r2,p2,_⟩:=I.list he
 have l1:=r1.length
 have l2:=r2.length
 cases xs with
 |nil=>exact SeqAt.eq_listAt (e:=λ_=>true) p1.isList p2.isList (by simp at l1 l2 ⊢;omega) (by omega) (λj h1 h2=>by simp at l1 h1;omega) ⟨.bl true,H,I,by rw[q1J];rfl,q⟩
 |cons z zs=>exact SeqAt.eq_list_lengthsAt p1.isList p2.isList (by simp at l1 l2 ⊢;omega) (by omega) ⟨.bl false,H,I,rfl,q⟩
section
variable{X:Cx}{o e f:Expr}{apos cpos:Pos}{td ty tx:TE}
theorem qH6{P:Program}{w:World}{k:Key}{u:Value}(h:(y7 P w).is k u=true):RelV (kV k) u:=by
 cases k with
 |inl i=>exact Value.isInt_shape h
 |inr x=>exact Value.isStrOf_shape h
theorem q7B{α β:Type}{F:α→β→Prop}:∀{l₁:List α} {l₂:List β},l₁.length=l₂.length→(∀(j:Nat) a b,l₁[j]?=some a→l₂[j]?=some b→F a b)→Paired F l₁ l₂
 | [],[],_,_=>.nil
 |a::l,b::l',h,k=>.cons (k 0 a b rfl rfl) (q7B (by simpa using h) λj x y hx hy=>k (j+1) x y (by simpa using hx) (by simpa using hy))
 | [],_::_,h,_=>by simp at h
 |_::_,[],h,_=>by simp at h
end
theorem q3S:∀{ns:List Int} {vs:List Value},Vals (ns.map V.int) vs→IntsAre vs ns
 | [],_,.nil=>.nil
 |n::ns,_,.cons h t=>by
  obtain⟨t0,rfl⟩:=h
  exact .cons n t0 (q3S t)
section
variable{X:Cx}
theorem q2G(hc:X.calm=true):q1D X (.builtin "min") (λxs H Q=>∃(p:Addr) (ns:List Int),xs=[.ref p]∧SqL X.K H p (ns.map V.int)∧0<ns.length∧∀M,M∈ns→(∀a∈ns,M≤a)→Q (.int M) H):=by
 intro pins s σ H xs us Q I r hZ
 obtain⟨p,ns,ex,hq,hne,q⟩:=hZ
 subst ex
 obtain⟨u,rfl,rx⟩:=q15 r
 cases rx
 obtain⟨its,rv,pl,hz⟩:=I.list hq
 have hi:=q3S rv
 obtain⟨xs,e⟩:=hi.allInts.items
 have hns:ns=xs.toList.map (·.1):=by
  rw[←hi.numsOf,←nums_intItems,←e]
 have hsz:0<xs.size:=by
  have h3:=hne;rw[hns,h9,mQ]at h3;exact h3
 have hl:=pl.isList
 rw[e]at hl
 refine min_intList (I.ok.hd hc) hl hsz λv h' tk hv hk=>?_
 obtain⟨t,rfl⟩:=intItems_at hv
 obtain⟨h1,h2⟩:=argBest_lt (numAt xs) (xs.size-1)
 refine⟨.int _,H,I.kept hk,⟨t,rfl⟩,q _ ?_ λa ha=>?_⟩
 ·rw[hns,numAt_eq];exact getD_mem (by rw[h9,mQ];omega)
 ·rw[hns]at ha
  obtain⟨j,hj,rfl⟩:=mem_getD ha
  rw[h9,mQ]at hj
  rw[←numAt_eq];exact h2 j (by omega)
theorem q3T:∀{vs:List Value} {ns:List Int},IntsAre vs ns→Vals (ns.map V.int) vs
 |_,_,.nil=>.nil
 |_,_,.cons n t h=>.cons ⟨t,rfl⟩ (q3T h)
theorem q7S:q1D X (.builtin "sorted") (λxs H Q=>∃(p:Addr) (ns:List Int),xs=[.ref p]∧SqL X.K H p (ns.map V.int)∧ns.length<64∧∀ns':List Int,ns'.Perm ns→ns'.Pairwise (·≤·)→NewO H (.lst (ns'.map V.int)) Q):=by
 intro pins s σ H xs us Q I r hZ
 obtain⟨p,ns,ex,hq,h64,q⟩:=hZ
 subst ex
 obtain⟨u,rfl,rx⟩:=q15 r
 cases rx
 obtain⟨its,rv,pl,hz⟩:=I.list hq
 have hi:=q3S rv
 have hlen:its.length<64:=by rw[←rv.length,h9];exact h64
 refine sorted_ints pl.isList hi hlen λout ns' a1 a2 a3=>?_
 obtain⟨e,he⟩:=sortedAll_at s.heap its out
 have hz':(ns'.map V.int).length≤sizeLine:=by rw[h9,a2.length_eq,gM];omega
 exact⟨.ref (s.heap.objs.size+1),_,I.laid (t':=s.toks) (λ_ _ h=>sortedAll_old h) (dE _) (show jK X.prog X.w _ _ _ (.lst _)from⟨hz',out.toList,e,q3T a1,by simpa[seqObj]using he⟩),rfl,(q ns' a2 a3).at _ (I.hok.fresh (dE _))⟩
end
structure Mk0(K:PySem.W.Frag)(C:Addr):Prop where
 makes:PySem.W.makesIn K C=true
 init:PySem.W.findIn K (.ref C) "__init__"=some (some (.builtin "object.__init__"))
 kp:PySem.W.keepIn K (.ref C)=true
section
variable{X:Cx}{C:Addr}{x:Str}{p pos:Pos}
noncomputable def tMk0(C:Addr):TE:=λσ H Q=>∀x dx,H x=none→H dx=none→dx≠x→Q (.ref x) (upd (upd H dx (.own x)) x (.ins C dx []))
theorem qDU{pins:List (Addr×Obj)}{σ:St}{H:Hp}{s:Shared}{Q:VK}(M:Mk0 X.K C)(I:Inv X pins σ H s)(h:tMk0 C σ H Q):wpAny (model X.prog X.w) X.A (call (.ref C) []) (EP X pins σ Q) X.xe s:=by
 have hq:=h (s.heap.objs.size+1) s.heap.objs.size (I.hok.fresh (dE _)) (I.hok.fresh (kM _)) (mL (dU _))
 have I2:=Inv.made (C:=C) I
 have kin:=I.kIn
 obtain⟨hp,g,d,t,os⟩:=s
 have Y:=PySem.W.makes_of (M:=model X.prog X.w) kin M.makes
 have hx:((hp.push PySem.W.emptyDict).push (PySem.W.instObj C hp.objs.size)).get? (hp.objs.size+1)=some (PySem.W.instObj C hp.objs.size):=by
  have:=mI (hp.push PySem.W.emptyDict) (o:=PySem.W.instObj C hp.objs.size) rfl
  rwa [cK]at this
 have ty:PySem.W.Looks (model X.prog X.w) ((hp.push PySem.W.emptyDict).push (PySem.W.instObj C hp.objs.size)) (typeOf (.ref (hp.objs.size+1))) (.ref C):=(PySem.W.Looks.ld hx).andThen .now
 have top:PySem.W.Looks (model X.prog X.w) ((hp.push PySem.W.emptyDict).push (PySem.W.instObj C hp.objs.size)) (isInstance (.ref (hp.objs.size+1)) (.type "object")) true:=ty.andThen (Y.top.keeps λb o e=>kC _ (kC _ e))
 refine cF (PySem.W.make_core Y (wU kin M.init) (λself=>PySem.W.Looks.of_pure (PySem.W.oi_bind self)) (.inr ⟨rfl,rfl⟩) ?_)
 refine pD PySem.W.oi_plain PySem.W.entry_oi (@PySem.W.check_slot (model X.prog X.w) _ _ _ "object.__init__" "object" "__init__" (.ref (hp.objs.size+1)) [] [] _ PySem.W.oi_kind PySem.W.oi_split top (PySem.W.oi_args (.ref (hp.objs.size+1))) ?_)
 rw[PySem.W.oi_run]
 exact mB ⟨rfl,⟨.ref (hp.objs.size+1),_,I2,rfl,hq⟩⟩
theorem q7T(M:Mk0 X.K C)(hg:Gl X x)(hm:X.mg x=some (.ref C))(hdb:(x==("__debug__":Str))=false:=by decide):PE X (.Call (.Name x p) [] [] pos) (tMk0 C):=by
 intro pins s σ H Q I h
 exact dC (q2D I hg hm (pM I.kIn M.kp (qDU M I h)) hdb)
theorem q44{e:Expr}{t1 t2:TE}(h1:PE X e t1)(h2:PE X e t2):PE X e (λσ H Q=>t1 σ H Q∨t2 σ H Q):=λpins s σ H Q I h=>h.elim (h1 pins s σ H Q I) (h2 pins s σ H Q I)
end
section
variable{X:Cx}{pins:List (Addr×Obj)}{σ:St}{H:Hp}{s:Shared}{a:Addr}
theorem Inv.freeze{kvs:List (Key×V)}{o:Obj}(I:Inv X pins σ H s)(e:H a=some (.dK kvs))(ho:s.heap.get? a=some o):Inv X pins σ (upd H a (.frz o (.dK kvs))) s:=by
 have ne:∀b u,H b=some u→u≠ .dK kvs→b≠a:=λb u q n z=>by rw[z,e]at q;exact n (kQ q).symm
 have nn:∀b,H b=none→b≠a:=λb q z=>by rw[z,e]at q;cases q
 refine⟨I.ok,I.os,I.bare,I.base.trans ⟨λb u q _ _ _=>q,λb u q _ _ _=>⟨u.slots,q⟩,λb u q n _=>by rw[qD (nn b n)];exact n,λb u q _=>⟨u,q⟩,
  λb xs q=>by rw[qD (ne b _ q (by intro z;cases z))];exact q,λb u v q=>by rw[qD (ne b _ q (by intro z;cases z))];exact q,λb ps q=>⟨#[],by rw[qD (ne b _ q (by intro z;cases z)),q];simp⟩⟩,
  I.loc,I.cell,by rw[qD (nn _ I.free)];exact I.free,λx c q=>by rw[qD (nn _ (I.freeC x c q))];exact I.freeC x c q,λp hp=>?_,λb u q=>?_,I.len⟩
 ·obtain⟨q1,q2,q3⟩:=I.pin p hp
  exact⟨q1,by rw[qD (nn _ q2)];exact q2,q3⟩
 ·have st:∀b u,jK X.prog X.w H s.heap b u→jK X.prog X.w (upd H a (.frz o (.dK kvs))) s.heap b u:=λb u q=>
   q.stay (λ_ _ _ z=>z) (λc z=>by rw[qD (ne c _ z (by intro z;cases z))];exact z) (λc xs z=>by rw[qD (ne c _ z (by intro z;cases z))];exact z)
  by_cases hb:b=a
  ·subst hb
   rw[qI]at q
   cases q
   exact⟨ho,st b _ (I.hok b _ e)⟩
  ·rw[qD hb]at q
   exact st b u (I.hok b u q)
theorem Inv.thaw{o:Obj}{u:HO}(I:Inv X pins σ H s)(hne:∀o u,X.H₀ a≠some (.frz o u))(e:H a=some (.frz o u)):Inv X pins σ (upd H a u) s:=by
 have ne:∀b v,H b=some v→v≠ .frz o u→b≠a:=λb v q n z=>by rw[z,e]at q;exact n (kQ q).symm
 have nn:∀b,H b=none→b≠a:=λb q z=>by rw[z,e]at q;cases q
 have nf:∀b v,X.H₀ b=some v→(∃o' u',v=.frz o' u')→b≠a:=λb v q ⟨o',u',z⟩ w=>by rw[w,z]at q;exact hne o' u' q
 refine⟨I.ok,I.os,I.bare,⟨I.base.keep,I.base.slot,λb v q n hx=>?_,I.base.there,λb xs q=>?_,λb v w q=>?_,λb ps q=>?_⟩,
  I.loc,I.cell,by rw[qD (nn _ I.free)];exact I.free,λx c q=>by rw[qD (nn _ (I.freeC x c q))];exact I.freeC x c q,λp hp=>?_,λb v q=>?_,I.len⟩
 ·have:=I.base.free b v q n hx
  rw[qD (nn b this)]
  exact this
 ·have:=I.base.tups b xs q
  rw[qD (ne b _ this (by intro z;cases z))]
  exact this
 ·rw[qD (nf b _ q ⟨_,_,rfl⟩)]
  exact I.base.frzs b v w q
 ·obtain⟨more,q2⟩:=I.base.tbls b ps q
  exact⟨more,by rw[qD (ne b _ q2 (by intro z;cases z))];exact q2⟩
 ·obtain⟨q1,q2,q3⟩:=I.pin p hp
  exact⟨q1,by rw[qD (nn _ q2)];exact q2,q3⟩
 ·have st:∀b v,jK X.prog X.w H s.heap b v→jK X.prog X.w (upd H a u) s.heap b v:=λb v q=>
   q.stay (λ_ _ _ z=>z) (λc z=>by rw[qD (ne c _ z (by intro z;cases z))];exact z) (λc xs z=>by rw[qD (ne c _ z (by intro z;cases z))];exact z)
  by_cases hb:b=a
  ·subst hb
   rw[qI]at q
   cases q
   exact st b _ (I.hok b _ e).2
  ·rw[qD hb]at q
   exact st b v (I.hok b v q)
end
noncomputable def Itd(a:Addr)(o:Obj)(kvs:List (Key×V)):It:=
 ⟨λi H=>H a=some (.frz o (.dK kvs))∧i<kvs.length,λi H x H'=>H'=H∧∃kv,kvs[i]?=some kv∧x=kV kv.1,λi H=>H a=some (.frz o (.dK kvs))∧kvs.length≤i⟩
theorem qCF{P:Program}{w:World}{K:PySem.W.Frag}{tg:Expr}(a it:Addr)(o:Obj){kvs:List (Key×V)}{vs:List (Key×Value)}{ep:Nat}(rel:KV kvs vs)(hD:∀h:Heap,h.get? a=some o→h.DictAt (y7 P w) a vs ep):
 Turn P w K tg (Itd a o kvs) [it] it (λi h=>h.IsKeyIter it a i vs.length ep) where
 mem:=by simp
 obj:=λi h st b hb=>by
  have e:b=it:=by simpa using hb
  subst e
  obtain⟨o',e,c,d⟩:=st
  exact⟨o',e,λv z=>by rw[d]at z;cases z⟩
 keep:=λi h h' st k=>st.at λo e=>k it (by simp) o e
 item:=by
  intro X hP hw hK hc i pins s σ H E I hf st hg
  subst hP hw hK
  obtain⟨ha,hi⟩:=hg
  obtain⟨ho,_⟩:=I.hok a _ ha
  have hl:=rel.length
  have hi':i<vs.length:=by omega
  obtain⟨f0,f1,f2,f3,f4,f5⟩:=hf it (by simp)
  refine wpAny_pyNext_dict_item (k:=vs[i].1) (v:=vs[i].2) st (hD _ ho) (hU hi') λkey h' hk st' sb=>?_
  have I1:Inv X pins σ H { s with heap:=h' }:=I.turned (t':=s.toks) (λb o hb e=>(sb.2 b hb).trans e) f0 f1 f3 f4 f5
  obtain⟨o',e',c',d'⟩:=id st'
  refine⟨key,rfl,qCU (s:={ s with heap:=h' }) e' c' d' (by decide) ⟨kV kvs[i].1,H,I1,?_,⟨rfl,kvs[i],hU hi,rfl⟩,st',λb hb=>(hf b hb).1⟩⟩
  have ek:=dR (λl=>l[i]?) rel.keys
  simp only[mD,hU hi,hU hi',Option.map_some]at ek
  rw[kQ ek]
  exact qH6 hk
 done:=by
  intro X hP hw hK hc i pins s σ H E I hf st hg
  subst hP hw hK
  obtain⟨ha,hi⟩:=hg
  obtain⟨ho,_⟩:=I.hok a _ ha
  have hl:=rel.length
  obtain⟨f0,f1,f2,f3,f4,f5⟩:=hf it (by simp)
  exact wpAny_pyNext_dict_end (I.ok.hd hc) st (hD _ ho) (rL (by omega)) λh' eb=>⟨rfl,I.turned (t':=s.toks) (λb o hb e=>eb b o hb e) f0 f1 f3 f4 f5⟩
 self:=λ_ _ _ _ _ st h=>wpAny_pyIter_keyiter st h
section
variable{X:Cx}{tg:Expr}
noncomputable def iDct(td:TE):TI:=λσ H R=>td σ H λx H1=>∃a kvs,x=.ref a∧H1 a=some (.dK kvs)∧∀o,R (Itd a o kvs) (upd H1 a (.frz o (.dK kvs)))
theorem qFT{d:Expr}{td:TE}(hd:PE X d td):PI X tg d (iDct td):=by
 intro pins s σ H R I h
 refine thn (hd pins s σ H _ I h) λv s1 hZ=>?_
 obtain⟨x,H1,I1,r1,q1⟩:=hZ
 obtain⟨a,kvs,e,ha,q⟩:=q1
 subst e
 cases r1
 obtain⟨z,lo,vs,rel,dd⟩:=q90 I1.hok ha
 obtain⟨ep,hat⟩:=dd.dictAt
 obtain⟨o,es,ho,hr⟩:=id hat
 have I2:=I1.freeze ha ho
 refine wpAny_pyIter_dict lo hat ?_
 refine⟨s1.heap.objs.size,[s1.heap.objs.size],_,_,_,rfl,I2.kept (t':=s1.toks) λb o e=>kC _ e,qCF a _ o rel (λh' h=>⟨o,es,h,hr⟩),⟨_,mI _ rfl,rfl,rfl⟩,λb hb=>?_,q o⟩
 have e:b=s1.heap.objs.size:=by simpa using hb
 subst e
 exact I2.fpOk (kM _) (I2.hok.fresh (kM _))
theorem qIP{pins:List (Addr×Obj)}{σ:St}{H:Hp}{s:Shared}{a:Addr}{kvs:List (Key×V)}(I:Inv X pins σ H s)(e:H a=some (.dK kvs)):∀o u,X.H₀ a≠some (.frz o u):=λo u q=>by
 have:=I.base.frzs a o u q
 rw[e]at this
 cases this
noncomputable def qKB(t:TE):TE:=λσ H Q=>∃a kvs,H a=some (.dK kvs)∧t σ H λv H'=>∃o u,H' a=some (.frz o u)∧Q v (upd H' a u)
theorem qB9{e:Expr}{t:TE}(h:PE X e t):PE X e (qKB t):=by
 intro pins s σ H Q I hZ
 obtain⟨a,kvs,ha,q⟩:=hZ
 have nf:=qIP I ha
 refine thn (h pins s σ H _ I q) λu s' ⟨v,H',I',r,o,w,e,q⟩=>⟨v,_,I'.thaw nf e,r,q⟩
theorem qFU{a:Addr}{o:Obj}{kvs:List (Key×V)}{D:Addr}{H2:Hp}{g:TG}{tc:TT}{te:TE}{σ0:St}{Q:VK}(Pv:Nat→Hp→Prop)(h0:Pv 0 H2)(hl:∀i H,Pv i H→H a=some (.frz o (.dK kvs)))
 (hs:∀(i:Nat) kv H,kvs[i]?=some kv→Pv i H→g (kV kv.1) σ0 H λσ5 H5=>tc σ5 H5 λb H6=>if b=true then te σ5 H6 (λv H7=>∃vs,H7 D=some (.lst vs)∧vs.length<sizeLine∧Pv (i+1) (upd H7 D (.lst (vs++[v]))))else Pv (i+1) H6) (hd:∀H,Pv kvs.length H→Q (.ref D) H):
 ∃W:Nat→Nat→Hp→Prop,(∃m,W 0 m H2)∧∀i m H3,W i m H3→((Itd a o kvs).stop i H3∧Q (.ref D) H3)∨
  ((Itd a o kvs).go i H3∧∃N:Hp→Prop,(∀H',N H'→∃m',m'<m∧W (i+1) m' H')∧∀x H4,(Itd a o kvs).yld i H3 x H4→g x σ0 H4 λσ5 H5=>tc σ5 H5 λb H6=>
   if b=true then te σ5 H6 (λv H7=>∃vs,H7 D=some (.lst vs)∧vs.length<sizeLine∧N (upd H7 D (.lst (vs++[v]))))else N H6):=by
 refine⟨λi m H=>m=kvs.length-i∧i≤kvs.length∧Pv i H,⟨kvs.length,by simp,mO _,h0⟩,?_⟩
 rintro i m H ⟨rfl,hi,p⟩
 have q:=hl i H p
 by_cases hlt:i<kvs.length
 ·refine .inr ⟨⟨q,hlt⟩,Pv (i+1),λH' z=>⟨kvs.length-(i+1),by omega,rfl,by omega,z⟩,?_⟩
  rintro v H' ⟨rfl,kv,hk,rfl⟩
  exact hs i kv _ hk p
 ·obtain rfl:i=kvs.length:=by omega
  exact .inl ⟨⟨q,kM _⟩,hd _ p⟩
end
section
variable{X:Cx}
theorem q9B{ns:List Int}{us:List Value}(r:Vals (ns.map V.int) us){j:Nat}(h:j<us.length):∃t,us[j]=.int (ns.getD j 0) t:=by
 obtain⟨x,e,q⟩:=r.atN h
 rw[mD]at e
 cases z:ns[j]? with
 |none=>rw[z]at e;cases e
 |some i=>
  rw[z]at e
  obtain rfl:V.int i=x:=kQ e
  obtain⟨t,q⟩:=q
  refine⟨t,?_⟩
  rw[kJ,z]
  exact q
theorem qDV{ns ms:List Int}(h:ns.length=ms.length):(List.range ns.length).all (λj=>ns.getD j 0==ms.getD j 0)=decide (ns=ms):=by
 rw[wH,dX,kU]
 constructor
 ·intro z
  refine rH h λj h1 h2=>?_
  have:=z j (mM.mpr h1)
  rw[rT,kJ,kJ,hU h1,hU h2]at this
  exact this
 ·rintro rfl j _
  exact p7 _
noncomputable def qKC(K:PySem.W.Frag):R2:=λx y H Q=>∃(a b:Addr) (ns ms:List Int),x=.ref a∧y=.ref b∧SqT K H a (ns.map V.int)∧SqT K H b (ms.map V.int)∧ns.length=ms.length∧Q (.bl (!decide (ns=ms))) H
theorem qFV(hu:X.A.units+64<cLine):OpR X (compareOp .NotEq) (qKC X.K):=by
 intro pins s σ H x y v u Q I rx ry h
 obtain⟨a,b,ns,ms,rfl,rfl,ha,hb,hl,q⟩:=h
 cases rx
 cases ry
 obtain⟨i1,r1,p1,_⟩:=I.tuple ha
 obtain⟨i2,r2,p2,_⟩:=I.tuple hb
 have l1:=r1.length
 have l2:=r2.length
 rw[h9]at l1 l2
 refine SeqAt.RcNeAt.tuples (e:=λj=>ns.getD j 0==ms.getD j 0) (show s.heap.IsTuple a i1.toArray from p1) (show s.heap.IsTuple b i2.toArray from p2) (by omega) (λj h1 h2=>?_) _ _ _ _ ⟨.bl _,H,I,?_,q⟩
 ·obtain⟨t1,e1⟩:=q9B r1 (j:=j) (by simpa using h1)
  obtain⟨t2,e2⟩:=q9B r2 (j:=j) (by simpa using h2)
  have z:=pR (A:=X.A.in1) (s:=s) (ns.getD j 0) t1 (ms.getD j 0) t2
  rw[←e1,←e2]at z
  simpa using z
 ·rw[show min i1.toArray.size i2.toArray.size=ns.length by simp;omega,qDV hl,show(i1.toArray.size==i2.toArray.size)=true by simp;omega,Bool.and_true]
  rfl
end
end L2
namespace W1
open PySem L2
structure Tl where
 b:Int
 lv:Int
 cl:Int
 bo:Int
noncomputable abbrev Tl.ns(T:Tl):List Int:=[T.b,T.lv,T.cl,T.bo]
noncomputable def TlAt(H:Hp)(v:V)(T:Tl):Prop:=∃a,v=.ref a∧H a=some (.tup (T.ns.map V.int))
theorem TlAt.same{H H':Hp}{v:V}{T:Tl}(s:Same H H')(h:TlAt H v T):TlAt H' v T:=let⟨a,e,z⟩:=h;⟨a,e,s _ _ z⟩
noncomputable abbrev Tls(H:Hp):List V→List Tl→Prop:=Paired (TlAt H)
theorem Tls.same{H H':Hp}{vs:List V}{ts:List Tl}(s:Same H H')(h:Tls H vs ts):Tls H' vs ts:=Paired.mapP h λ_ _ z=>z.same s
theorem Tl.eq_of{A B:Tl}(h:A.ns=B.ns):A=B:=by
 cases A;cases B
 simp[Tl.ns]at h
 simp[h]
structure Tl.Ok(pg nw:Int)(T:Tl):Prop where
 b0:0≤T.b
 b1:T.b<16
 l0:0≤T.lv
 l1:T.lv≤pg
 c0:0≤T.cl
 c1:T.cl<10 ^ 30
 o0:0≤T.bo
 o1:T.bo<nw
noncomputable def unb(f:Tl→Int)(ts:List Tl)(T:Tl):Bool:=ts.all λo=>!decide (f o<f T)
theorem q5L(f:Tl→Int):∀ts:List Tl,ts≠[]→∃T∈ts,∀o∈ts,f T≤f o
 | [],h=>absurd rfl h
 | [T],_=>⟨T,hV.mpr rfl,λo ho=>by rw[hV.mp ho];exact gJ _⟩
 |T::U::r,_=>by
  obtain⟨M,hm,hl⟩:=q5L f (U::r) (by simp)
  by_cases h:f T≤f M
  ·refine⟨T,kW ..,λo ho=>?_⟩
   rcases kL.mp ho with rfl|ho
   ·exact gJ _
   ·have:=hl o ho
    omega
  ·refine⟨M,hX _ hm,λo ho=>?_⟩
   rcases kL.mp ho with rfl|ho
   ·omega
   ·exact hl o ho
theorem q54{f:Tl→Int}{ts:List Tl}{T:Tl}:unb f ts T=true↔∀o∈ts,f T≤f o:=by
 unfold unb
 rw[dX]
 constructor
 ·intro h o ho
  have:=h o ho
  rw[rA,rB]at this
  omega
 ·intro h o ho
  have:=h o ho
  rw[rA,rB]
  omega
theorem q5M(f:Tl→Int)(ts:List Tl)(h:ts≠[]):∃i,∃hi:i<ts.length,unb f ts ts[i]=true∧∀j,∀hj:j<i,unb f ts (ts[j]'(by omega))=false:=by
 obtain⟨T,hT,hm⟩:=q5L f ts h
 obtain⟨k,hk,e⟩:=dM hT
 have key:∀n,n<ts.length→(∃z:n<ts.length,unb f ts ts[n]=true)→∃i,∃hi:i<ts.length,unb f ts ts[i]=true∧∀j,∀hj:j<i,unb f ts (ts[j]'(by omega))=false:=by
  intro n
  induction n using Nat.strongRecOn with
  |ind n ih=>
   intro hn hZ
   obtain⟨z,hu⟩:=hZ
   by_cases g:∃j,∃hj:j<n,unb f ts (ts[j]'(by omega))=true
   ·obtain⟨j,hj,u⟩:=g
    exact ih j hj (by omega) ⟨by omega,u⟩
   ·refine⟨n,hn,hu,λj hj=>?_⟩
    cases u:unb f ts (ts[j]'(by omega))with
    |false=>rfl
    |true=>exact absurd ⟨j,hj,u⟩ g
 exact key k hk ⟨hk,q54.mpr (by rw[e];exact hm)⟩
noncomputable def pk(f:Tl→Int)(ts:List Tl):Int:=((ts.find? (unb f ts)).map Tl.b).getD 0
theorem qH7{f:Tl→Int}{ts:List Tl}{i:Nat}(hi:i<ts.length)(u:unb f ts ts[i]=true)(n:∀j,∀hj:j<i,unb f ts (ts[j]'(by omega))=false):pk f ts=ts[i].b:=by
 have e:ts.find? (unb f ts)=some ts[i]:=by
  rw[List.find?_eq_some_iff_getElem]
  exact⟨u,i,hi,rfl,λj hj=>by rw[n j hj];rfl⟩
 unfold pk
 rw[e]
 rfl
theorem qDW{α:Type}{xs:List α}(h:0<xs.length):atI xs (-1)=xs[xs.length-1]?:=by
 unfold atI ixN
 rw[kF (by decide),kI (by omega)]
 show xs[((-1:Int)+(xs.length:Int)).toNat]?=_
 congr 1
 omega
theorem q2H{H:Hp}{x dx C:Addr}(nx:H x=none)(nd:H dx=none):Same H (upd (upd H dx (.own x)) x (.ins C dx [])):=λb o e=>by
 rw[qD (qH e nx),qD (qH e nd)]
 exact e
end W1
namespace L2
open PySem PySem.Spec PyProof.Rows
theorem q7U{X:Cx}{K:PySem.W.Frag}(e:X.K=K):IxR X (rIxT K):=by
 subst e
 exact jC
theorem q9C{X:Cx}{K:PySem.W.Frag}(e:X.K=K):IxR X (rIxL K):=by
 subst e
 exact jB
theorem qAD{X:Cx}{K:PySem.W.Frag}(e:X.K=K):OpR X (compareOp .In) (rIn K false):=by
 subst e
 exact qC6
theorem q6I{X:Cx}{K:PySem.W.Frag}(e:X.K=K):OpR X (compareOp .NotIn) (rIn K true):=by
 subst e
 exact q3O
theorem qFW{X:Cx}{elt iter tg:Expr}{ifs:List Expr}{scope:Scope}{pos cp:Pos}{wi:TI}{g:TG}{tc:TT}{te:TE}{use:Option (Value→Sem Unit)}{QQ:Value→Shared→Prop}{pins:List (Addr×Obj)}{s:Shared}{σ:St}{H:Hp}{Q:VK}(N:List Str)(ix:List Nat)(hcalm:X.calm=true)(hi:PI X tg iter wi)
 (hg:∀C fp s H xe,PG (uR X N scope C fp s H xe) tg g) (hif:∀C fp s H xe,PIf (uR X N scope C fp s H xe) ifs tc) (he:∀C fp s H xe,PE (uR X N scope C fp s H xe) elt te)
 (hk:scope.kind=.function) (hc:∀y∈scope.names,y.2≠ .cell) (hfr:∀y∈scope.names,y.2=.free→X.env.kindOf y.1=some .cell) (hcap:q7A X.N X.env.kindOf scope.names N ix=true) (hN:ix.length≤N.length)
 (hnames:∀x∈scope.names,x.2=.local→scope.names.lookup x.1=some .local) (hown:Own g ix.length) (I:Inv X pins σ H s) (h:tLC wi g tc te ix (N.length-ix.length) σ H Q)
 (hfin:∀(C D:Addr) (H':Hp) (s':Shared) (m:Str→Option Value),s'.heap.Ns C m→FpOk X pins H' C→(∀h',Heap.SameBut C s'.heap h'→Inv X pins σ H' { s' with heap:=h' })→Q (.ref D) H'→compPost (model X.prog X.w) X.A X.xe use QQ (.ref D) C (.ok .next) s')
 (hs:∀x,foldedSetIterable iter X.env x=pure x:=by intro _;rfl):
 wpAny (model X.prog X.w) X.A (comprehension (.ListComp elt [⟨tg,iter,ifs,0⟩] scope pos) scope X.env cp (newList []) false (eval iter X.env) use) QQ X.xe s:=by
 refine wpAny_comprehension_free (use:=use) (cl:=clOf X.env scope.names []) rfl hs (q30 λy hy hyf=>I.ok.has _ (.inl (hfr y hy hyf))) hk hnames (thn (hi pins s σ H _ I h) λv s1 h1=>thn h1 λitv s2 h2=>?_)
 obtain⟨it,fp,tn,J,H2,e,I2,T,st2,f2,q2⟩:=h2
 subst e
 refine wpAny_newObj_type (pE hc (by intro y hy;simp at hy) (λh₁ hns₁ hsb₁=>?_) hk)
 dsimp only at hns₁ hsb₁ ⊢
 rw[cK]at hns₁ hsb₁ ⊢
 have old:∀b o,s2.heap.get? b=some o→h₁.get? b=some o:=λb o e=>hsb₁.extBut b o (mL (g8 (kX e))) (kC _ (kC _ e))
 have hacc:h₁.get? s2.heap.objs.size=some { cls:=.type "list",data:=.seq ([]:List Value).toArray }:=hsb₁.extBut _ _ (mL (dU _)) (kC _ (mI _ rfl))
 have fob:∀b∈fp,∃o,s2.heap.get? b=some o:=λb hb=>let⟨o,e,_⟩:=T.obj _ _ st2 b hb;⟨o,e⟩
 have fresh:H2 s2.heap.objs.size=none:=I2.hok.fresh (kM _)
 obtain⟨W,⟨m0,w0⟩,turn⟩:=q2 s2.heap.objs.size (upd H2 s2.heap.objs.size (.lst [])) fresh (Same.upd fresh) qI
 have fin:∀{pY σ' H' s'},Inv (uR X N scope (s2.heap.objs.size+1) fp s2 H2 (notedBy (model X.prog X.w) X.A (compEnvC scope (clOf X.env scope.names []) (s2.heap.objs.size+1) X.env) λe s'=>compPost (model X.prog X.w) X.A X.xe use QQ (.ref s2.heap.objs.size) (s2.heap.objs.size+1) (.error e) s')) pY σ' H' s'→Q (.ref s2.heap.objs.size) H'→
  compPost (model X.prog X.w) X.A X.xe use QQ (.ref s2.heap.objs.size) (s2.heap.objs.size+1) (.ok .next) s':=fun {pY σ' H' s'} J q=>by
  obtain⟨m,hm,_⟩:=id J.loc
  refine hfin (s2.heap.objs.size+1) s2.heap.objs.size H' s' m hm (I2.fpOk (dE _) J.free) (λh' sb=>?_) q
  have eb:∀b o,b≠s2.heap.objs.size+1→s'.heap.get? b=some o→h'.get? b=some o:=λb o nb e=>sb.extBut b o nb e
  have low:∀b o,s2.heap.get? b=some o→b≠s2.heap.objs.size+1:=λb o e=>mL (g8 (kX e))
  have u:=J.base
  have nC:H' (s2.heap.objs.size+1)=none:=J.free
  refine I2.call' (ch:=fp) (s':={ s' with heap:=h' }) J.os ⟨λb o e n1 n2 n3=>eb b o (low b o e) (u.keep b o e n1 n2 n3),λb o e n1 n2 n3=>?_,u.free,λb o e n1=>?_,u.tups,u.frzs,u.tbls⟩ (λb o e=>?_) J.bare λb hb=>⟨(f2 b hb).2.2.2.1,(f2 b hb).2.1,(f2 b hb).2.2.2.2.1,(f2 b hb).2.2.2.2.2⟩
  ·obtain⟨sl,q1⟩:=u.slot b o e n1 n2 n3
   exact⟨sl,eb b _ (low b o e) q1⟩
  ·obtain⟨o',q1⟩:=u.there b o e n1
   exact⟨o',eb b _ (low b o e) q1⟩
  ·refine(J.hok b o e).stay (λc v hc q1=>eb c v ?_ q1) (λ_ q1=>q1) λ_ _ q1=>q1
   rcases hc with rfl|z
   ·exact qH e nC
   ·exact qH z nC
 have IY:Inv (uR X N scope (s2.heap.objs.size+1) fp s2 H2 (notedBy (model X.prog X.w) X.A (compEnvC scope (clOf X.env scope.names []) (s2.heap.objs.size+1) X.env) λe s'=>compPost (model X.prog X.w) X.A X.xe use QQ (.ref s2.heap.objs.size) (s2.heap.objs.size+1) (.error e) s')) [] (pick ix σ++List.replicate (N.length-ix.length) none) (upd H2 s2.heap.objs.size (.lst [])) { s2 with heap:=h₁,toks:=s2.toks+([]:List (Str×Value)).length }:=
  qB5 I2 f2 fob hk hc hfr hcap hN hns₁ old hacc
 generalize hY:uR X N scope (s2.heap.objs.size+1) fp s2 H2 (notedBy (model X.prog X.w) X.A (compEnvC scope (clOf X.env scope.names []) (s2.heap.objs.size+1) X.env) λe s'=>compPost (model X.prog X.w) X.A X.xe use QQ (.ref s2.heap.objs.size) (s2.heap.objs.size+1) (.error e) s')=Y at IY fin
 have hgY:PG Y tg g:=hY▸hg _ _ _ _ _
 have hifY:PIf Y ifs tc:=hY▸hif _ _ _ _ _
 have heY:PE Y elt te:=hY▸he _ _ _ _ _
 have hP:Y.prog=X.prog:=by rw[←hY]
 have hw:Y.w=X.w:=by rw[←hY]
 have hK:Y.K=X.K:=by rw[←hY]
 have hcl:Y.calm=true:=by rw[←hY];exact hcalm
 have stat:∀{H':Hp},(∀b∈fp,H' b=none)→∀b∈fp,FpOk Y [] H' b:=fun {H'} hn b hb=>by
  rw[←hY]
  refine⟨hn b hb,?_,λz=>?_,.inl hb,λx c e=>?_,λp hp=>absurd (show p∈([]:List (Addr×Obj))from hp) (by simp)⟩
  ·obtain⟨o,e⟩:=fob b hb
   exact mL (g8 (kX e))
  ·rcases kL.mp (I2.stkSub b z)with z|z
   ·exact(f2 b hb).2.1 z
   ·exact(f2 b hb).2.2.1 z
  ·exact(f2 b hb).2.2.2.2.1 x c (q3R _ _ (by intro q;simp at q) e)
 have loop:codeAny (model X.prog X.w) X.A (.compLoop (.ListComp elt [⟨tg,iter,ifs,0⟩] scope pos) 0 (.ref it) (.ref s2.heap.objs.size) (compEnvC scope (clOf X.env scope.names []) (s2.heap.objs.size+1) X.env))
  (compPost (model X.prog X.w) X.A X.xe use QQ (.ref s2.heap.objs.size) (s2.heap.objs.size+1)) { s2 with heap:=h₁,toks:=s2.toks+([]:List (Str×Value)).length }:=by
  refine qB6 (λn s'=>∃i H',Inv Y [] (pick ix σ++List.replicate (N.length-ix.length) none) H' s'∧tn i s'.heap∧(∀b∈fp,H' b=none)∧W i n H') ?_ m0
   ⟨0,_,IY,T.keep _ _ _ st2 (λb hb o e=>old b o e),λb hb=>by obtain⟨o,e⟩:=fob b hb;rw[qD (mL (kX e))];exact(f2 b hb).1,w0⟩
  rintro n s3 ⟨i,H3,I3,st3,fr3,w3⟩
  rcases turn i n H3 w3 with⟨stop,qn⟩|⟨go,NN,hNN,step⟩
  ·have d:=T.done Y hP hw hK hcl i [] s3 _ H3 Y.xe I3 (stat fr3) st3 stop
   subst hY
   refine thn d λr s4 hZ=>?_
   obtain⟨hr,I4⟩:=hZ
   subst hr
   exact fin I4 qn
  ·have d:=T.item Y hP hw hK hcl i [] s3 _ H3 Y.xe I3 (stat fr3) st3 go
   have again:∀{p5:List (Addr×Obj)} {s5 s8:Shared} {σ6:St} {H8:Hp},p5=q42 fp s5.heap→tn (i+1) s5.heap→σ6.length=(pick ix σ++List.replicate (N.length-ix.length) none).length→(∀j,j<ix.length→σ6[j]?=(pick ix σ++List.replicate (N.length-ix.length) none)[j]?)→Inv Y ([]++p5) σ6 H8 s8→NN H8→
    ∃m',m'<n∧∃i H',Inv Y [] (pick ix σ++List.replicate (N.length-ix.length) none) H' s8∧tn i s8.heap∧(∀b∈fp,H' b=none)∧W i m' H':=fun {p5 s5 s8 σ6 H8} e5 st5 l6 k6 I8 q8=>by
    subst e5
    obtain⟨m',hm,w8⟩:=hNN _ q8
    refine⟨m',hm,i+1,H8,I8.unpinned.weak l6.symm (λj v e=>?_),T.keep _ _ _ st5 λb hb o e=>(I8.pin (b,o) (kN _ (kN _ (jT hb e)))).1,λb hb=>?_,w8⟩
    ·by_cases hj:j<ix.length
     ·rw[k6 j hj];exact e
     ·rw[gP (by simpa[pick]using hj),d8]at e
      split at e<;>cases e
    ·obtain⟨o,e,_⟩:=T.obj _ _ st5 b hb
     exact(I8.pin (b,o) (kN _ (kN _ (jT hb e)))).2.1
   have tail:∀(r:Option Value) (s4:Shared),(∃u,r=some u∧wpAny (model Y.prog Y.w) Y.A (letOwnedTupleGo tg (.ref it) u) (λ_ s2=>∃x H',Inv Y [] (pick ix σ++List.replicate (N.length-ix.length) none) H' s2∧RelV x u∧J.yld i H3 x H'∧tn (i+1) s2.heap∧∀b∈fp,H' b=none) Y.xe s4)→
    (match r with
    |none=>compPost (model X.prog X.w) X.A X.xe use QQ (.ref s2.heap.objs.size) (s2.heap.objs.size+1) (.ok .next) s4
    |some v=>wpAny (model Y.prog Y.w) Y.A (letOwnedTupleGo tg (.ref it) v) (λ_ s₁=>wpAny (model Y.prog Y.w) Y.A (assign tg Y.env v) (λ_ s₂=>
     wpAny (model Y.prog Y.w) Y.A (forIn ifs true λc r=>if r=true then do let ok←isTrue c Y.env (eval c Y.env);pure (ForInStep.yield ok)else pure (ForInStep.yield r)) (λok s₃=>
      if ok=true then wpAny (model Y.prog Y.w) Y.A (eval elt Y.env) (λx s₄=>
       wpAny (model Y.prog Y.w) Y.A (call (.builtin "list.append") [.ref s2.heap.objs.size,x]) (λ_ s₅=>∃m,m<n∧∃i H',Inv Y [] (pick ix σ++List.replicate (N.length-ix.length) none) H' s₅∧tn i s₅.heap∧(∀b∈fp,H' b=none)∧W i m H') Y.xe s₄) Y.xe s₃
      else ∃m,m<n∧∃i H',Inv Y [] (pick ix σ++List.replicate (N.length-ix.length) none) H' s₃∧tn i s₃.heap∧(∀b∈fp,H' b=none)∧W i m H') Y.xe s₂) Y.xe s₁) Y.xe s4):=by
    rintro r s4 ⟨u,rfl,h4⟩
    dsimp only
    refine thn h4 λ_ s5 hZ=>?_
    obtain⟨x,H5,I5,r5,y5,st5,fr5⟩:=hZ
    have I5':=I5.pinned (stat fr5) (T.obj _ _ st5)
    refine thn (hgY _ s5 _ H5 x u _ I5' r5 (hown _ _ _ _ (step x H5 y5))) λ_ s6 hZ=>?_
    obtain⟨σ6,H6,I6,q6,l6,k6⟩:=hZ
    refine thn (hifY _ s6 σ6 H6 _ I6 q6) λb s7 hZ=>?_
    obtain⟨H7,I7,q7⟩:=hZ
    cases b with
    |false=>
     rw[kF (by decide)]at q7 ⊢
     exact again rfl st5 l6 k6 I7 q7
    |true=>
     rw[kI rfl]at q7 ⊢
     refine thn (heY _ s7 σ6 H7 _ I7 q7) λy s8 hZ=>?_
     obtain⟨v,H8,I8,r8,vs,e8,hz,q8⟩:=hZ
     refine thn (vT (X:=Y) _ s8 σ6 H8 (.ref s2.heap.objs.size) [v] (.ref s2.heap.objs.size) [y] (λ_ H9=>NN H9) I8 rfl (.cons r8 .nil) ⟨s2.heap.objs.size,vs,v,rfl,rfl,e8,hz,q8⟩) λ_ s9 hZ=>?_
     obtain⟨_,H9,I9,_,q9⟩:=hZ
     exact again rfl st5 l6 k6 I9 q9
   subst hY
   exact thn d tail
 exact codeAny_compStart_list loop (T.self X.A 0 _ _ _ (T.keep _ _ _ st2 λb hb o e=>old b o e) loop)
theorem q5N{X:Cx}{elt iter tg:Expr}{ifs:List Expr}{scope:Scope}{pos py spos:Pos}{wi:TI}{g:TG}{tc:TT}{te:TE}{i:Nat}{y:Str}(N:List Str)(ix:List Nat)(hcalm:X.calm=true)(hi:PI X tg iter wi)
 (hg:∀C fp s H xe,PG (uR X N scope C fp s H xe) tg g) (hif:∀C fp s H xe,PIf (uR X N scope C fp s H xe) ifs tc) (he:∀C fp s H xe,PE (uR X N scope C fp s H xe) elt te)
 (ok:qB7 X.N X.env.kindOf scope N ix=true) (hown:Own g ix.length) (hN:X.N.Nodup) (hy:X.N[i]?=some y) (hl:Loc X.env.scope y)
 (hsw:swapsWith (.ListComp elt [⟨tg,iter,ifs,0⟩] scope pos) (some (.Name y py)) spos.line X.env=pure true:=by rfl) (hf:X.fn y=true∨X.env.scope.names.lookup y=some .local:=by first|exact .inl rfl|exact .inr rfl|assumption)
 (hs:∀x,foldedSetIterable iter X.env x=pure x:=by intro _;rfl):
 PS X (.Assign [.Name y py] (.ListComp elt [⟨tg,iter,ifs,0⟩] scope pos) spos) (tAsg (tLC wi g tc te ix (N.length-ix.length)) (q2T i)):=by
 unfold qB7 at ok
 rw[mR,mR,mR,dX]at ok
 obtain⟨⟨⟨h1,h2⟩,h3⟩,h4⟩:=ok
 have h2':∀y∈scope.names,y.2≠ .cell∧(y.2≠ .free∨X.env.kindOf y.1=some .cell)∧(y.2≠ .local∨scope.names.lookup y.1=some .local):=λy hy=>by
  have q:=h2 y hy
  rw[mR,mR,wJ,wJ,kU,kU,kU,kU,kU]at q
  exact⟨q.1.1,q.1.2,q.2⟩
 intro pins s σ H D I h
 rw[exec_Assign_Name_used _ _ _ _ hsw]
 refine kB (pA (kB ?_))
 show wpAny _ X.A (do let _←comprehension (.ListComp elt [⟨tg,iter,ifs,0⟩] scope pos) scope X.env _ (newList []) false (eval iter X.env) (some (assign (.Name y py) X.env))) _ _ s
 refine kB (dB (qFW (use:=some (assign (.Name y py) X.env)) (QQ:=λ_ s'=>∃σ' H',Inv X pins σ' H' s'∧D.nx σ' H') N ix hcalm hi hg hif he (mV h1) (λy hy=>(h2' y hy).1) (λy hy e=>(h2' y hy).2.1.resolve_left (λz=>z e)) h3 (mV h4) (λy hy e=>(h2' y hy).2.2.resolve_left (λz=>z e)) hown I h
  (λC Dl H' s' m hm fp inv q=>?_) hs) (λ_ s' hq=>mB (mB hq)) λ_ _ e=>e)
 have I':Inv X pins σ H' s':=inv s'.heap (Heap.SameBut.refl _ _)
 show wpAny _ _ (assign (.Name y py) X.env (.ref Dl)) _ _ _
 refine wpAny_assign_Name (q6W (v:=.ref Dl) I' hN hy hl rfl (λs'' I'' hZ=>?_) hf)
 obtain⟨a,sb,ha⟩:=hZ
 have aC:C≠a:=λz=>by
  rcases ha with ha|ha
  ·exact fp.2.1 (z.trans ha)
  ·exact fp.2.2.2.2.1 _ _ ha z.symm
 refine⟨m,hm.sameBut sb aC,λh' sb'=>⟨_,H',I''.turnedN (t':=s''.toks) (fp:=[C]) (λb o hb e=>sb'.extBut b o (λz=>hb (hV.mpr z)) e) (λb hb=>by rw[hV.mp hb];exact fp),q⟩⟩
theorem vW{K:PySem.W.Frag}{a:Addr}{xs:List V}{D:Addr}{H2:Hp}{g:TG}{tc:TT}{te:TE}{σ0:St}{R:Hp→Prop}(Pv:Nat→Hp→Prop)(h0:Pv 0 H2)(hl:∀i H,Pv i H→SqL K H a xs)
 (hs:∀(i:Nat) x H,xs[i]?=some x→Pv i H→g x σ0 H λσ5 H5=>tc σ5 H5 λb H6=>if b=true then te σ5 H6 (λv H7=>∃vs,H7 D=some (.lst vs)∧vs.length<sizeLine∧Pv (i+1) (upd H7 D (.lst (vs++[v]))))else Pv (i+1) H6) (hd:∀H,Pv xs.length H→R H):
 ∃W:Nat→Nat→Hp→Prop,(∃m,W 0 m H2)∧∀i m H3,W i m H3→((Itl K a).stop i H3∧R H3)∨
  ((Itl K a).go i H3∧∃N:Hp→Prop,(∀H',N H'→∃m',m'<m∧W (i+1) m' H')∧∀x H4,(Itl K a).yld i H3 x H4→g x σ0 H4 λσ5 H5=>tc σ5 H5 λb H6=>
   if b=true then te σ5 H6 (λv H7=>∃vs,H7 D=some (.lst vs)∧vs.length<sizeLine∧N (upd H7 D (.lst (vs++[v]))))else N H6):=
 qB8 (Q:=λ_ H=>R H) Pv h0 hl hs hd
theorem q9D{K:PySem.W.Frag}{a:Addr}{xs:List V}{k:Nat}{D:Addr}{H2:Hp}{te:TE}{σ0:St}{R:Hp→Prop}(Pv:Nat→Hp→Prop)(h0:Pv 0 H2)(hl:∀i H,Pv i H→SqL K H a xs)
 (hs:∀(i:Nat) x H,xs[i]?=some x→Pv i H→te (σ0.set k (some x)) H (λv H7=>∃vs,H7 D=some (.lst vs)∧vs.length<sizeLine∧Pv (i+1) (upd H7 D (.lst (vs++[v]))))) (hd:∀H,Pv xs.length H→R H):
 ∃W:Nat→Nat→Hp→Prop,(∃m,W 0 m H2)∧∀i m H3,W i m H3→((Itl K a).stop i H3∧R H3)∨
  ((Itl K a).go i H3∧∃N:Hp→Prop,(∀H',N H'→∃m',m'<m∧W (i+1) m' H')∧∀x H4,(Itl K a).yld i H3 x H4→q2T k x σ0 H4 λσ5 H5=>q99 σ5 H5 λb H6=>
   if b=true then te σ5 H6 (λv H7=>∃vs,H7 D=some (.lst vs)∧vs.length<sizeLine∧N (upd H7 D (.lst (vs++[v]))))else N H6):=
 qDT (Q:=λ_ H=>R H) Pv h0 hl hs hd
end L2
namespace L2
open PySem PySem.W PyProof.Rows
noncomputable def hT{α:Type}(c:Nat→Nat→Bool)(n:Nat):KasT α→(α→Prop)→Prop
 | .ret a,Q=>Q a
 | .ask i j k,Q=>i<n∧j<n∧hT c n (k (c i j)) Q
theorem yQ{α:Type}{c:Nat→Nat→Bool}{n:Nat}{Q Q':α→Prop}(h:∀a,Q a→Q' a):∀t:KasT α,hT c n t Q→hT c n t Q'
 | .ret a,q=>h a q
 | .ask i j k,q=>⟨q.1,q.2.1,yQ h (k (c i j)) q.2.2⟩
theorem q2I{α β:Type}{c:Nat→Nat→Bool}{n:Nat}{f:α→KasT β}{Q:β→Prop}:∀t:KasT α,hT c n t (λa=>hT c n (f a) Q)→hT c n (t.bind f) Q
 | .ret a,q=>q
 | .ask i j k,q=>⟨q.1,q.2.1,q2I (k (c i j)) q.2.2⟩
theorem qDX{α:Type}{c:Nat→Nat→Bool}{n:Nat}{cmp:Nat→Nat→(Bool→Shared→Prop)→Shared→Prop}{G:α→Shared→Prop}{s:Shared}(hc:∀i j C,i<n→j<n→C (c i j) s→cmp i j C s):
 ∀t:KasT α,hT c n t (λa=>G a s)→t.kasWp cmp G s
 | .ret a,q=>q
 | .ask i j k,q=>hc i j _ q.1 q.2.1 (qDX hc (k (c i j)) q.2.2)
section
variable{r:Nat→Int}{n:Nat}
noncomputable abbrev rc(r:Nat→Int):Nat→Nat→Bool:=λi j=>decide (r i<r j)
noncomputable abbrev kk(r:Nat→Int)(p:Array Nat)(i:Nat):Int:=r (p.getD i 0)
noncomputable def Srt(r:Nat→Int)(p:Array Nat)(m:Nat):Prop:=∀i j,i≤j→j<m→kk r p i≤kk r p j
noncomputable def Dec(r:Nat→Int)(p:Array Nat)(m:Nat):Prop:=∀i j,i≤j→j<m→kk r p j≤kk r p i
noncomputable def Gp(n:Nat)(p:Array Nat):Prop:=p.Perm (List.range n).toArray
theorem Gp.size{p:Array Nat}(g:Gp n p):p.size=n:=by
 have:=g.size_eq
 simpa using this
theorem Gp.lt{p:Array Nat}(g:Gp n p){i:Nat}(h:i<n):p.getD i 0<n:=by
 have hi:i<p.size:=by rw[g.size];exact h
 have e:p.getD i 0=p[i]:=by simp[Array.getD,hi]
 have:p[i]∈(List.range n).toArray:=g.mem_iff.mp (Array.getElem_mem hi)
 rw[e]
 simpa using this
theorem Srt.more{p:Array Nat}{m:Nat}(h:Srt r p m)(e:kk r p (m-1)≤kk r p m):Srt r p (m+1):=λi j hij hj=>by
 by_cases z:j<m
 ·exact h i j hij z
 ·have ej:j=m:=by omega
  subst ej
  by_cases z2:i=j
  ·subst z2;exact gJ _
  ·exact cQ (h i (j-1) (by omega) (by omega)) e
theorem Dec.more{p:Array Nat}{m:Nat}(h:Dec r p m)(e:kk r p m≤kk r p (m-1)):Dec r p (m+1):=λi j hij hj=>by
 by_cases z:j<m
 ·exact h i j hij z
 ·have ej:j=m:=by omega
  subst ej
  by_cases z2:i=j
  ·subst z2;exact gJ _
  ·exact cQ e (h i (j-1) (by omega) (by omega))
theorem q3U{p q:Array Nat}{i j:Nat}(h:p[i]?=q[j]?):p.getD i 0=q.getD j 0:=by
 rw[pQ,pQ,h]
theorem qAE{p:Array Nat}{i j:Nat}(hj:j≤p.size)(k:Nat):(kas_rev p i j).getD k 0=if i≤k∧k<j then p.getD (i+j-1-k) 0 else p.getD k 0:=by
 unfold kas_rev
 by_cases h:i≤k∧k<j
 ·rw[kI h]
  exact q3U (by rw[getElem?_mirror_all hj,kI h])
 ·rw[kF h]
  exact q3U (by rw[getElem?_mirror_all hj,kF h])
theorem Gp.rev{p:Array Nat}(g:Gp n p)(i j:Nat):Gp n (kas_rev p i j):=(mirror_perm _ _ _ _).trans g
theorem qAF{p:Array Nat}(g:Gp n p):∀(f m:Nat),1≤m→m+f≤n→Srt r p m→hT (rc r) n (kas_asc p f m) (λe=>m≤e∧e≤m+f∧Srt r p e∧(e<m+f→kk r p e<kk r p (e-1)))
 |0,m,h1,hz,h=>⟨kM _,kM _,h,λz=>absurd z (dZ _)⟩
 |f+1,m,h1,hz,h=>by
  refine⟨g.lt (by omega),g.lt (by omega),?_⟩
  by_cases e:r (p.getD m 0)<r (p.getD (m-1) 0)
  ·rw[show rc r (p.getD m 0) (p.getD (m-1) 0)=true from hG e];dsimp only;rw[kI rfl]
   exact⟨kM _,by omega,h,λ_=>e⟩
  ·rw[show rc r (p.getD m 0) (p.getD (m-1) 0)=false from kD e];dsimp only;rw[kF kO]
   refine yQ ?_ _ (qAF g f (m+1) (by omega) (by omega) (h.more (by show r _≤r _;omega)))
   rintro a ⟨a1,a2,a3,a4⟩
   exact⟨by omega,by omega,a3,λz=>a4 (by omega)⟩
noncomputable def Eql(r:Nat→Int)(p:Array Nat)(a b:Nat):Prop:=∀k,a≤k→k<b→kk r p k=kk r p (b-1)
theorem q7V{p:Array Nat}{i j:Nat}(hj:j≤p.size)(h:Eql r p i j)(k:Nat):kk r (kas_rev p i j) k=kk r p k:=by
 show r _=r _
 rw[qAE hj]
 by_cases z:i≤k∧k<j
 ·rw[kI z]
  exact(h _ (by omega) (by omega)).trans (h k z.1 z.2).symm
 ·rw[kF z]
theorem q55:∀(f:Nat) (p:Array Nat) (m q:Nat),Gp n p→q+1≤m→m+f≤n→Dec r p m→Eql r p (m-(q+1)) m→
 hT (rc r) n (kas_desc f p m q) (λz=>Gp n z.1∧m≤z.2.1∧z.2.1≤m+f∧Dec r z.1 z.2.1∧z.2.2+1≤z.2.1∧Eql r z.1 (z.2.1-(z.2.2+1)) z.2.1)
 |0,p,m,q,g,hq,hz,d,e=>⟨g,kM _,kM _,d,hq,e⟩
 |f+1,p,m,q,g,hq,hz,d,e=>by
  have hs:=g.size
  refine⟨g.lt (by omega),g.lt (by omega),?_⟩
  by_cases c:r (p.getD m 0)<r (p.getD (m-1) 0)
  ·rw[show rc r (p.getD m 0) (p.getD (m-1) 0)=true from hG c];dsimp only;rw[kI rfl]
   by_cases q0:q>0
   ·rw[kI q0]
    have kq:=q7V (r:=r) (p:=p) (i:=m-(q+1)) (j:=m) (by omega) e
    have d1:Dec r (kas_rev p (m-(q+1)) m) (m+1):=λi j hij hj=>by
     rw[kq,kq]
     exact d.more (cR c) i j hij hj
    refine yQ ?_ _ (q55 f _ (m+1) 0 (g.rev _ _) (by omega) (by omega) d1 λk h1 h2=>by rw[show k=m by omega];rfl)
    rintro a ⟨a1,a2,a3,a4⟩
    exact⟨a1,by omega,by omega,a4⟩
   ·rw[kF q0]
    refine yQ ?_ _ (q55 f p (m+1) 0 g (by omega) (by omega) (d.more (cR c)) λk h1 h2=>by rw[show k=m by omega];rfl)
    rintro a ⟨a1,a2,a3,a4⟩
    exact⟨a1,by omega,by omega,a4⟩
  ·rw[show rc r (p.getD m 0) (p.getD (m-1) 0)=false from kD c];dsimp only;rw[kF kO]
   refine⟨g.lt (by omega),g.lt (by omega),?_⟩
   by_cases c2:r (p.getD (m-1) 0)<r (p.getD m 0)
   ·rw[show rc r (p.getD (m-1) 0) (p.getD m 0)=true from hG c2];dsimp only;rw[kI rfl]
    exact⟨g,kM _,p8 _ _,d,hq,e⟩
   ·rw[show rc r (p.getD (m-1) 0) (p.getD m 0)=false from kD c2];dsimp only;rw[kF kO]
    have ee:r (p.getD m 0)=r (p.getD (m-1) 0):=by omega
    refine yQ ?_ _ (q55 f p (m+1) (q+1) g (by omega) (by omega) (d.more (Int.le_of_eq ee)) λk h1 h2=>?_)
    ·rintro a ⟨a1,a2,a3,a4⟩
     exact⟨a1,by omega,by omega,a4⟩
    ·show r (p.getD k 0)=r (p.getD m 0)
     by_cases z:k=m
     ·rw[z]
     ·rw[ee]
      exact e k (by omega) (by omega)
theorem qBA{p:Array Nat}{m:Nat}(g:Gp n p)(h1:1≤m)(hm:m≤n)(d:Dec r p m):hT (rc r) n (kas_tail3 m n p) (λz=>Gp n z.2∧1≤z.1∧z.1≤n∧Srt r z.2 z.1):=by
 have hs:=g.size
 have sr:Srt r (kas_rev p 0 m) m:=λi j hij hj=>by
  show r _≤r _
  rw[qAE (by omega),qAE (by omega),kI ⟨mO _,by omega⟩,kI ⟨mO _,hj⟩]
  exact d _ _ (by omega) (by omega)
 refine q2I _ (yQ ?_ _ (qAF (g.rev 0 m) (n-m) m h1 (by omega) sr))
 rintro a ⟨a1,a2,a3,_⟩
 exact⟨g.rev _ _,by omega,by omega,a3⟩
theorem qBB{p:Array Nat}{m:Nat}(g:Gp n p)(hm:m+1≤n)(d:Dec r p (m+1)):hT (rc r) n (kas_descPart m n p) (λz=>Gp n z.2∧1≤z.1∧z.1≤n∧Srt r z.2 z.1):=by
 refine q2I _ (yQ ?_ _ (q55 (n-(m+1)) p (m+1) 0 g (by omega) (by omega) d λk h1 h2=>by rw[show k=m by omega];rfl))
 rintro⟨p',m',q'⟩ ⟨a1,a2,a3,a4,a5,a6⟩
 dsimp only at a1 a2 a3 a4 a5 a6 ⊢
 have hs:=a1.size
 by_cases q0:q'>0
 ·rw[kI q0]
  have kq:=q7V (r:=r) (p:=p') (i:=m'-(q'+1)) (j:=m') (by omega) a6
  exact qBA (a1.rev _ _) (by omega) (by omega) λi j hij hj=>by rw[kq,kq];exact a4 i j hij hj
 ·rw[kF q0]
  exact qBA a1 (by omega) (by omega) a4
theorem qDY{p:Array Nat}(g:Gp n p)(h1:1≤n):hT (rc r) n (kas_count n p) (λz=>Gp n z.2∧1≤z.1∧z.1≤n∧Srt r z.2 z.1):=by
 have hs:=g.size
 have s1:Srt r p 1:=λi j hij hj=>by rw[show i=j by omega];exact gJ _
 refine q2I _ (yQ ?_ _ (qAF g (n-1) 1 (kM _) (by omega) s1))
 rintro m ⟨a1,a2,a3,a4⟩
 try dsimp only
 by_cases e:m=n
 ·rw[kI (by rw[rT];exact e)]
  exact⟨g,a1,by omega,a3⟩
 ·rw[kF (by rw[rT];exact e)]
  have lt:=a4 (by omega)
  by_cases m1:m>1
  ·rw[kI m1]
   refine⟨g.lt (by omega),g.lt (by omega),?_⟩
   by_cases c:r (p.getD 0 0)<r (p.getD (m-1) 0)
   ·rw[show rc r (p.getD 0 0) (p.getD (m-1) 0)=true from hG c];dsimp only;rw[kI rfl]
    exact⟨g,a1,by omega,a3⟩
   ·rw[show rc r (p.getD 0 0) (p.getD (m-1) 0)=false from kD c];dsimp only;rw[kF kO]
    have eq:Eql r p 0 m:=λk _ hk=>by
     have z1:=a3 0 k (mO _) hk
     have z2:=a3 k (m-1) (by omega) (by omega)
     show r _=r _
     have z1:r (p.getD 0 0)≤r (p.getD k 0):=z1
     have z2:r (p.getD k 0)≤r (p.getD (m-1) 0):=z2
     omega
    have kq:=q7V (r:=r) (p:=p) (i:=0) (j:=m) (by omega) eq
    refine qBB (g.rev _ _) (by omega) λi j hij hj=>?_
    rw[kq,kq]
    refine Dec.more (m:=m) (λi j hij hj=>?_) (cR lt) i j hij hj
    rw[eq i (mO _) (by omega),eq j (mO _) hj]
    exact gJ _
  ·rw[kF m1]
   have:m=1:=by omega
   subst this
   refine qBB g (by omega) (Dec.more (λi j hij hj=>?_) (cR lt))
   rw[show i=j by omega]
   exact gJ _
theorem q5O{p:Array Nat}(g:Gp n p){k:Nat}(hk:k<n)(sr:Srt r p k):∀(f l u:Nat),u-l≤f→l≤u→u≤k→(∀i,i<l→kk r p i≤kk r p k)→(∀i,u≤i→i<k→kk r p k<kk r p i)→
 hT (rc r) n (kas_place p k f l u) (λm=>m≤k∧(∀i,i<m→kk r p i≤kk r p k)∧∀i,m≤i→i<k→kk r p k<kk r p i)
 |0,l,u,hf,hl,hu,a,b=>⟨by omega,a,λi h1 h2=>b i (by omega) h2⟩
 |f+1,l,u,hf,hl,hu,a,b=>by
  unfold kas_place
  by_cases e:l≥u
  ·rw[kI e]
   exact⟨by omega,a,λi h1 h2=>b i (by omega) h2⟩
  ·rw[kF e]
   refine⟨g.lt hk,g.lt (by omega),?_⟩
   by_cases c:r (p.getD k 0)<r (p.getD ((l+u) / 2) 0)
   ·rw[show rc r (p.getD k 0) (p.getD ((l+u) / 2) 0)=true from hG c];dsimp only;rw[kI rfl]
    refine q5O g hk sr f l ((l+u) / 2) (by omega) (by omega) (by omega) a λi h1 h2=>?_
    exact Int.lt_of_lt_of_le c (sr _ _ h1 h2)
   ·rw[show rc r (p.getD k 0) (p.getD ((l+u) / 2) 0)=false from kD c];dsimp only;rw[kF kO]
    refine q5O g hk sr f ((l+u) / 2+1) u (by omega) (by omega) hu (λi h1=>?_) b
    exact cQ (sr i ((l+u) / 2) (by omega) (by omega)) (by show r _≤r _;omega)
theorem qIQ{p:Array Nat}{k l:Nat}(hk:k<p.size)(hl:l≤k)(i:Nat):(bubble p k (k-l)).getD i 0=if i=l then p.getD k 0 else if l<i∧i≤k then p.getD (i-1) 0 else p.getD i 0:=by
 have e:=getElem?_bubble hk (k-l) (by omega) i
 rw[show k-(k-l)=l by omega]at e
 by_cases h1:i=l
 ·rw[kI h1]at e ⊢
  exact q3U e
 ·rw[kF h1]at e ⊢
  by_cases h2:l<i∧i≤k
  ·rw[kI h2]at e ⊢
   exact q3U e
  ·rw[kF h2]at e ⊢
   exact q3U e
theorem qDZ:∀(f:Nat) (p:Array Nat) (k:Nat),Gp n p→k+f≤n→Srt r p k→hT (rc r) n (kas_bin f p k) (λq=>Gp n q∧Srt r q (k+f))
 |0,p,k,g,hz,sr=>⟨g,sr⟩
 |f+1,p,k,g,hz,sr=>by
  have hs:=g.size
  refine q2I _ (yQ ?_ _ (q5O g (show k<n by omega) sr k 0 k (by omega) (mO _) (kM _) (λi h=>absurd h (sK _)) λi h1 h2=>absurd h2 (by omega)))
  rintro l ⟨a1,a2,a3⟩
  have at':=qIQ (p:=p) (k:=k) (l:=l) (by omega) a1
  refine yQ ?_ _ (qDZ f _ (k+1) ((bubble_perm _ _ _).trans g) (by omega) λi j hij hj=>?_)
  ·rintro q ⟨b1,b2⟩
   exact⟨b1,by rw[show k+(f+1)=k+1+f by omega];exact b2⟩
  ·show r _≤r _
   rw[at',at']
   by_cases i1:i=l
   ·rw[kI i1]
    by_cases j1:j=l
    ·rw[kI j1];exact gJ _
    ·rw[kF j1,kI ⟨by omega,by omega⟩]
     exact cR (a3 (j-1) (by omega) (by omega))
   ·rw[kF i1]
    by_cases i2:l<i∧i≤k
    ·rw[kI i2,kF (by omega),kI ⟨by omega,by omega⟩]
     exact sr _ _ (by omega) (by omega)
    ·rw[kF i2]
     by_cases j1:j=l
     ·rw[kI j1]
      exact a2 i (by omega)
     ·rw[kF j1]
      by_cases j2:l<j∧j≤k
      ·rw[kI j2]
       exact sr _ _ (by omega) (by omega)
      ·rw[kF j2]
       exact sr _ _ hij (by omega)
theorem qBC(h1:1≤n):hT (rc r) n (kas_sort n) (λp=>Gp n p∧Srt r p n):=by
 refine q2I _ (yQ ?_ _ (qDY (p:=(List.range n).toArray) (Array.Perm.refl _) h1))
 rintro⟨m,p⟩ ⟨a1,a2,a3,a4⟩
 dsimp only at a1 a2 a3 a4 ⊢
 by_cases e:m<n
 ·rw[kI e]
  refine yQ ?_ _ (qDZ (n-max m 1) p (max m 1) a1 (by omega) (by rw[Nat.max_eq_left a2];exact a4))
  rintro q ⟨b1,b2⟩
  exact⟨b1,by rw[show max m 1+(n-max m 1)=n by omega]at b2;exact b2⟩
 ·rw[kF e]
  have:m=n:=by omega
  subst this
  exact⟨a1,a4⟩
end
end L2
namespace L2
open PySem PySem.W PySem.Spec PyProof.Rows
section
variable{prog:Program}{w:World}{A:Around}{E:Value→Shared→Prop}{s:Shared}
noncomputable abbrev q5P(vs:List Value)(p:Array Nat):Array Value:=List.toArray (p.toList.map λi=>vs.getD i Value.none)
structure RkAt(prog:Program)(w:World)(A:Around)(vs:List Value)(κ:SortKind)(r:Nat→Int)(s:Shared):Prop where
 kind:∀(Q:SortKind→Shared→Prop) (E:Value→Shared→Prop),Q κ s→wpAny (model prog w) A (keyKind' vs.toArray) Q E s
 lt:∀i j (C:Bool→Shared→Prop),i<vs.length→j<vs.length→C (decide (r i<r j)) s→wpAny (model prog w) A (keyLt' κ (vs.getD i Value.none) (vs.getD j Value.none)) C (λ_ _=>False) s
theorem qAG{a:Addr}{vs:List Value}{n:Nat}{κ:SortKind}{r:Nat→Int}{P:PySem.Fin→Shared→Prop}(ho:s.heap.get? a=some (seqObj "list" vs.toArray n))(h64:vs.length<64)
 (hr:2≤vs.length→∀h',(∀b o,b≠a→s.heap.get? b=some o→h'.get? b=some o)→RkAt prog w A vs κ r { s with heap:=h' })
 (h:∀p:Array Nat,Gp vs.length p→Srt r p vs.length→P (.done (.ret .none)) { s with heap:=sortedHeap s.heap a vs (q5P vs p) }):wpAny (model prog w) A (Builtin.«list.sort» ⟨[.ref a],[]⟩) P E s:=by
 have ha:a<s.heap.objs.size:=kX ho
 have hsz:vs.toArray.size=vs.length:=mC ..
 obtain⟨e1,g1⟩:∃e1,(s.heap.update a (Obj.mapSeq λ_=>(#[]:Array Value))).get? a=some (seqObj "list" #[] e1):=⟨_,wK ho λ_=>#[]⟩
 have g6:=kC (seqObj "list" #[] 0) (kC (seqObj "tuple" vs.toArray 0) g1)
 rw[list_sort_plain]
 refine kB (listItems_at ho rfl (kB (wO ho rfl (kB (seqEpoch_at g1 rfl ?_)) (by rw[hsz,gM];omega) (mO _))))
 refine kB (wpAny_newTuple (kB (cD (gK ?_) (mO _))) (by show vs.length≤_;rw[gM];omega))
 show wpAny (model prog w) A _ P E { s with heap:=((s.heap.update a (Obj.mapSeq λ_=>(#[]:Array Value))).push (seqObj "tuple" vs.toArray 0)).push (seqObj "list" #[] 0) }
 dsimp only
 by_cases h2:vs.toArray.size<2
 ·rw[kI h2,kI h2]
  refine kB (mB ?_)
  rw[StateT.run_pure]
  refine kB (mB ?_)
  dsimp only
  have fin:=h (List.range vs.length).toArray (Array.Perm.refl _) λi j hij hj=>by rw[show i=j by omega];exact gJ _
  have eo:(pairsOf vs).map (·.2)=q5P vs (List.range vs.length).toArray:=by
   have em:(pairsOf vs)=(List.toArray (List.range vs.length)).map (kas_item (pairsOf vs)):=by
    have e:=kas_range (pairsOf vs)
    rw[pairsOf_size]at e
    exact e.symm
   apply p9.mp
   rw[em,Array.map_map,sE]
   exact r6 λi _=>by show(kas_item (pairsOf vs) i).2=_;rw[kas_item_eq]
  refine kB (seqEpoch_at g6 rfl ?_)
  refine kB (wO g6 rfl ?_ (mO _) (by rw[Array.size_map];show(pairsOf vs).size≤_;rw[pairsOf_size,gM];omega))
  simp only[pX,cI,sQ]
  refine mB ?_
  rw[←eo]at fin
  exact fin
 ·rw[kF h2,kF h2]
  have h2':2≤vs.length:=by omega
  have K:=hr h2' (((s.heap.update a (Obj.mapSeq λ_=>(#[]:Array Value))).push (seqObj "tuple" vs.toArray 0)).push (seqObj "list" #[] 0)) λb o nb e=>kC _ (kC _ ((kY _ _ (wD nb)).trans e))
  refine kB (K.kind _ _ ?_)
  have est:SortSt.mk' κ (vs.toArray.zip vs.toArray) #[] 7 none=kas_st κ (pairsOf vs) (List.toArray (List.range vs.length)):=by
   have e:=kas_range (pairsOf vs)
   rw[pairsOf_size]at e
   unfold kas_st
   rw[e]
   rfl
  have tree:(kas_sort vs.length).kasWp (kas_cmp prog w A κ (pairsOf vs)) (λp s'=>s'= { s with heap:=((s.heap.update a (Obj.mapSeq λ_=>(#[]:Array Value))).push (seqObj "tuple" vs.toArray 0)).push (seqObj "list" #[] 0) }∧Gp vs.length p∧Srt r p vs.length) { s with heap:=((s.heap.update a (Obj.mapSeq λ_=>(#[]:Array Value))).push (seqObj "tuple" vs.toArray 0)).push (seqObj "list" #[] 0) }:=by
   rw[←kas_ask_eq]
   exact qDX (c:=rc r) (n:=vs.length) (λi j C hi hj c=>K.lt i j C hi hj c) _ (yQ (λp q=>⟨rfl,q⟩) _ (qBC (by omega)))
  have run:=kas_runs (E:=E) (Q:=λ_ st' s'=>∃p:Array Nat,arrOf st'=p.map (kas_item (pairsOf vs))∧failedOf st'=none∧s'= { s with heap:=((s.heap.update a (Obj.mapSeq λ_=>(#[]:Array Value))).push (seqObj "tuple" vs.toArray 0)).push (seqObj "list" #[] 0) }∧Gp vs.length p∧Srt r p vs.length) h2' h64 (λp' st' s' _ a2 a3 a4=>⟨p',a2,a3,a4⟩) tree
  rw[←est]at run
  refine kB (dB run ?_ λ_ _ e=>e)
  rintro⟨⟨⟩,st'⟩ s' ⟨p,har,hf,rfl,gp,sr⟩
  dsimp only
  have hout:(arrOf st').map (·.2)=q5P vs p:=by
   apply p9.mp
   rw[har,Array.map_map,sE]
   exact r6 λi _=>by show(kas_item (pairsOf vs) i).2=_;rw[kas_item_eq]
  have hol:(q5P vs p).size=vs.length:=by rw[mC,h9,mQ,gp.size]
  rw[hout]
  refine kB (seqEpoch_at g6 rfl ?_)
  refine kB (wO g6 rfl ?_ (mO _) (mF (cL hol) (by rw[gM];omega)))
  rw[hf]
  simp only[pX,cI,sQ]
  exact mB (h p gp sr)
theorem q7W{l:Addr}{vs:List Value}{κ:SortKind}{r:Nat→Int}{Q:Value→Shared→Prop}(hl:s.heap.IsList l vs.toArray)(h64:vs.length<64)
 (hr:2≤vs.length→∀h',(∀b o,s.heap.get? b=some o→h'.get? b=some o)→RkAt prog w A.in1.in1 vs κ r { s with heap:=h' })
 (h:∀p:Array Nat,Gp vs.length p→Srt r p vs.length→Q (.ref (s.heap.objs.size+1)) { s with heap:=sortedAll s.heap vs (q5P vs p) }):
 wpAny (model prog w) A (call (.builtin "sorted") [.ref l]) Q E s:=by
 refine Calls.call_function_entry kind_sorted plain_sorted entry_sorted (args_sorted1 _) ?_
 unfold Builtin.«sorted»
 refine kB (m:=checkCount "sorted" 1 1 _) (mB (kB (collect_list hl (kB (cD ?_ (by rw[gM];show vs.length≤_;omega))))))
 have hsz:((s.heap.push (seqObj "list" #[] 0)).update s.heap.objs.size (Obj.mapSeq (· ++vs.toArray))).objs.size=s.heap.objs.size+1:=by
  rw[Heap.size_update,size_push']
 have g:(((s.heap.push (seqObj "list" #[] 0)).update s.heap.objs.size (Obj.mapSeq (· ++vs.toArray))).push (seqObj "list" vs.toArray 0)).get? (s.heap.objs.size+1)=some (seqObj "list" vs.toArray 0):=by
  rw[←hsz];exact mI _ rfl
 show wpAny _ _ _ _ _ { s with heap:=((s.heap.push (seqObj "list" #[] 0)).update s.heap.objs.size (Obj.mapSeq (· ++vs.toArray))).push (seqObj "list" vs.toArray 0) }
 rw[hsz]
 refine kB (gK (wpAny_call_entry slot_list_sort ⟨_,g,rfl⟩ entry_list_sort (qAG (κ:=κ) (r:=r) g h64 (λh2 h' k=>hr h2 h' λb o e=>k b o (mL (g8 (kX e))) (kC _ ((kY _ _ (rG (kX e))).trans (kC _ e)))) λp a1 a2=>⟨_,rfl,?_⟩) (args_list_sort _)))
 exact mB ⟨_,rfl,h p a1 a2⟩
end
noncomputable def lx:List Int→List Int→Bool
 |a::r,b::s=>if a=b then lx r s else decide (a<b)
 | [],_::_=>true
 |_,[]=>false
theorem q31:∀a:List Int,lx a a=false
 | []=>rfl
 |a::r=>by
  show(if a=a then lx r r else decide (a<a))=false
  rw[kI rfl]
  exact q31 r
theorem q0B:∀a b c:List Int,lx a b=true→lx b c=true→lx a c=true
 | [],[],c,h,_=>by cases h
 | [],_::_,[],_,h=>by cases h
 | [],_::_,_::_,_,_=>rfl
 |_::_,[],c,h,_=>by cases h
 |_::_,_::_,[],_,h=>by cases h
 |a::r,b::s,c::t,h,g=>by
  have h:(if a=b then lx r s else decide (a<b))=true:=h
  have g:(if b=c then lx s t else decide (b<c))=true:=g
  show(if a=c then lx r t else decide (a<c))=true
  by_cases e1:a=b
  ·subst e1
   rw[kI rfl]at h
   by_cases e2:a=c
   ·subst e2
    rw[kI rfl]at g ⊢
    exact q0B r s t h g
   ·rw[kF e2]at g ⊢
    exact g
  ·rw[kF e1,kU]at h
   by_cases e2:b=c
   ·subst e2
    rw[kF e1]
    exact hG h
   ·rw[kF e2,kU]at g
    rw[kF (by omega)]
    exact hG (by omega)
theorem q45:∀a b:List Int,lx a b=false→lx b a=false→a=b
 | [],[],_,_=>rfl
 | [],_::_,h,_=>by cases h
 |_::_,[],_,h=>by cases h
 |a::r,b::s,h,g=>by
  have h:(if a=b then lx r s else decide (a<b))=false:=h
  have g:(if b=a then lx s r else decide (b<a))=false:=g
  by_cases e:a=b
  ·subst e
   rw[kI rfl]at h g
   rw[q45 r s h g]
  ·rw[kF e,rB]at h
   rw[kF (λz=>e z.symm),rB]at g
   omega
theorem q9E{α:Type}{p q:α→Bool}:∀{l:List α} {x:α},(∀y∈l,p y=true→q y=true)→x∈l→q x=true→p x=false→l.countP p<l.countP q
 |a::l,x,h,hx,h1,h2=>by
  have ml:l.countP p≤l.countP q:=cT λy hy=>h y (hX _ hy)
  rw[cX,cX]
  rcases kL.mp hx with e|hx
  ·subst e
   rw[h1,h2,kF kO,kI rfl]
   omega
  ·have ih:=q9E (λy hy=>h y (hX _ hy)) hx h1 h2
   have ha:=h a (kW ..)
   cases pa:p a with
   |false=>
    rw[kF kO]
    omega
   |true=>
    rw[ha pa]
    omega
noncomputable def rkOf(ks:List (List Int))(k:List Int):Int:=((ks.countP λy=>lx y k:Nat):Int)
theorem qAH{ks:List (List Int)}{k k':List Int}(h:k∈ks)(h':k'∈ks):rkOf ks k<rkOf ks k'↔lx k k'=true:=by
 constructor
 ·intro lt
  cases e:lx k k' with
  |true=>rfl
  |false=>
   have:ks.countP (λy=>lx y k')≤ks.countP (λy=>lx y k):=cT λy _ hy=>by
    cases g:lx k' k with
    |true=>exact q0B _ _ _ hy g
    |false=>rw[q45 k k' e g];exact hy
   unfold rkOf at lt
   omega
 ·intro e
  have:=q9E (p:=λy=>lx y k) (q:=λy=>lx y k') (l:=ks) (x:=k) (λy _ hy=>q0B _ _ _ hy e) h e (q31 k)
  unfold rkOf
  omega
section
variable{prog:Program}{w:World}{A:Around}{E:Value→Shared→Prop}{s:Shared}
theorem qFX{b:Bool}{x y:Int}{t u:Tok}{Q:Bool→Shared→Prop}(h:Q (decide (x<y)) s):wpAny (model prog w) A (oneLt' b (.int x t) (.int y u)) Q E s:=by
 cases b with
 |true=>
  have z:=kat_lt_int (prog:=prog) (w:=w) (A:=A) (E:=E) (t:=t) (u:=u) h
  rw[keyLt'_oneType]at z
  exact z
 |false=>
  refine kat_one _ _ ?_
  exact lt_int h
theorem q9F{b:Bool}{Q:Bool→Shared→Prop}:∀{ns ms:List Int} {us vs:List Value} (i:Nat),IntsAre us ns→IntsAre vs ms→ns.length=ms.length→Q (lx ns ms) s→KatLex prog w A b false Q (us.zip vs) i s
 | [],[],_,_,i,.nil,.nil,_,h=>h
 |n::ns,m::ms,_,_,i,.cons _ t hn,.cons _ u hm,hl,h=>by
  refine kat_cons (wpAny_eqBool_int ?_)
  have h:Q (if n=m then lx ns ms else decide (n<m)) s:=h
  by_cases e:n=m
  ·rw[kI e]at h
   rw[show(n==m)=true by rw[rT];exact e]
   exact kat_yes (q9F (i+1) hn hm (by simpa using hl) h)
  ·rw[kF e]at h
   rw[show(n==m)=false by rw[rD];exact e]
   exact kat_no (qFX h)
 | [],_::_,_,_,_,_,_,hl,_=>by simp at hl
 |_::_,[],_,_,_,_,_,hl,_=>by simp at hl
noncomputable def IsTI(h:Heap)(v:Value)(k:List Int):Prop:=∃a us,v=.ref a∧h.IsTuple a us.toArray∧IntsAre us k
theorem IsTI.at{h h':Heap}{v:Value}{k:List Int}(x:IsTI h v k)(e:∀b o,h.get? b=some o→h'.get? b=some o):IsTI h' v k:=
 let⟨a,us,e1,⟨o,e2,r⟩,i⟩:=x
 ⟨a,us,e1,⟨o,e _ _ e2,r⟩,i⟩
theorem qBD{h:Heap}:∀{vs:List Value} {ks:List (List Int)},Paired (IsTI h) vs ks→(∀k∈ks,0<k.length)→∃fs,KatTups h vs fs∧fs.length=ks.length∧∀v∈fs,∃i t,v=.int i t
 | [],[],.nil,_=>⟨[],trivial,rfl,λv hv=>by cases hv⟩
 |v::vs,k::ks,.cons x t,hp=>by
  obtain⟨fs,r,hl,hi⟩:=qBD t λk hk=>hp k (hX _ hk)
  obtain⟨a,us,rfl,⟨o,ho,hc,n,hd⟩,iu⟩:=x
  have h0:=hp k (kW ..)
  cases iu with
  |nil=>simp at h0
  |cons i t0 hr=>
   refine⟨.int i t0::fs,KatTups.cons ho hc hd (by simp) r,by simp[hl],λv hv=>?_⟩
   rcases kL.mp hv with rfl|hv
   ·exact⟨i,t0,rfl⟩
   ·exact hi v hv
theorem qBE{vs:List Value}{ks:List (List Int)}{m:Nat}(h:Paired (IsTI s.heap) vs ks)(hw:∀k∈ks,k.length=m)(hm:0<m)(h2:2≤vs.length):RkAt prog w A vs (tuples' true) (λi=>rkOf ks (ks.getD i [])) s:=by
 have hl:=h.len
 constructor
 ·intro Q E' q
  obtain⟨fs,t,e,hi⟩:=qBD h λk hk=>by rw[hw k hk];exact hm
  exact kat_kind (T:=Value.type "int") t (by omega) (λv hv=>by obtain⟨i,t0,rfl⟩:=hi v hv;exact .now) rfl q
 ·intro i j C hi hj c
  have e1:vs[i]?=some (vs.getD i Value.none):=by rw[hU hi];simp[hi]
  have e2:vs[j]?=some (vs.getD j Value.none):=by rw[hU hj];simp[hj]
  obtain⟨k1,g1,a1,us1,q1,⟨o1,ho1,_,n1,d1⟩,i1⟩:=Paired.at h e1
  obtain⟨k2,g2,a2,us2,q2,⟨o2,ho2,_,n2,d2⟩,i2⟩:=Paired.at h e2
  have m1:k1∈ks:=m8 g1
  have m2:k2∈ks:=m8 g2
  have z1:ks.getD i []=k1:=by rw[kJ,g1];rfl
  have z2:ks.getD j []=k2:=by rw[kJ,g2];rfl
  have ll:k1.length=k2.length:=by rw[hw _ m1,hw _ m2]
  have c:C (lx k1 k2) s:=by
   have y:decide (rkOf ks (ks.getD i [])<rkOf ks (ks.getD j []))=lx k1 k2:=by
    rw[z1,z2,wH,kU]
    exact qAH m1 m2
   rw[←y]
   exact c
  rw[q1,q2]
  refine kat_lt ho1 d1 ho2 d2 ?_
  have f:decide (us1.toArray.size<us2.toArray.size)=false:=by
   rw[mC,mC,i1.length,i2.length,ll]
   exact kD (dZ _)
  rw[f]
  exact q9F 0 i1 i2 ll c
end
section
variable{X:Cx}
noncomputable def TupI(K:PySem.W.Frag)(H:Hp)(v:V)(k:List Int):Prop:=∃a,v=.ref a∧SqT K H a (k.map V.int)
theorem q3V{pins:List (Addr×Obj)}{σ:St}{H:Hp}{s:Shared}(I:Inv X pins σ H s):∀{xs:List V} {us:List Value} {ks:List (List Int)},Vals xs us→Paired (TupI X.K H) xs ks→Paired (IsTI s.heap) us ks
 | [],_,_,.nil,.nil=>.nil
 |x::xs,u::us,_,.cons r t,.cons ⟨a,e,h⟩ y=>by
  subst e
  obtain rfl:u=Value.ref a:=r
  obtain⟨its,rv,p,_⟩:=I.tuple h
  exact .cons ⟨a,its,rfl,p,q3S rv⟩ (q3V I t y)
theorem q46{xs:List V}{us:List Value}(r:Vals xs us):∀{q:List Nat},(∀i∈q,i<xs.length)→Vals (q.map λi=>xs.getD i .non) (q.map λi=>us.getD i Value.none)
 | [],_=>.nil
 |i::q,h=>by
  have hi:=h i (kW ..)
  have hl:=r.length
  refine .cons ?_ (q46 r λj hj=>h j (hX _ hj))
  obtain⟨x,e,z⟩:=r.atN (j:=i) (by omega)
  show RelV (xs.getD i .non) (us.getD i Value.none)
  rw[kJ,e,kJ,hU (by omega)]
  exact z
theorem q7X:q1D X (.builtin "sorted") (λxs H Q=>∃(p:Addr) (us:List V) (ks:List (List Int)) (m:Nat),xs=[.ref p]∧SqL X.K H p us∧Paired (TupI X.K H) us ks∧(∀k∈ks,k.length=m)∧0<m∧us.length<64∧
 ∀q:List Nat,q.Perm (List.range us.length)→(q.map λi=>ks.getD i []).Pairwise (λa b=>lx b a=false)→NewO H (.lst (q.map λi=>us.getD i .non)) Q):=by
 intro pins s σ H xs us Q I r hZ
 obtain⟨p,xs',ks,m,ex,hq,hk,hw,hm,h64,q⟩:=hZ
 subst ex
 obtain⟨u,rfl,rx⟩:=q15 r
 cases rx
 obtain⟨its,rv,pl,hz⟩:=I.list hq
 have hlen:=rv.length
 have hti:=q3V I rv hk
 refine q7W (κ:=tuples' true) (r:=λi=>rkOf ks (ks.getD i [])) pl.isList (by omega) (λh2 h' k=>qBE (Paired.mapP hti λ_ _ z=>z.at k) hw hm h2) λa gp sr=>?_
 have pp:a.toList.Perm (List.range its.length):=by
  have:=Array.perm_iff_toList_perm.mp gp
  simpa using this
 obtain⟨e,he⟩:=sortedAll_at s.heap its (q5P its a)
 have hin:∀i∈a.toList,i<xs'.length:=λi hi=>by rw[hlen];exact mM.mp (pp.mem_iff.mp hi)
 have kl:=hk.len
 have pw:(a.toList.map λi=>ks.getD i []).Pairwise (λx y=>lx y x=false):=by
  rw[g9,rO]
  intro i j hi hj hij
  rw[mQ,gp.size]at hi hj
  have z:rkOf ks (ks.getD (a.getD i 0) [])≤rkOf ks (ks.getD (a.getD j 0) []):=sr i j (by omega) hj
  have gi:a.getD i 0=a.toList[i]'(by rw[mQ,gp.size];exact hi):=by simp[Array.getD,gp.size,hi]
  have gj:a.getD j 0=a.toList[j]'(by rw[mQ,gp.size];exact hj):=by simp[Array.getD,gp.size,hj]
  rw[gi,gj]at z
  have mem:∀x,x<ks.length→ks.getD x []∈ks:=λx hx=>by rw[kJ,hU hx];exact gD hx
  cases g:lx (ks.getD (a.toList[j]'(by rw[mQ,gp.size];exact hj)) []) (ks.getD (a.toList[i]'(by rw[mQ,gp.size];exact hi)) [])with
  |false=>rfl
  |true=>
   have lt:=(qAH (mem _ (by rw[←kl];exact hin _ (gD _))) (mem _ (by rw[←kl];exact hin _ (gD _)))).mpr g
   omega
 refine⟨.ref (s.heap.objs.size+1),_,I.laid (t':=s.toks) (λ_ _ h=>sortedAll_old h) (dE _) (show jK X.prog X.w _ _ _ (.lst _)from⟨?_,(q5P its a).toList,e,?_,he⟩),rfl,(q a.toList (by rw[hlen];exact pp) pw).at _ (I.hok.fresh (dE _))⟩
 ·rw[h9,pp.length_eq,mZ,gM]
  omega
 ·exact q46 rv hin
end
section
variable{X:Cx}{pins:List (Addr×Obj)}{σ:St}{H:Hp}{s:Shared}
theorem Inv.adopt{D:Addr}{o:HO}(I:Inv X pins σ H s)(f:FpOk X pins H D)(hD:X.s₀.heap.objs.size≤D)(ok:jK X.prog X.w (upd H D o) s.heap D o):Inv X pins σ (upd H D o) s:=by
 have low:∀b ob,X.s₀.heap.get? b=some ob→b≠D:=λb ob e=>mL (mY (kX e) hD)
 have trk:∀b u,H b=some u→b≠D:=λb u e=>qH e f.1
 refine⟨I.ok,I.os,I.bare,⟨I.base.keep,I.base.slot,λb ob e n x=>?_,I.base.there,λb xs e=>?_,λb ob u e=>?_,λb ps e=>?_⟩,I.loc,I.cell,?_,λx c e=>?_,λp hp=>?_,λb u e=>?_,I.len⟩
 ·rw[qD (low b ob e)]
  exact I.base.free b ob e n x
 ·have z:=I.base.tups b xs e
  rw[qD (trk _ _ z)]
  exact z
 ·have z:=I.base.frzs b ob u e
  rw[qD (trk _ _ z)]
  exact z
 ·obtain⟨m,z⟩:=I.base.tbls b ps e
  exact⟨m,by rw[qD (trk _ _ z)];exact z⟩
 ·rw[qD (λz=>f.2.1 z.symm)]
  exact I.free
 ·rw[qD (f.2.2.2.2.1 x c e)]
  exact I.freeC x c e
 ·obtain⟨a1,a2,a3⟩:=I.pin p hp
  exact⟨a1,by rw[qD (f.2.2.2.2.2 p hp)];exact a2,a3⟩
 ·by_cases hb:b=D
  ·subst hb
   rw[qI]at e
   cases e
   exact ok
  ·rw[qD hb]at e
   exact(I.hok b u e).stay (λ_ _ _ q=>q) (λc q=>by rw[qD (trk _ _ q)];exact q) λc xs q=>by rw[qD (trk _ _ q)];exact q
theorem Inv.near(I:Inv X pins σ H s){A':Around}(h1:A'.handled=X.A.handled)(h2:A'.frames=X.A.frames)(xe:Value→Shared→Prop):Inv { X with A:=A',xe:=xe } pins σ H s:=
 ⟨{ mod:=I.ok.mod,kind:=I.ok.kind,glob:=I.ok.glob,blt:=I.ok.blt,above:=I.ok.above,inj:=I.ok.inj,has:=I.ok.has,cab:=I.ok.cab,hd:=λc=>h1.trans (I.ok.hd c),frames:=h2.trans I.ok.frames,stk:=I.ok.stk,exf:=I.ok.exf,bs:=I.ok.bs,bsz:=I.ok.bsz,noex:=I.ok.noex,exfs:=I.ok.exfs,funs:=I.ok.funs,frf:=I.ok.frf },I.os,I.bare,I.base,I.loc,I.cell,I.free,I.freeC,I.pin,I.hok,I.len⟩
theorem q9G{P:PySem.Fin→Shared→Prop}{EE:Value→Shared→Prop}{A:Around}{a kS:Addr}{st:SortSt}{e1 e:Nat}{ks:List Value}{out:List Value}{us:List V}(I:Inv X pins σ H s)(fa:FpOk X pins H a)(fk:FpOk X pins H kS)(ha:X.s₀.heap.objs.size≤a)(ne:kS≠a)
 (ga:s.heap.get? a=some (seqObj "list" #[] e1)) (gk:s.heap.get? kS=some (seqObj "list" ks.toArray e)) (hk:ks.length<64) (hout:(arrOf st).map (·.2)=out.toArray) (ho:out.length<64) (hf:failedOf st=none) (rv:Vals us out)
 (h:∀s',Inv X pins σ (upd H a (.lst us)) s'→P (.done (.ret .none)) s'):wpAny (model X.prog X.w) A (ksk_tail a false e1 (.ref kS) st) P EE s:=by
 unfold ksk_tail
 try dsimp only
 rw[hout]
 refine kB (wO gk rfl ?_ (by rw[mC,gM];omega) (mO _))
 refine kB (wC ?_)
 have ga':(s.heap.update kS (Obj.mapSeq λ_=>(#[]:Array Value))).get? a=some (seqObj "list" #[] e1):=(kY _ _ ne).trans ga
 refine kB (seqEpoch_at ga' rfl ?_)
 refine kB (wO ga' rfl ?_ (mO _) (by rw[kF kO,mC,gM];omega))
 rw[hf]
 simp only[pX,cI,sQ]
 refine mB (h _ ?_)
 obtain⟨c2,g2⟩:∃c2,((s.heap.update kS (Obj.mapSeq λ_=>(#[]:Array Value))).update a (Obj.mapSeq λ_=>out.toArray)).get? a=some (seqObj "list" out.toArray c2):=⟨_,wK ga' λ_=>out.toArray⟩
 have I2:Inv X pins σ H { s with heap:=(s.heap.update kS (Obj.mapSeq λ_=>(#[]:Array Value))).update a (Obj.mapSeq λ_=>out.toArray),toks:=s.toks }:=
  I.turnedN (fp:=[kS,a]) (λb o hb eb=>by
   simp only[kL,gY,cC,not_or]at hb
   exact(kY _ _ (wD hb.2)).trans ((kY _ _ (wD hb.1)).trans eb)) (λb hb=>by
   simp only[kL,gY,cC]at hb
   rcases hb with rfl|rfl
   ·exact fk
   ·exact fa)
 exact I2.adopt fa ha (show jK X.prog X.w _ _ _ (.lst us)from⟨by rw[rv.length,gM];omega,out,c2,rv,g2⟩)
theorem qFY{P:PySem.Fin→Shared→Prop}{EE:Value→Shared→Prop}{A:Around}{a kS:Addr}{e1 e:Nat}{ks vs:List Value}{us zs:List V}{kk:List (List Int)}{m:Nat}(I:Inv X pins σ H s)(fa:FpOk X pins H a)(fk:FpOk X pins H kS)(ha:X.s₀.heap.objs.size≤a)(ne:kS≠a)
 (ga:s.heap.get? a=some (seqObj "list" #[] e1)) (gk:s.heap.get? kS=some (seqObj "list" ks.toArray e)) (rz:Vals zs ks) (rv:Vals us vs) (hl:zs.length=us.length) (h64:us.length<64) (hti:Paired (TupI X.K H) zs kk) (hw:∀k∈kk,k.length=m) (hm:0<m)
 (h:∀q:List Nat,q.Perm (List.range us.length)→(q.map λi=>kk.getD i []).Pairwise (λa b=>lx b a=false)→∀s',Inv X pins σ (upd H a (.lst (q.map λi=>us.getD i .non))) s'→P (.done (.ret .none)) s'):
 wpAny (model X.prog X.w) A (ksk_end a false vs.toArray e1 (.ref kS) ks.toArray) P EE s:=by
 have l1:=rz.length
 have l2:=rv.length
 have l3:=hti.len
 have hlk:ks.length=vs.length:=by omega
 unfold ksk_end
 try dsimp only
 rw[kF kO]
 by_cases h2:vs.toArray.size<2
 ·rw[kI h2,kI h2]
  refine kB (mB ?_)
  rw[StateT.run_pure]
  refine kB (mB ?_)
  try dsimp only
  have hn2:vs.length<2:=by rw[mC]at h2;exact h2
  refine q9G (out:=vs) (us:=us) I fa fk ha ne ga gk (by omega) ?_ (by omega) rfl rv λs' I'=>?_
  ·rw[kF kO]
   show(ks.toArray.zip vs.toArray).map (·.2)=vs.toArray
   apply p9.mp
   rw[sE,Array.toList_zip]
   show(ks.zip vs).map Prod.snd=vs
   exact List.map_snd_zip (by omega)
  ·have e:(List.range us.length).map (λi=>us.getD i .non)=us:=by
    refine rH (by simp) λi h1 h3=>?_
    rw[sF,pV,kJ,hU h3]
    rfl
   have z:=h (List.range us.length) (List.Perm.refl _) (by
    rw[g9,rO]
    intro i j hi hj hij
    rw[mZ]at hi hj
    omega)
   rw[e]at z
   exact z s' I'
 ·rw[kF h2,kF h2]
  have h2':2≤ks.length:=by rw[mC]at h2;omega
  have K:=qBE (prog:=X.prog) (w:=X.w) (A:=A) (s:=s) (q3V I rz hti) hw hm h2'
  refine kB (K.kind _ _ ?_)
  rw[kF kO]
  refine kB (dB (kat_run (κ:=tuples' true) (G:=λp s'=>s'=s∧Gp vs.length p∧Srt (λi=>rkOf kk (kk.getD i [])) p vs.length) (Q:=λst' s'=>∃p:Array Nat,arrOf st'=p.map (kas_item (ks.toArray.zip vs.toArray))∧failedOf st'=none∧s'=s∧Gp vs.length p∧Srt (λi=>rkOf kk (kk.getD i [])) p vs.length) hlk (by omega) (by omega) (λp' st' s' _ a2 a3 a4=>⟨p',a2,a3,a4⟩) ?_) ?_ λ_ _ x=>x)
  ·refine qDX (c:=rc λi=>rkOf kk (kk.getD i [])) (n:=vs.length) (λi j C hi hj c=>K.lt i j C (by omega) (by omega) c) _ (yQ (λp q=>⟨rfl,q⟩) _ (qBC (by omega)))
  ·rintro⟨⟨⟩,st'⟩ s' ⟨p,har,hf,rfl,gp,sr⟩
   try dsimp only
   have pp:p.toList.Perm (List.range vs.length):=by
    have:=Array.perm_iff_toList_perm.mp gp
    simpa using this
   have hin:∀i∈p.toList,i<us.length:=λi hi=>by rw[l2];exact mM.mp (pp.mem_iff.mp hi)
   have pw:(p.toList.map λi=>kk.getD i []).Pairwise (λx y=>lx y x=false):=by
    rw[g9,rO]
    intro i j hi hj hij
    rw[mQ,gp.size]at hi hj
    have z:rkOf kk (kk.getD (p.getD i 0) [])≤rkOf kk (kk.getD (p.getD j 0) []):=sr i j (by omega) hj
    have gi:p.getD i 0=p.toList[i]'(by rw[mQ,gp.size];exact hi):=by simp[Array.getD,gp.size,hi]
    have gj:p.getD j 0=p.toList[j]'(by rw[mQ,gp.size];exact hj):=by simp[Array.getD,gp.size,hj]
    rw[gi,gj]at z
    have mem:∀x,x<kk.length→kk.getD x []∈kk:=λx hx=>by rw[kJ,hU hx];exact gD hx
    cases g:lx (kk.getD (p.toList[j]'(by rw[mQ,gp.size];exact hj)) []) (kk.getD (p.toList[i]'(by rw[mQ,gp.size];exact hi)) [])with
    |false=>rfl
    |true=>
     have b1:=hin _ (gD (show j<p.toList.length by rw[mQ,gp.size];exact hj))
     have b2:=hin _ (gD (show i<p.toList.length by rw[mQ,gp.size];exact hi))
     have lt:=(qAH (mem _ (by omega)) (mem _ (by omega))).mpr g
     omega
   exact q9G (out:=p.toList.map λi=>vs.getD i Value.none) (us:=p.toList.map λi=>us.getD i .non) I fa fk ha ne ga gk (by omega) (kat_snds hlk har) (by rw[h9,pp.length_eq,mZ];omega) hf (q46 rv hin) λs' I'=>h p.toList (by rw[l2];exact pp) pw s' I'
end
theorem q9H:∀a b:List Int,HT.lexLt a b=lx a b
 | [],[]=>rfl
 | [],_::_=>rfl
 |_::_,[]=>rfl
 |x::xs,y::ys=>by
  show(if x=y then HT.lexLt xs ys else decide (x<y))=(if x=y then lx xs ys else decide (x<y))
  rw[q9H xs ys]
end L2
namespace L2
open PySem PySem.Spec PyProof.Rows
theorem qFZ{X:Cx}{K:PySem.W.Frag}{es:List Expr}{k:Nat}{t:TGs}{n:Nat}{pos:Pos}(e:X.K=K)(hc:X.calm=true)(h:PGs X es t)(hn:(assignEach es X.env).length=n)(hst:(assignEach es X.env).findIdx? (·.1)=none):PG X (.Tuple es k pos) (gTup K n t):=by
 subst e
 exact qA4 hc h hn hst
noncomputable def q4K(v a:Addr):HO:=.ext λh=>h.IsItemsView v a
theorem qE0{P:Program}{w:World}{H:Hp}{h:Heap}{v a:Addr}(e:h.IsItemsView v a):jK P w H h v (q4K v a):=by
 obtain⟨o,e1,e2,e3⟩:=id e
 exact⟨e,⟨_,e1⟩,λ_ _ ⟨o,a1,a2⟩ k=>⟨o,k _ a1,a2⟩⟩
theorem qE1{P:Program}{w:World}{H:Hp}{h:Heap}{v a:Addr}(ok:HOk P w H h)(e:H v=some (q4K v a)):h.IsItemsView v a:=(ok v _ e).1
noncomputable def qIR:V→List V→Hp→VK→Prop:=λx vs H Q=>∃a kvs,x=.ref a∧vs=[]∧H a=some (.dK kvs)∧∀v,H v=none→Q (.ref v) (upd H v (q4K v a))
theorem qE2{X:Cx}:MtR X "dict.items" qIR:=by
 intro pins s σ H x vs v us Q I rx rv hZ
 obtain⟨a,kvs,ex,ev,ha,q⟩:=hZ
 subst ex ev
 cases rx
 have hus:=rv.zero
 subst hus
 obtain⟨z,lo,ws,rel,dd⟩:=q90 I.hok ha
 refine call_meetsIn PySem.F.slot_dict_items dd.typeIs PySem.F.entry_dict_items (PySem.F.args_dict_items_1 _) (meets_dict_items (y7 X.prog X.w) a lo) ⟨⟨ws,dd⟩,?_⟩
 exact⟨.ref s.heap.objs.size,_,I.laid (t':=s.toks) (λb o e=>kC _ e) (kM _) (qE0 ⟨_,mI _ rfl,rfl,rfl⟩),rfl,q _ (I.hok.fresh (kM _))⟩
theorem q5Q:entryFor table "dict_itemiterator.__iter__"=some Builtin.«dict_keyiterator.__iter__»:=
 entryFor_alias (id':="dict_keyiterator.__iter__") (by kernel_rfl) (by first|decide+kernel|rfl|(unfold String.splitOn;simp+decide [String.splitOnAux])) (by decide+kernel) (by kernel_rfl)
noncomputable def Iti(a:Addr)(o:Obj)(kvs:List (Key×V)):It:=
 ⟨λi H=>H a=some (.frz o (.dK kvs))∧i<kvs.length,λi H v H'=>∃T kv,v=.ref T∧H T=none∧H'=upd H T (.tup [kV kv.1,kv.2])∧kvs[i]?=some kv,λi H=>H a=some (.frz o (.dK kvs))∧kvs.length≤i⟩
theorem qAI{P:Program}{w:World}{K:PySem.W.Frag}{elts:List Expr}{x1}{pos:Pos}(a it:Addr)(o:Obj){kvs:List (Key×V)}{vs:List (Key×Value)}{ep:Nat}(rel:KV kvs vs)(hD:∀h:Heap,h.get? a=some o→h.DictAt (y7 P w) a vs ep):
 Turn P w K (.Tuple elts x1 pos) (Iti a o kvs) [it] it (λi h=>∃k0 v0,IsItemIter h it a i vs.length ep k0 v0) where
 mem:=by simp
 obj:=λi h st b hb=>by
  have e:b=it:=by simpa using hb
  subst e
  obtain⟨k0,v0,e⟩:=st
  exact⟨_,e,λv z=>by cases z⟩
 keep:=λi h h' st k=>let⟨k0,v0,e⟩:=st;⟨k0,v0,k it (by simp) _ e⟩
 item:=by
  intro X hP hw hK hc i pins s σ H E I hf st hg
  subst hP hw hK
  obtain⟨ha,hi⟩:=hg
  obtain⟨ho,_⟩:=I.hok a _ ha
  have hl:=rel.length
  have hi':i<vs.length:=by omega
  obtain⟨k0,v0,st⟩:=st
  obtain⟨f0,f1,f2,f3,f4,f5⟩:=hf it (by simp)
  refine wpAny_pyNext_items_item (k:=vs[i].1) (v:=vs[i].2) st (hD _ ho) (hU hi') λkey h' hk b1 b5 b6 b7=>?_
  refine⟨_,rfl,wpAny_letOwnedTupleGo_items (s:={ s with heap:=h' }) b1 λh'' c1 c2=>?_⟩
  have kk:∀b o,b∉[it]→s.heap.get? b=some o→h''.get? b=some o:=λb o hb e=>by
   have nb:b≠it:=λz=>hb (hV.mpr z)
   exact c2.extBut _ _ nb (b7 b o nb e)
  have I1:Inv X pins σ H { s with heap:=h'' }:=I.turnedN (t':=s.toks) kk hf
  have fr:H s.heap.objs.size=none:=I.hok.fresh (kM _)
  have yg:=I.young (a:=s.heap.objs.size) (pC (kM _))
  have nit:s.heap.objs.size≠it:=rG (kX st)
  have ek:=dR (λl=>l[i]?) rel.keys
  simp only[mD,hU hi,hU hi',Option.map_some]at ek
  have rk:RelV (kV kvs[i].1) key:=by rw[kQ ek];exact qH6 hk
  have rv:RelV kvs[i].2 vs[i].2:=by
   obtain⟨q,hq,z1,z2⟩:=Paired.at rel (hU hi)
   rw[hU hi']at hq
   rw[kQ hq]
   exact z2
  have I2:=I1.trackG (o:=.tup [kV kvs[i].1,kvs[i].2]) fr yg (rG I.lt) (λx' c' w q'=>by
   obtain⟨v,o',ho,_⟩:=I.cell x' c' w
   exact absurd (kX ho) (by rw[q'];exact dZ _)) ⟨by rw[gM,mG,mG,wI];omega,[key,vs[i].2],.cons rk (.cons rv .nil),⟨_,c2.extBut _ _ nit b5,rfl,_,rfl⟩⟩
  refine⟨.ref s.heap.objs.size,_,I2,rfl,⟨_,kvs[i],rfl,fr,rfl,hU hi⟩,⟨_,_,c1⟩,λb hb=>?_⟩
  have e:b=it:=by simpa using hb
  subst e
  rw[qD (wD nit)]
  exact(hf b hb).1
 done:=by
  intro X hP hw hK hc i pins s σ H E I hf st hg
  subst hP hw hK
  obtain⟨ha,hi⟩:=hg
  obtain⟨ho,_⟩:=I.hok a _ ha
  have hl:=rel.length
  obtain⟨k0,v0,st⟩:=st
  obtain⟨f0,f1,f2,f3,f4,f5⟩:=hf it (by simp)
  exact wpAny_pyNext_items_end (I.ok.hd hc) st (hD _ ho) (rL (by omega)) λh' eb=>⟨rfl,I.turned (t':=s.toks) (λb o hb e=>eb b o hb e) f0 f1 f3 f4 f5⟩
 self:=λA i s Q E ⟨k0,v0,st⟩ h=>by
  have ty:s.TypeIs (.ref it) "dict_itemiterator":=⟨_,st,rfl⟩
  refine wpAny_pyIter_slot ty cE (wpAny_call_entry cE ty q5Q ?_ (PySem.F.args_dict_itemiterator_iter_1 _))
  show wpAny _ _ (ret (.ref it)) _ _ s
  exact mB ⟨_,rfl,"dict_itemiterator",_,ty,PySem.F.slot_dict_itemiterator_next.lookup,h⟩
section
variable{X:Cx}
noncomputable def iItm(td:TE):TI:=λσ H R=>td σ H λx H1=>∃v a kvs,x=.ref v∧H1 v=some (q4K v a)∧H1 a=some (.dK kvs)∧∀o,R (Iti a o kvs) (upd H1 a (.frz o (.dK kvs)))
theorem qIS{elts:List Expr}{x1}{pos:Pos}{d:Expr}{td:TE}(hd:PE X d td):PI X (.Tuple elts x1 pos) d (iItm td):=by
 intro pins s σ H R I h
 refine thn (hd pins s σ H _ I h) λv s1 hZ=>?_
 obtain⟨x,H1,I1,r1,q1⟩:=hZ
 obtain⟨vw,a,kvs,e,hv,ha,q⟩:=q1
 subst e
 cases r1
 obtain⟨z,lo,vs,rel,dd⟩:=q90 I1.hok ha
 obtain⟨ep,hat⟩:=dd.dictAt
 obtain⟨o,es,ho,hr⟩:=id hat
 have I2:=I1.freeze ha ho
 refine wpAny_pyIter_items (qE1 I1.hok hv) hat ?_
 refine⟨s1.heap.objs.size,[s1.heap.objs.size],_,_,_,rfl,I2.kept (t':=s1.toks) λb o e=>kC _ e,qAI a _ o rel (λh' h=>⟨o,es,h,hr⟩),⟨_,_,mI _ rfl⟩,λb hb=>?_,q o⟩
 have e:b=s1.heap.objs.size:=by simpa using hb
 subst e
 exact I2.fpOk (kM _) (I2.hok.fresh (kM _))
end
theorem qG0{a:Addr}{o:Obj}{kvs:List (Key×V)}{D:Addr}{H2:Hp}{g:TG}{tc:TT}{te:TE}{σ0:St}{R:Hp→Prop}(Pv:Nat→Hp→Prop)(h0:Pv 0 H2)(hl:∀i H,Pv i H→H a=some (.frz o (.dK kvs)))
 (hs:∀(i:Nat) kv T H,kvs[i]?=some kv→Pv i H→H T=none→g (.ref T) σ0 (upd H T (.tup [kV kv.1,kv.2])) λσ5 H5=>tc σ5 H5 λb H6=>if b=true then te σ5 H6 (λv H7=>∃vs,H7 D=some (.lst vs)∧vs.length<sizeLine∧Pv (i+1) (upd H7 D (.lst (vs++[v]))))else Pv (i+1) H6) (hd:∀H,Pv kvs.length H→R H):
 ∃W:Nat→Nat→Hp→Prop,(∃m,W 0 m H2)∧∀i m H3,W i m H3→((Iti a o kvs).stop i H3∧R H3)∨
  ((Iti a o kvs).go i H3∧∃N:Hp→Prop,(∀H',N H'→∃m',m'<m∧W (i+1) m' H')∧∀x H4,(Iti a o kvs).yld i H3 x H4→g x σ0 H4 λσ5 H5=>tc σ5 H5 λb H6=>
   if b=true then te σ5 H6 (λv H7=>∃vs,H7 D=some (.lst vs)∧vs.length<sizeLine∧N (upd H7 D (.lst (vs++[v]))))else N H6):=by
 refine⟨λi m H=>m=kvs.length-i∧i≤kvs.length∧Pv i H,⟨kvs.length,by simp,mO _,h0⟩,?_⟩
 rintro i m H ⟨rfl,hi,p⟩
 have q:=hl i H p
 by_cases hlt:i<kvs.length
 ·refine .inr ⟨⟨q,hlt⟩,Pv (i+1),λH' z=>⟨kvs.length-(i+1),by omega,rfl,by omega,z⟩,?_⟩
  rintro v H' ⟨T,kv,rfl,nT,rfl,hk⟩
  exact hs i kv T _ hk p nT
 ·obtain rfl:i=kvs.length:=by omega
  exact .inl ⟨⟨q,kM _⟩,hd _ p⟩
end L2
namespace L2
open PySem PySem.W PySem.Spec PyProof.Rows
section
variable{X:Cx}{pins:List (Addr×Obj)}{σ:St}
noncomputable def TupD(H:Hp)(v:V)(k:List Int):Prop:=∃a,v=.ref a∧H a=some (.tup (k.map V.int))
theorem TupD.i{K:PySem.W.Frag}{H:Hp}{v:V}{k:List Int}(h:TupD H v k):TupI K H v k:=let⟨a,e,z⟩:=h;⟨a,e,SqT.of z⟩
theorem TupD.same{H H':Hp}{v:V}{k:List Int}(h:TupD H v k)(s:Same H H'):TupD H' v k:=let⟨a,e,z⟩:=h;⟨a,e,s _ _ z⟩
theorem TupD.upd{H:Hp}{v:V}{k:List Int}{D:Addr}{u o:HO}(h:TupD H v k)(hd:H D=some u)(n:∀ys,u≠ .tup ys):TupD (L2.upd H D o) v k:=let⟨a,e,z⟩:=h;⟨a,e,by rw[qD (jU z hd (λq=>n _ q.symm))];exact z⟩
noncomputable def dI(ks:List (Int×Int)):List (Key×V):=ks.map λp=>((.inl p.1:Key),V.int p.2)
theorem q7Y:∀{ks:List (Int×Int)} {n m:Int},(ks.map (·.1)).Nodup→(n,m)∈ks→valV (dI ks) (.inl n:Key)=some (.int m)
 |p::ks,n,m,nd,h=>by
  obtain⟨n1,n2⟩:=m9.mp nd
  show valV (((.inl p.1:Key),V.int p.2)::dI ks) (.inl n)=_
  rcases kL.mp h with rfl|h
  ·exact q3P rfl
  ·have ne:p.1≠n:=λe=>n1 (by show p.1∈_;rw[e];exact pN (f:=λx:Int×Int=>x.1) h)
   rw[q1F (λe=>ne (pW e))]
   exact q7Y n2 h
theorem q5R:∀{ks:List (Int×Int)} {n:Int},n∉ks.map (·.1)→valV (dI ks) (.inl n:Key)=none
 | [],n,_=>rfl
 |p::ks,n,h=>by
  show valV (((.inl p.1:Key),V.int p.2)::dI ks) (.inl n)=_
  have h':n≠p.1∧n∉ks.map (·.1):=by simpa using h
  rw[q1F (λe=>h'.1 (pW e).symm)]
  exact q5R h'.2
end
end L2
namespace W1
theorem jG{α:Type}(l:List α)(i j:Nat)(x d:α):(l.set i x).getD j d=if i=j∧i<l.length then x else l.getD j d:=by
 rw[kJ,List.getElem?_set,kJ]
 by_cases h:i=j
 ·subst h
  rw[kI rfl]
  by_cases h2:i<l.length
  ·rw[kI h2,kI ⟨rfl,h2⟩]
   rfl
  ·rw[kF h2,kF (λz=>h2 z.2),rL (by omega)]
 ·rw[kF h,kF (λz=>h z.1)]
theorem yD{P b j:Nat}(h:j<P):(b*P+j) / P=b:=by
 rw[d3,pJ (by omega),cY h,Nat.add_zero]
theorem q2J{α:Type}[DecidableEq α]:∀{l m:List α},l.Nodup→m.Nodup→(∀x,x∈l↔x∈m)→l.Perm m
 | [],m,_,_,h=>by
  cases m with
  |nil=>exact .nil
  |cons a m=>exact absurd ((h a).mpr kW) (by simp)
 |a::l,m,h1,h2,h=>by
  have ha:=(h a).mp kW
  obtain⟨n1,n2⟩:=m9.mp h1
  refine List.Perm.trans (List.Perm.cons a (q2J n2 (h2.erase a) λx=>?_)) (List.perm_cons_erase ha).symm
  rw[List.Nodup.mem_erase_iff h2]
  constructor
  ·intro hx
   exact⟨λe=>n1 (e▸hx),(h x).mp (hX _ hx)⟩
  ·rintro⟨ne,hx⟩
   exact(kL.mp ((h x).mpr hx)).resolve_left ne
theorem qH8{α:Type}[DecidableEq α]:∀{l m:List α},l.Nodup→(∀x∈l,x∈m)→l.length≤m.length
 | [],_,_,_=>mO _
 |a::l,m,h1,h=>by
  obtain⟨n1,n2⟩:=m9.mp h1
  have ha:=h a kW
  have:=qH8 (m:=m.erase a) n2 λx hx=>(List.mem_erase_of_ne (show x≠a from λe=>n1 (e▸hx))).mpr (h x (hX _ hx))
  rw[List.length_erase_of_mem ha]at this
  have h0:=cS ha
  rw[mG]
  omega
noncomputable abbrev Mp:=List (Int×Int)
noncomputable def jJ(W:Mp)(n:Int):Mp:=W.filter λq=>decide (q.1≠n)
noncomputable def putW(W:Mp)(n p:Int):Mp:=if(W.any λq=>decide (q.1=n))=true then W.map (λq=>if q.1=n then(q.1,p)else q)else W++[(n,p)]
theorem jD{W:Mp}{n:Int}{q:Int×Int}:q∈jJ W n↔q∈W∧q.1≠n:=by
 unfold jJ
 rw[mJ,kU]
theorem qH9{W:Mp}(h:(W.map (·.1)).Nodup):W.Nodup:=(g9.mp h).imp λz e=>z (dR Prod.fst e)
theorem qIT{W:Mp}(h:(W.map (·.1)).Nodup){q r:Int×Int}(hq:q∈W)(hr:r∈W)(e:q.1=r.1):q=r:=by
 induction W with
 |nil=>cases hq
 |cons a W ih=>
  obtain⟨n1,n2⟩:=m9.mp h
  rcases kL.mp hq with e1|h1
  ·rcases kL.mp hr with e2|h2
   ·rw[e1,e2]
   ·exact absurd (by show a.1∈_;rw[←e1,e];exact pN (f:=λx:Int×Int=>x.1) h2) n1
  ·rcases kL.mp hr with e2|h2
   ·exact absurd (by show a.1∈_;rw[←e2,←e];exact pN (f:=λx:Int×Int=>x.1) h1) n1
   ·exact ih n2 h1 h2
theorem q5S{W:Mp}{n:Int}(h:(W.map (·.1)).Nodup):((jJ W n).map (·.1)).Nodup:=(h.sublist ((wZ ..).map _))
theorem q5T{W:Mp}{n p:Int}(h:(W.map (·.1)).Nodup){q:Int×Int}:q∈putW W n p↔q=(n,p)∨q∈jJ W n:=by
 unfold putW
 by_cases e:(W.any λq=>decide (q.1=n))=true
 ·rw[kI e,kZ]
  obtain⟨r,hr,er⟩:=wY.mp e
  have er:r.1=n:=mV er
  constructor
  ·rintro⟨x,hx,rfl⟩
   by_cases ex:x.1=n
   ·rw[kI ex]
    exact .inl (by rw[ex])
   ·rw[kF ex]
    exact .inr (jD.mpr ⟨hx,ex⟩)
  ·rintro(rfl|h2)
   ·exact⟨r,hr,by rw[kI er,er]⟩
   ·obtain⟨a,b⟩:=jD.mp h2
    exact⟨q,a,kF b⟩
 ·rw[kF e,gO,hV]
  have no:∀x∈W,x.1≠n:=λx hx z=>e (wY.mpr ⟨x,hx,hG z⟩)
  constructor
  ·rintro(h1|h1)
   ·exact .inr (jD.mpr ⟨h1,no _ h1⟩)
   ·exact .inl h1
  ·rintro(h1|h1)
   ·exact .inr h1
   ·exact .inl (jD.mp h1).1
theorem qCG{W:Mp}{n p:Int}(h:(W.map (·.1)).Nodup):((putW W n p).map (·.1)).Nodup:=by
 unfold putW
 by_cases e:(W.any λq=>decide (q.1=n))=true
 ·rw[kI e,sI]
  have:(λx:Int×Int=>x.1) ∘ (λq:Int×Int=>if q.1=n then(q.1,p)else q)=λx=>x.1:=by
   funext x
   show(if x.1=n then(x.1,p)else x).1=x.1
   split<;>rfl
  rw[this]
  exact h
 ·rw[kF e,m7]
  refine wR.mpr ⟨h,by simp,λa ha b hb z=>e ?_⟩
  obtain⟨x,hx,rfl⟩:=kZ.mp ha
  have hb:b=n:=by simpa using hb
  exact wY.mpr ⟨x,hx,hG (by rw[z,hb])⟩
noncomputable def cntB(P:Nat)(W:Mp)(b:Nat):Nat:=W.countP λq=>decide (q.2 / (P:Int)=(b:Int))
theorem qE3{P:Nat}{W:Mp}{n p:Int}{b:Nat}(nd:(W.map (·.1)).Nodup)(h:(n,p)∈W):cntB P W b=cntB P (jJ W n) b+if p / (P:Int)=(b:Int)then 1 else 0:=by
 have pm:W.Perm ((n,p)::jJ W n):=q2J (qH9 nd) (m9.mpr ⟨λz=>(jD.mp z).2 rfl,qH9 (q5S nd)⟩) λx=>by
  rw[kL,jD]
  constructor
  ·intro hx
   by_cases e:x.1=n
   ·exact .inl (qIT nd hx h e)
   ·exact .inr ⟨hx,e⟩
  ·rintro(rfl|hx)
   ·exact h
   ·exact hx.1
 unfold cntB
 rw[pm.countP_eq,cX]
 by_cases e:p / (P:Int)=(b:Int)
 ·rw[kI e,kI (hG e)]
 ·rw[kF e,kF (by rw[kU];exact e)]
theorem qG1{W:Mp}{n:Int}(h:∀q∈W,q.1≠n):jJ W n=W:=rE.mpr λq hq=>hG (h q hq)
structure BM where
 P:Nat
 B:Nat
 ns:List Int
 W:Mp
 V:Mp
 nx:Int
 bs:List (Option Int)
 ss:List Int
 lv:List Int
 fi:List Int
 bo:List Int
namespace BM
variable{m:BM}
noncomputable def lvF(P:Nat)(V:Mp)(lv:List Int)(n:Int):List Int:=match V.find? λq=>decide (q.1=n)with
 |some q=>lv.set (q.2 / (P:Int)).toNat (lv.getD (q.2 / (P:Int)).toNat 0-1)
 |none=>lv
end BM
end W1
namespace L2
open PySem PySem.Spec PyProof.Rows
theorem q32{n j:Nat}(h:j<n):ixN n (j:Int)=some j:=by
 unfold ixN
 have a:(0:Int)≤j:=by omega
 have b:(j:Int)<n:=by omega
 simp[a,b,h]
theorem qE4{V:List (Int×Int)}{n:Int}:q5J (dI V) (Sum.inl n:Key)=dI (W1.jJ V n):=by
 unfold q5J dI W1.jJ
 rw[List.filter_map]
 congr 1
 apply pZ
 intro q _
 show decide ((Sum.inl q.1:Key)≠Sum.inl n)=decide (q.1≠n)
 by_cases e:q.1=n<;>simp[e]
theorem qG2{W:List (Int×Int)}{n p:Int}:putK (dI W) (Sum.inl n:Key) (.int p)=dI (W1.putW W n p):=by
 unfold putK dI W1.putW
 have e:((W.map λp=>((Sum.inl p.1:Key),V.int p.2)).any λkv=>decide (kv.1=Sum.inl n))=W.any λq=>decide (q.1=n):=by
  rw[List.any_map]
  congr 1
  funext q
  show decide ((Sum.inl q.1:Key)=Sum.inl n)=decide (q.1=n)
  by_cases e:q.1=n
  ·rw[e];simp
  ·rw[kD e,kD (λz=>e (pW z))]
 rw[e]
 by_cases h:(W.any λq=>decide (q.1=n))=true
 ·rw[kI h,kI h,sI,sI]
  apply r6
  intro q _
  show(if(Sum.inl q.1:Key)=Sum.inl n then((Sum.inl q.1:Key),V.int p)else((Sum.inl q.1:Key),V.int q.2))=_
  by_cases e:q.1=n
  ·rw[kI (by rw[e])]
   show _=(λp:Int×Int=>((Sum.inl p.1:Key),V.int p.2)) (if q.1=n then(q.1,p)else q)
   rw[kI e]
  ·rw[kF (λz=>e (pW z))]
   show _=(λp:Int×Int=>((Sum.inl p.1:Key),V.int p.2)) (if q.1=n then(q.1,p)else q)
   rw[kF e]
 ·rw[kF h,kF h,m7]
  rfl
theorem qCH{V:List (Int×Int)}{n p:Int}:W1.putW (W1.jJ V n) n p=W1.jJ V n++[(n,p)]:=by
 unfold W1.putW
 rw[kF]
 intro h
 obtain⟨q,hq,e⟩:=wY.mp h
 exact(W1.jD.mp hq).2 (mV e)
theorem setV{ns:List Int}{c:Nat}{x:Int}:(ns.map V.int).set c (.int x)=(ns.set c x).map V.int:=by rw[List.map_set]
theorem atV{ns:List Int}{c:Nat}(h:c<ns.length):atI (ns.map V.int) (c:Int)=some (.int (ns.getD c 0)):=by
 refine yP ?_
 rw[mD,hU h,kJ,hU h]
 rfl
theorem qE5:∀{A B:List (List Int)},A.Perm B→A.Pairwise (λa b=>lx b a=false)→B.Pairwise (λa b=>lx b a=false)→A=B
 | [],B,p,_,_=>(List.nil_perm.mp p).symm▸rfl
 |a::A,[],p,_,_=>absurd p.length_eq (by simp)
 |a::A,b::B,p,h1,h2=>by
  have e:a=b:=by
   by_cases e:a=b
   ·exact e
   ·have hb:b∈A:=(kL.mp (p.mem_iff.mpr kW)).resolve_left (λz=>e z.symm)
    have ha:a∈B:=(kL.mp (p.mem_iff.mp kW)).resolve_left e
    exact q45 a b ((gU.mp h2).1 a ha) ((gU.mp h1).1 b hb)
  subst e
  rw[qE5 ((List.perm_cons a).mp p) (gU.mp h1).2 (gU.mp h2).2]
theorem qBF:∀{A B:List Int},A.Perm B→A.Pairwise (·≤·)→B.Pairwise (·≤·)→A=B
 | [],B,p,_,_=>(List.nil_perm.mp p).symm▸rfl
 |a::A,[],p,_,_=>absurd p.length_eq (by simp)
 |a::A,b::B,p,h1,h2=>by
  have e:a=b:=by
   by_cases e:a=b
   ·exact e
   ·have hb:b∈A:=(kL.mp (p.mem_iff.mpr kW)).resolve_left (λz=>e z.symm)
    have ha:a∈B:=(kL.mp (p.mem_iff.mp kW)).resolve_left e
    have:=(gU.mp h2).1 a ha
    have:=(gU.mp h1).1 b hb
    omega
  subst e
  rw[qBF ((List.perm_cons a).mp p) (gU.mp h1).2 (gU.mp h2).2]
theorem qE6{a:Addr}{o:Obj}{kvs:List (Key×V)}{D:Addr}{H2:Hp}{g:TG}{tc:TT}{te:TE}{σ0:St}{R:Hp→Prop}(Pv:Nat→Hp→Prop)(h0:Pv 0 H2)(hl:∀i H,Pv i H→H a=some (.frz o (.dK kvs)))
 (hs:∀(i:Nat) kv H,kvs[i]?=some kv→Pv i H→g (kV kv.1) σ0 H λσ5 H5=>tc σ5 H5 λb H6=>if b=true then te σ5 H6 (λv H7=>∃vs,H7 D=some (.lst vs)∧vs.length<sizeLine∧Pv (i+1) (upd H7 D (.lst (vs++[v]))))else Pv (i+1) H6) (hd:∀H,Pv kvs.length H→R H):
 ∃W:Nat→Nat→Hp→Prop,(∃m,W 0 m H2)∧∀i m H3,W i m H3→((Itd a o kvs).stop i H3∧R H3)∨
  ((Itd a o kvs).go i H3∧∃N:Hp→Prop,(∀H',N H'→∃m',m'<m∧W (i+1) m' H')∧∀x H4,(Itd a o kvs).yld i H3 x H4→g x σ0 H4 λσ5 H5=>tc σ5 H5 λb H6=>
   if b=true then te σ5 H6 (λv H7=>∃vs,H7 D=some (.lst vs)∧vs.length<sizeLine∧N (upd H7 D (.lst (vs++[v]))))else N H6):=
 qFU (Q:=λ_ H=>R H) Pv h0 hl hs hd
theorem qAJ{ks:List (List Int)}{q:List Nat}{n:Nat}(hn:ks.length=n)(p:q.Perm (List.range n)):(q.map λi=>ks.getD i []).Perm ks:=by
 refine(p.map λi=>ks.getD i []).trans ?_
 have e:(List.range n).map (λi=>ks.getD i [])=ks:=by
  apply rH
  ·rw[h9,mZ,hn]
  ·intro i h1 h2
   rw[sF,pV,kJ,hU h2]
   rfl
 rw[e]
theorem qAK{F:V→List Int→Prop}{us:List V}{ks:List (List Int)}{q:List Nat}(h:Paired F us ks)(hq:∀i∈q,i<us.length):Paired F (q.map λi=>us.getD i .non) (q.map λi=>ks.getD i []):=by
 refine q7B (by rw[h9,h9]) λj x k hx hk=>?_
 rw[mD]at hx hk
 obtain⟨i,hi,rfl⟩:=mH.mp hx
 rw[hi]at hk
 obtain rfl:=kQ hk
 have hl:=hq i (m8 hi)
 have e1:us[i]?=some (us.getD i .non):=by rw[kJ,hU hl];rfl
 obtain⟨k,hk1,z⟩:=Paired.at h e1
 show F (us.getD i .non) (ks.getD i [])
 rw[show ks.getD i []=k from by rw[kJ,hk1];rfl]
 exact z
theorem vX{H H':Hp}{us:List V}{ks:List (List Int)}(h:Paired (TupD H) us ks)(s:Same H H'):Paired (TupD H') us ks:=Paired.mapP h λ_ _ z=>z.same s
theorem qBG{K:PySem.W.Frag}{H:Hp}{us:List V}{ks:List (List Int)}(h:Paired (TupD H) us ks):Paired (TupI K H) us ks:=Paired.mapP h λ_ _ z=>z.i
theorem q47{lo:Int}{n:Nat}{D:Addr}{H2:Hp}{g:TG}{tc:TT}{te:TE}{σ0:St}{R:Hp→Prop}(Pv:Nat→Hp→Prop)(h0:Pv 0 H2)
 (hs:∀(i:Nat) H,i<n→Pv i H→g (.int (lo+i)) σ0 H λσ5 H5=>tc σ5 H5 λb H6=>if b=true then te σ5 H6 (λv H7=>∃vs,H7 D=some (.lst vs)∧vs.length<sizeLine∧Pv (i+1) (upd H7 D (.lst (vs++[v]))))else Pv (i+1) H6) (hd:∀H,Pv n H→R H):
 ∃W:Nat→Nat→Hp→Prop,(∃m,W 0 m H2)∧∀i m H3,W i m H3→((Itr lo n).stop i H3∧R H3)∨
  ((Itr lo n).go i H3∧∃N:Hp→Prop,(∀H',N H'→∃m',m'<m∧W (i+1) m' H')∧∀x H4,(Itr lo n).yld i H3 x H4→g x σ0 H4 λσ5 H5=>tc σ5 H5 λb H6=>
   if b=true then te σ5 H6 (λv H7=>∃vs,H7 D=some (.lst vs)∧vs.length<sizeLine∧N (upd H7 D (.lst (vs++[v]))))else N H6):=
 qDS (Q:=λ_ H=>R H) Pv h0 hs hd
theorem qE7{K:PySem.W.Frag}{H:Hp}{a b:Addr}{ns:List Int}(ha:SqL K H a (ns.map V.int))(hb:SqL K H b (ns.map V.int)):Eqv K H 6 (.ref a) (.ref b):=
 .lst ha hb rfl λj x y hx hy=>by
  obtain rfl:x=y:=kQ (hx.symm.trans hy)
  rw[mD]at hx
  obtain⟨n,_,rfl⟩:=mH.mp hx
  exact .flat rfl
theorem qE8{H H3:Hp}{a:Addr}{u:HO}(ha:H a=some u)(k:∀b o,b≠a→H b=some o→H3 b=some o):Same H (upd H3 a u):=λb o e=>by
 by_cases z:b=a
 ·rw[z,qI,←ha,←z]
  exact e
 ·rw[qD z]
  exact k b o z e
theorem uT{X:Cx}{K:PySem.W.Frag}{e:Expr}{ta:TE}{f:Str}{pos:Pos}(eK:X.K=K)(he:PE X e ta)(hb:attributeBase e f X.env (eval e X.env)=eval e X.env):PE X (.Attribute e f pos) (tFld K ta f):=by
 subst eK
 exact qJ he hb
end L2
namespace L2
open PySem PySem.W PySem.Spec PyProof.Rows
noncomputable def BmIn(base:Heap)(mg:Str→Option Value):Prop:=∃bm o,mg "__builtins__"=some (.ref bm)∧bm≠builtinsNs∧base.get? bm=some o∧o.cls=.type "module"∧o.dict=some builtinsNs∧o.data=.plain
theorem qCI{P:Program}{w:World}{K:PySem.W.Frag}{mg mb:Str→Option Value}{CX:CXT}{k:Nat}{fa a:Addr}{fd:FuncData}{x:Str}{sp:Sp}{s₁:Shared}{vs:List Value}{ns:List Int}(ts:List Addr)
 (KX:K.In s₁.heap) (hts:∀T∈ts,s₁.heap.get? T=some (tabObj #[])∧K.lookup T=none∧∃c,codeHdIn K c T=true) (hns:s₁.heap.Ns mainGlobals mg) (hb:s₁.heap.Ns builtinsNs mb) (hbb:∀x:Str,x≠"__name__"→mb x=bootBuiltins x) (hlim:s₁.heap.NoLimit) (hbm:BmIn s₁.heap mg) (hg:s₁.gens=#[])
 (ha:s₁.heap.get? a=some { cls:=.type "list",data:=.seq vs.toArray }) (hi:IntsAre vs ns) (hl:ns.length≤sizeLine) (hr:Room k callerA)
 (F:∀base:Heap,K.In base→base.Ns mainGlobals mg→BmIn base mg→FnOk P w K mg base CX k fa fd [x] sp) (hbind:∀(s:Shared) (u:Value),BindsTo s fd ⟨[u],[]⟩ [(x,u)])
 (hsp:∀H:Hp,SqL K H a (ns.map V.int)→(∀T∈ts,H T=some (.tbl #[]))→sp [.ref a] H (λv _=>v=.bl true) λ_ _ _=>False)
 (hCX:∀H e s',CX [] H s₁ (λ_ _ _=>False) e s'→False):
 codeAny (model P w) callerA (.call (.ref fa) ⟨[.ref a],[]⟩) (λr s'=>r=.ok (.ret (.bool true))∧OldK s₁.heap s'.heap∧s'.os=s₁.os∧AllBare s'.gens) s₁:=by
 have rv:=q78 hi
 have lenV:=hi.length
 have nat:a∉ts:=λz=>by
  have e:=(hts a z).1
  rw[ha]at e
  cases e
 have core:∀H:Hp,SqL K H a (ns.map V.int)→HOk P w H s₁.heap→(∀b,H b=none∨(b=a∧K.lookup a=none∧∃o xs,H b=some (.frz o (.lst xs)))∨(b∈ts∧H b=some (.tbl #[])))→(∀T∈ts,H T=some (.tbl #[]))→
  codeAny (model P w) callerA (.call (.ref fa) ⟨[.ref a],[]⟩) (λr s'=>r=.ok (.ret (.bool true))∧OldK s₁.heap s'.heap∧s'.os=s₁.os∧AllBare s'.gens) s₁:=by
  intro H hS hok hO hT
  have base_of:∀{b:Addr} {o:Obj},s₁.heap.get? b=some o→H b=none→(hidT s₁.heap H).get? b=some o:=λe n=>q5A e n
  have noA:∀{b:Addr} {o:Obj} {es:Array DictEntry} {ep:Nat},s₁.heap.get? b=some o→o.data=.dict es ep→H b=none:=fun {b o es ep} e d=>by
   rcases hO b with z|⟨rfl,_⟩|⟨z,_⟩
   ·exact z
   ·rw[ha]at e;cases e;cases d
   ·rw[(hts b z).1]at e;cases e;cases d
  have nsK:∀{b:Addr} {m:Str→Option Value},s₁.heap.Ns b m→(hidT s₁.heap H).Ns b m:=fun {b m} ⟨o,es,ep,e,d,r⟩=>⟨o,es,ep,base_of e (noA e d),d,r⟩
  have hKb:K.In (hidT s₁.heap H):=λb o e=>base_of (KX b o e) (by
   rcases hO b with z|⟨rfl,z,_⟩|⟨z,_⟩
   ·exact z
   ·rw[z]at e;cases e
   ·rw[(hts b z).2.1]at e;cases e)
  have hM:Mod K mg (hidT s₁.heap H):=⟨hKb,nsK hns,⟨mb,nsK hb,hbb⟩,let⟨mc,h1,h2⟩:=hlim;⟨mc,nsK h1,h2⟩⟩
  have hB:BmIn (hidT s₁.heap H) mg:=by
   obtain⟨bm,o,b1,b2,b3,b4,b5,b6⟩:=hbm
   refine⟨bm,o,b1,b2,base_of b3 ?_,b4,b5,b6⟩
   rcases hO bm with z|⟨rfl,_⟩|⟨z,_⟩
   ·exact z
   ·rw[ha]at b3;cases b3;exact absurd (Value.type.inj b4) (by decide)
   ·rw[(hts bm z).1]at b3;cases b3;cases b4
  have e0:Env0 P w K mg (hidT s₁.heap H) callerA [] s₁ H:=⟨rfl,hM,λb o e=>qAT e,cL (q6V _ _),trivial,λb hb=>absurd (show b∈([]:List Addr)from hb) (by simp),hok,.of_eq hg⟩
  refine cM ((F _ hKb (nsK hns) hB).run callerA [] s₁ H ⟨[.ref a],[]⟩ [.ref a] [.ref a] _ _ hr e0 (hbind s₁ (.ref a)) (.cons rfl .nil) (hsp H hS hT)) λr s' h=>?_
  cases r with
  |error e=>exact(hCX H e s' h).elim
  |ok fl=>
   cases fl with
   |next=>exact False.elim h
   |brk=>exact False.elim h
   |cont=>exact False.elim h
   |ret u=>
    obtain⟨v,H',os,bare,un,hok',r',q⟩:=h
    have q':v=.bl true:=q
    subst q'
    obtain rfl:u=Value.bool true:=r'
    have kept:∀b o,s₁.heap.get? b=some o→b∉ts→s'.heap.get? b=some o:=λb o e nb=>by
     rcases hO b with z|⟨rfl,_,ob,xs,z⟩|⟨z,_⟩
     ·exact un.keep b o e z (by intro z;exact absurd (show b∈([]:List Addr)from z) (by simp)) (by simp)
     ·have z2:=un.frzs _ ob _ z
      obtain⟨e1,_⟩:=hok _ _ z
      obtain⟨e2,_⟩:=hok' _ _ z2
      rw[e]at e1;cases e1
      exact e2
     ·exact absurd z nb
    refine⟨rfl,⟨λb o e=>?_,λb o e=>?_⟩,os,bare⟩
    ·by_cases nb:b∈ts
     ·obtain⟨g,_,c,hc⟩:=hts b nb
      obtain⟨more,z2⟩:=un.tbls b _ (hT b nb)
      have g2:s'.heap.get? b=some { cls:=.none,data:=.fields (#[]++more) }:=hok' _ _ z2
      rw[g]at e;cases e
      exact .inr (.inl ⟨((codeHd_of_K KX hc).tab g).isCodeTable,rfl,#[],more,rfl,g2⟩)
     ·exact .inl (kept b o e nb)
    ·by_cases nb:b∈ts
     ·obtain⟨more,z2⟩:=un.tbls b _ (hT b nb)
      exact⟨_,hok' _ _ z2⟩
     ·exact⟨o,kept b o e nb⟩
 have tb:∀T∈ts,∀H:Hp,H T=some (.tbl #[])→∀u,H T=some u→jK P w H s₁.heap T u:=λT hT H e u e'=>by
  rw[e]at e';cases e'
  exact(hts T hT).1
 cases hk:K.lookup a with
 |some o=>
  have e:=KX a o hk
  rw[ha]at e
  cases e
  refine core (λb=>if b∈ts then some (.tbl #[])else none) (.inr ⟨_,vs.toArray,_,hk,rfl,rfl,rfl,by rw[mC,lenV];exact hl,by simpa using rv⟩) (λb u z=>?_) (λb=>?_) λT hT=>kI hT
  ·by_cases hb':b∈ts
   ·exact tb b hb' _ (kI hb') u z
   ·have z':=(kF hb').symm.trans z
    cases z'
  ·by_cases hb':b∈ts
   ·exact .inr (.inr ⟨hb',kI hb'⟩)
   ·exact .inl (kF hb')
 |none=>
  refine core (λb=>if b=a then some (.frz { cls:=.type "list",data:=.seq vs.toArray } (.lst (ns.map V.int)))else if b∈ts then some (.tbl #[])else none) (.inl (.inr ⟨{ cls:=.type "list",data:=.seq vs.toArray },kI rfl⟩)) (λb u z=>?_) (λb=>?_) λT hT=>?_
  ·by_cases hb':b=a
   ·have z':=(kI hb').symm.trans z
    cases z'
    subst hb'
    exact⟨ha,by rw[h9];exact hl,vs,_,rv,ha⟩
   ·by_cases hb2:b∈ts
    ·exact tb b hb2 _ ((kF hb').trans (kI hb2)) u z
    ·have z':=((kF hb').trans (kF hb2)).symm.trans z
     cases z'
  ·by_cases hb':b=a
   ·exact .inr (.inl ⟨hb',hk,_,_,kI hb'⟩)
   ·by_cases hb2:b∈ts
    ·exact .inr (.inr ⟨hb2,(kF hb').trans (kI hb2)⟩)
    ·exact .inl ((kF hb').trans (kF hb2))
  ·have:T≠a:=λz=>nat (z▸hT)
   exact(kF this).trans (kI hT)
theorem qE9{l:PySem.W.OpenLaw}{n k:Nat}{q:Program}{loose:List Str}{XP:(Str→Option Value)→Heap→Prop}{YP:World→Heap→Prop}{d:DefRec}{K:Params→PySem.W.Frag}{CX:World→CXT}{sp:World→Sp}{x:Str}(ts:List Addr)
 (hn:l.most=some n) (hn2:n≤sizeLine) (hdf:d.params.defaults=[]) (hr:Room k callerA)
 (hY:∀(w:World) (h:Heap),YP w h→(K w.params).In h∧∀T∈ts,h.get? T=some (tabObj #[])) (hT:∀w:World,∀T∈ts,(K w.params).lookup T=none∧∃c,codeHdIn (K w.params) c T=true)
 (F:∀(w:World) (mg:Str→Option Value) (fa:Addr) (h:Heap),(K w.params).In h→h.Ns mainGlobals mg→mg d.name=some (.ref fa)→
  ∃fd:FuncData,(∀(s:Shared) (u:Value),BindsTo s fd ⟨[u],[]⟩ [(x,u)])∧
   ∀base:Heap,(K w.params).In base→base.Ns mainGlobals mg→BmIn base mg→FnOk l.prog w (K w.params) mg base (CX w) k fa fd [x] (sp w))
 (hsp:∀(w:World) (H:Hp) (a:Addr) (ns:List Int),ns.length≤n→SqL (K w.params) H a (ns.map V.int)→(∀T∈ts,H T=some (.tbl #[]))→sp w [.ref a] H (λv _=>v=.bl true) λ_ _ _=>False)
 (hCX:∀(w:World) (H:Hp) (s:Shared) (e:Value) (s':Shared),CX w [] H s (λ_ _ _=>False) e s'→False):
 PySem.W.WalkO q loose XP YP l.row.toRowW d [] (λf vs=>PySem.call f vs):=by
 refine Att.attach_call hn hdf λw s₀ s₁ mg mb fa o pm cd doc a vs ns G Y ho hd hcd hmg hobj hints hlen hg=>?_
 obtain⟨KX,KT⟩:=hY w _ Y
 obtain⟨fd,hb,hF⟩:=F w mg fa _ KX G.T.g hmg
 exact qCI ts KX (λT h=>⟨KT T h,hT w T h⟩) G.T.g G.T.b G.T.builtins G.T.nolimit (let⟨bm,ob,b1,b2,b3,b4,b5,b6⟩:=G.T.bmain;⟨bm,ob,b1,b2,b3,b4,b5,b6⟩) hg hobj hints (mF hlen hn2) hr hF hb (λH hS hH=>hsp w H a ns hlen hS hH) λH e s'=>hCX w H s₁ e s'
structure FunT(K:PySem.W.Frag)(x qual:Str)(st:Stmt)(c f:Addr)(fd:FuncData):Prop where
 ex:∃(oc:Value) (od:Option Addr) (kV doc pm:Value) (an:Option Addr) (ct:Value) (osl:Array (Option Value)),
  fd=PySem.W.fnOf x qual (yB st) (jP st) (qF st) .none kV doc pm an (.ref c) ct∧K.lookup f=some ⟨oc,od,.func fd,osl⟩∧PySem.W.codeIn K (.ref c) qual=true
section
variable{P:Program}{w:World}{K:PySem.W.Frag}{mg:Str→Option Value}{base:Heap}
theorem FunT.mk'{x qual:Str}{st:Stmt}{c f:Addr}{oc:Value}{od an:Option Addr}{osl:Array (Option Value)}{kV doc pm ct:Value}(l:K.lookup f=some ⟨oc,od,.func (PySem.W.fnOf x qual (yB st) (jP st) (qF st) .none kV doc pm an (.ref c) ct),osl⟩)
 (h:PySem.W.codeIn K (.ref c) qual=true):FunT K x qual st c f (PySem.W.fnOf x qual (yB st) (jP st) (qF st) .none kV doc pm an (.ref c) ct):=⟨⟨oc,od,kV,doc,pm,an,ct,osl,rfl,l,h⟩⟩
theorem FunT.okE{x qual:Str}{st:Stmt}{c f:Addr}{fd:FuncData}{N ps:List Str}{k:Nat}{sp:Sp}(F:FunT K x qual st c f fd)(S:FnScope N ps (qF st))(len:∀vs H Q E,sp vs H Q E→vs.length=ps.length)
 (hbody:∀(A:Around) (outer:List Env) (s:Shared) (H:Hp) (vs:List V) (Q:VK) (E:XK),Room k (A.deeper (envOfC qual (qF st) s.heap.objs.size f (.ref c)))→sp vs H Q E→
  ∃t,PSs (cxOf (CXe P w) P w K mg base N qual (qF st) f (.ref c) A outer s H E) (jP st) t∧t { nx:=λ_ H'=>Q .non H',rt:=Q } (zL N vs) H):FnOk P w K mg base (CXe P w) (k+1) f fd ps sp:=by
 obtain⟨oc,od,kV,doc,pm,an,ct,osl,rfl,lk,hcd⟩:=F.ex
 exact qB1 lk hcd S len λA outer s H vs Q E hr hsp=>hbody A outer s H vs Q E hr hsp
theorem FunT.ok0{x qual:Str}{st:Stmt}{c f:Addr}{fd:FuncData}{N ps:List Str}{k:Nat}{sp:Sp}(F:FunT K x qual st c f fd)(S:FnScope N ps (qF st))
 (hbody:∀(A:Around) (outer:List Env) (s:Shared) (H:Hp) (vs:List V) (Q:VK) (E:XK),Room k (A.deeper (envOfC qual (qF st) s.heap.objs.size f (.ref c)))→sp vs H Q E→
  ∃t,PSs (cxOf CX0 P w K mg base N qual (qF st) f (.ref c) A outer s H E).nox (jP st) t∧t { nx:=λ_ H'=>Q .non H',rt:=Q } (zL N vs) H)(len:∀vs H Q E,sp vs H Q E→vs.length=ps.length:=by intro _ _ _ _ h;(repeat obtain⟨_,h⟩:=h);all_goals subst_vars;rfl):FnOk P w K mg base CX0 (k+1) f fd ps sp:=by
 obtain⟨oc,od,kV,doc,pm,an,ct,osl,rfl,lk,hcd⟩:=F.ex
 refine qB1 lk hcd S len λA outer s H vs Q E hr hsp=>?_
 obtain⟨t,h,q⟩:=hbody A outer s H vs Q E hr hsp
 exact⟨t,h.nox,q⟩
noncomputable def q48(K:PySem.W.Frag)(ts:List Addr):Sp:=λvs H Q _=>∃(a:Addr) (ns:List Int),vs=[.ref a]∧SqL K H a (ns.map V.int)∧ns.length≤63∧(∀T∈ts,H T=some (.tbl #[]))∧∀H',Q (.bl true) H'
end
noncomputable def qKX(K:PySem.W.Frag)(C:Addr):Prop:=PySem.W.findIn K (.ref C) "__class__"=some (some (.builtin "object.__class__"))∧PySem.W.specialIn K (.builtin "object.__class__") "__get__"=some (some (.builtin "getset_descriptor.__get__"))∧PySem.W.takesIn K (.builtin "object.__class__")=some true∧PySem.W.mroIn K C (.type "object")=some true
noncomputable def fnOb(fd:FuncData):Obj:={ cls:=.type "function",data:=.func fd }
noncomputable def fnO(f:Addr)(fd:FuncData):HO:=.ext λh=>h.get? f=some (fnOb fd)
noncomputable def cdO(c:Addr)(q:Str):HO:=.ext λh=>∃o vs t,h.get? c=some o∧o.data=.fields vs∧vs[1]?=some (.str q t)
theorem qEA{P:Program}{w:World}{H:Hp}{h:Heap}{f:Addr}{fd:FuncData}(e:h.get? f=some (fnOb fd)):jK P w H h f (fnO f fd):=⟨e,⟨_,e⟩,λ_ _ a b=>b _ a⟩
theorem qIU{P:Program}{w:World}{H:Hp}{h:Heap}{c:Addr}{q:Str}(e:h.CodeRec (.ref c) q):jK P w H h c (cdO c q):=by
 obtain⟨c',o,vs,t,e0,e1,e2,e3⟩:=e
 cases e0
 exact⟨⟨o,vs,t,e1,e2,e3⟩,⟨_,e1⟩,λ_ _ ⟨o,vs,t,a,b⟩ k=>⟨o,vs,t,k _ a,b⟩⟩
theorem qEB{P:Program}{w:World}{H:Hp}{h:Heap}{f:Addr}{fd:FuncData}(ok:HOk P w H h)(e:H f=some (fnO f fd)):h.get? f=some (fnOb fd):=(ok f _ e).1
theorem qEC{P:Program}{w:World}{H:Hp}{h:Heap}{c:Addr}{q:Str}(ok:HOk P w H h)(e:H c=some (cdO c q)):h.CodeRec (.ref c) q:=
 let⟨o,vs,t,a,b⟩:=(ok c _ e).1
 ⟨c,o,vs,t,rfl,a,b⟩
theorem qIV{CX:CXT}{P:Program}{w:World}{K:PySem.W.Frag}{mg:Str→Option Value}{base:Heap}{k:Nat}{f c:Addr}{name qual:Str}{params:Arguments}{body:Expr}{scope:Scope}{pm ct:Value}{N ps:List Str}{sp:Sp}(S:FnScope N ps scope)
 (len:∀vs H Q E,sp vs H Q E→vs.length=ps.length) (hf:∀vs H Q E,sp vs H Q E→H f=some (fnO f (kla_fn name qual params body scope [] pm (.ref c) ct))∧H c=some (cdO c qual))
 (hbody:∀(A:Around) (outer:List Env) (s:Shared) (H:Hp) (vs:List V) (Q:VK) (E:XK),Room k (A.deeper (envOfC qual scope s.heap.objs.size f (.ref c)))→sp vs H Q E→
  ∃t,PE (cxOf CX P w K mg base N qual scope f (.ref c) A outer s H E) body t∧t (zL N vs) H Q):
 FnOk P w K mg base CX (k+1) f (kla_fn name qual params body scope [] pm (.ref c) ct) ps sp:=by
 refine⟨len,λA outer s H args us vs Q E hr e0 hb r hsp=>?_⟩
 have hl:=len _ _ _ _ hsp
 have KX:K.In s.heap:=e0.mod.kin.keeps λb o e=>(e0.bs b o e).1
 have lim:s.heap.NoLimit:=e0.mod.nolimit.keeps λb o e=>(e0.bs b o e).1
 have hkind:∀y∈ps.zip us,scope.names.lookup y.1=some .local∨(scope.names.lookup y.1=some .cell∧((cellsFrom (s.heap.objs.size+1) scope.names []).lookup y.1).isSome=true):=λ⟨n,v⟩ hy=>by
  rcases S.par n (pH hy).1 with q|q
  ·exact .inl q
  ·exact .inr ⟨q,cN _ _ _ (.inl q)⟩
 obtain⟨hf1,hc1⟩:=hf _ _ _ _ hsp
 refine kla_callFunE hr.depth (qEB e0.hok hf1) rfl S.co S.gen rfl (qEC e0.hok hc1) (hb _ _ _ _ ?_)
 refine wpAny_newFunctionEnv_cells S.kind hkind λenv he s1 x=>?_
 subst he
 refine⟨lim.keeps x.toInCall.keep,kla_codeExpr ?_⟩
 obtain⟨t,ht,hq⟩:=hbody A outer s H vs Q E (hr.deeper _) hsp
 have I:Inv (cxOf CX P w K mg base N qual scope f (.ref c) A outer s H E) [] (zL N vs) H s1:=q74 S hr.hd e0 hl r x
 exact dB (ht [] s1 (zL N vs) H _ I hq) (λu s' ⟨v,H',J,rv,q⟩=>⟨v,H',J.os,J.bare,J.base,J.hok,rv,q⟩) λe s' hs=>hs
noncomputable def vG(base:Heap)(cs:List Addr):Hp:=λb=>if(base.get? b).isSome=true∨b∈cs then none else some (.lst [])
theorem q1K{h base base':Heap}:∀{l:List Env},h.FunFrames base l→(∀L∈frs l,base.get? L=none→base'.get? L=none)→h.FunFrames base' l
 | [],_,_=>trivial
 |env::r,⟨hk,⟨L,o,hf,hn,ho,hd⟩,hr⟩,k=>by
  have hL:L∈frs (env::r):=by unfold frs;rw[rZ,hf];exact kW
  exact⟨hk,⟨L,o,hf,k L hL hn,ho,hd⟩,q1K hr λb hb=>k b (by
   unfold frs;rw[rZ,hf];exact hX _ hb)⟩
theorem Inv.env0C{X:Cx}{pins:List (Addr×Obj)}{σ:St}{H:Hp}{s:Shared}(I:Inv X pins σ H s)(cs:List Addr)(hcs:∀c∈cs,∃x,X.fn x=true∧X.env.cells.lookup x=some c):
 Env0 X.prog X.w X.K X.mg (hidT s.heap (vG X.base cs)) X.A X.stack s H∧(∀b o,X.base.get? b=some o→(hidT s.heap (vG X.base cs)).get? b=some o)∧∀c∈cs,∀o,s.heap.get? c=some o→(hidT s.heap (vG X.base cs)).get? c=some o:=by
 have up:∀b o,X.base.get? b=some o→(hidT s.heap (vG X.base cs)).get? b=some o:=λb o e=>q5A (I.bk b o e) (kI (.inl (by rw[e];rfl)))
 have inv:∀{b:Addr} {o:Obj},(hidT s.heap (vG X.base cs)).get? b=some o→s.heap.get? b=some o∧((∃o',X.base.get? b=some o')∨b∈cs):=fun {b o} e=>by
  obtain⟨e1,n⟩:=qAT e
  refine⟨e1,?_⟩
  by_cases z:(X.base.get? b).isSome=true∨b∈cs
  ·rcases z with z|z
   ·exact .inl (cA.mp z)
   ·exact .inr z
  ·rw[show vG X.base cs b=some (.lst [])from kF z]at n
   cases n
 obtain⟨mb,hb1,hb2⟩:=I.ok.mod.blt
 refine⟨⟨I.ok.frames,⟨I.ok.mod.kin.keeps up,I.ok.mod.glob.keeps up,⟨mb,hb1.keeps up,hb2⟩,I.ok.mod.nolimit.keeps up⟩,λb o e=>?_,by rw[q6V];exact kM _,q1K I.stack λL hL n=>?_,I.stkFree,I.hok,I.bare⟩,up,λc hc o e=>q5A e (kI (.inr hc))⟩
 ·obtain⟨e1,z⟩:=inv e
  rcases z with⟨o',z⟩|z
  ·exact⟨e1,(I.bs b o' z).2⟩
  ·obtain⟨x,_,hx⟩:=hcs b z
   exact⟨e1,I.freeC x b hx⟩
 ·cases e:(hidT s.heap (vG X.base cs)).get? L with
  |none=>rfl
  |some o=>
   obtain⟨e1,z⟩:=inv e
   rcases z with⟨o',z⟩|z
   ·rw[n]at z;cases z
   ·obtain⟨x,hf,hx⟩:=hcs L z
    rcases kL.mp (I.stkSub L hL)with y|y
    ·exact absurd y (I.cne x L hx)
    ·obtain⟨_,o2,ho,_⟩:=I.ok.funs.mem y
     exact absurd (kX ho) (Nat.not_lt.mpr (I.ok.cab x L hf hx))
noncomputable def q1L(cells:List (Str×Addr))(σ:St)(base':Heap)(ix:List (Nat×Str)):Prop:=∀p∈ix,∀v,σ[p.1]?=some (some v)→∃c u,cells.lookup p.2=some c∧RelV v u∧base'.IsCell c (some u)
noncomputable def qKD(T:Addr)(pos:Pos)(qual:Str)(params:Arguments)(body:Expr)(scope:Scope)(clos:List (Str×Addr))(pm:Value):TE:=λσ H Q=>∃ps,H T=some (.tbl ps)∧TriplesOk ps.toList∧codeAmong pos ps.toList=none∧
 ∀(f c':Addr) (ctv:Value),H f=none→H c'=none→f≠c'→Q (.ref f) (upd (upd (upd H T (.tbl (ps++#[rawInt pos.line,rawInt pos.col,.ref c']))) c' (cdO c' qual)) f (fnO f (kla_fn "<lambda>" qual params body scope clos pm (.ref c') ctv)))
theorem qG3{X:Cx}{c T:Addr}{params:Arguments}{body:Expr}{scope:Scope}{pos:Pos}{clos:List (Str×Addr)}(hcode:X.env.code=.ref c)(hcd:codeHdIn X.K c T=true)(B:BmIn X.base X.mg)(hcl:closureFor scope X.env=pure clos)(hdef:defaultsOf params X.env=([],[])):
 PE X (.Lambda params body scope pos) (qKD T pos (X.env.qual++"<lambda>") params body scope clos ((X.mg "__name__").getD .none)):=by
 intro pins s σ H Q I hZ
 obtain⟨ps,hT,ht,hnf,q⟩:=hZ
 have hP:s.heap.get? T=some (tabObj ps):=I.hok T _ hT
 have hgs:s.heap.Ns mainGlobals X.mg:=I.ok.mod.glob.keeps I.bk
 obtain⟨bm,ob,b1,b2,b3,b4,b5,b6⟩:=B
 have b3':=I.bk _ _ b3
 have hgP:mainGlobals≠T:=λz=>by
  obtain⟨o,es,ep,e,hd,_⟩:=hgs
  rw[z,hP]at e;cases e;cases hd
 have hbP:bm≠T:=λz=>by rw[z,hP]at b3';cases b3';cases b4
 have hbG:bm≠mainGlobals:=λz=>by
  obtain⟨o,es,ep,e,hd,_⟩:=hgs
  rw[z,e]at b3';cases b3';rw[hd]at b6;cases b6
 refine kla_eval hdef (kla_makeFunction (clos:=clos) hcl I.ok.glob hgs hcode (codeHd_of_K I.kIn hcd) hP ht hnf hgP ⟨bm,ob,b1,b2,hbG,hbP,b3',b4,b5,b6⟩ λc' ctv h' tk hx hge hlt hrec htb=>?_)
 have trk:∀b u,s.heap.get? b=some u→b≠T→∀o,(h'.push o).get? b=some u:=λb u e n o=>kC _ (hx b u n e)
 have sz:s.heap.objs.size≤h'.objs.size:=mF hge (pP hlt)
 have nF:H h'.objs.size=none:=I.hok.fresh sz
 have nC:H c'=none:=I.hok.fresh hge
 have fc:h'.objs.size≠c':=rG hlt
 have other:∀{b:Addr},b≠T→b≠c'→b≠h'.objs.size→∀u:HO,(upd (upd (upd H T (.tbl (ps++#[rawInt pos.line,rawInt pos.col,.ref c']))) c' (cdO c' (X.env.qual++"<lambda>"))) h'.objs.size (fnO h'.objs.size (kla_fn "<lambda>" (X.env.qual++"<lambda>") params body scope clos ((X.mg "__name__").getD .none) (.ref c') ctv))) b=H b:=fun {b} z1 z2 z3 _=>by
  rw[qD z3,qD z2,qD z1]
 refine⟨.ref h'.objs.size,_,?_,rfl,q _ c' ctv nF nC fc⟩
 refine I.un (t':=tk) ⟨λb o e n _ _=>trk b o e (qH hT n).symm _,λb o e n _ _=>⟨o.slots,trk b o e (qH hT n).symm _⟩,λb o e n _=>?_,λb o e _=>?_,λb xs e=>?_,λb o u e=>?_,λb qs e=>?_⟩ λb u e=>?_
 ·have hb:b<s.heap.objs.size:=kX e
  rw[other (qH hT n).symm (mL (mY hb hge)) (mL (mY hb sz)) (.lst [])]
  exact n
 ·by_cases z:b=T
  ·subst z;exact⟨_,kC _ htb⟩
  ·exact⟨o,trk b o e z _⟩
 ·rw[other (λz=>by rw[z,hT]at e;cases e) (qH e nC) (qH e nF) (.lst [])];exact e
 ·rw[other (λz=>by rw[z,hT]at e;cases e) (qH e nC) (qH e nF) (.lst [])];exact e
 ·by_cases z:b=T
  ·subst z
   rw[hT]at e;cases e
   refine⟨#[rawInt pos.line,rawInt pos.col,.ref c'],?_⟩
   rw[qD (qH hT nF),qD (qH hT nC)]
   exact qI
  ·exact⟨#[],by rw[other z (qH e nC) (qH e nF) (.lst []),e];simp⟩
 ·by_cases z3:b=h'.objs.size
  ·subst z3
   rw[qI]at e;cases e
   exact qEA (mI _ rfl)
  ·by_cases z2:b=c'
   ·subst z2
    rw[qD z3,qI]at e;cases e
    exact qIU (hrec.push _)
   ·by_cases z:b=T
    ·subst z
     rw[qD z3,qD z2,qI]at e;cases e
     exact kC _ htb
    ·rw[other z z2 z3 (.lst [])]at e
     refine(I.hok b u e).stay (λd v hd r=>trk d v r (λy=>?_) _) (λd r=>?_) λd xs r=>?_
     ·rcases hd with hd|hd
      ·exact z (hd▸y)
      ·rw[y,hT]at hd;cases hd
     ·rw[other (λy=>by rw[y,hT]at r;cases r) (qH r nC) (qH r nF) (.lst [])];exact r
     ·rw[other (λy=>by rw[y,hT]at r;cases r) (qH r nC) (qH r nF) (.lst [])];exact r
noncomputable abbrev envL(qual:Str)(scope:Scope)(clos:List (Str×Addr))(L f:Addr)(cd:Value):Env:=newEnv scope L mainGlobals clos (qual++".<locals>.") (some f) cd none builtinsNs
noncomputable def qED(CX:CXT)(P:Program)(w:World)(K:PySem.W.Frag)(mg:Str→Option Value)(base:Heap)(N:List Str)(qual:Str)(scope:Scope)(clos:List (Str×Addr))(f:Addr)(cd:Value)(A:Around)(outer:List Env)(s:Shared)(H:Hp)(E:XK):Cx where
 prog:=P
 w:=w
 K:=K
 mg:=mg
 base:=base
 A:=A.deeper (envL qual scope clos s.heap.objs.size f cd)
 N:=N
 s₀:=s
 H₀:=H
 env:=envL qual scope clos s.heap.objs.size f cd
 outer:=outer
 stack:=envL qual scope clos s.heap.objs.size f cd::outer
 ex:=[]
 calm:=true
 fn:=λ_=>false
 pn:=[]
 xe:=λe s'=>wpAny (model P w) (A.deeper (envL qual scope clos s.heap.objs.size f cd)) (leaving (envL qual scope clos s.heap.objs.size f cd) e) (λ_ s''=>CX outer H s E e s'') (λe' s''=>CX outer H s E e' s'') s'
structure LamSc(scope:Scope)(x0:Str)(clos:List (Str×Addr))(fvs:List V)(base:Heap):Prop where
 kind:scope.kind=.function
 co:scope.isCoroutine=false
 gen:scope.isGenerator=false
 par:scope.names.lookup x0=some .local
 nocell:∀y∈scope.names,y.2≠ .cell
 free:∀y,scope.names.lookup y=some .free→∃c,clos.lookup y=some c
 inj:∀x y c,clos.lookup x=some c→clos.lookup y=some c→x=y
 at':∀(j:Nat) (x:Str) (c:Addr),clos[j]?=some (x,c)→scope.names.lookup x=some .free∧clos.lookup x=some c∧∃v u,fvs[j]?=some v∧RelV v u∧base.IsCell c (some u)
 len:fvs.length=clos.length
theorem qG4{CX:CXT}{P:Program}{w:World}{K:PySem.W.Frag}{mg:Str→Option Value}{base:Heap}{k:Nat}{f c:Addr}{name qual:Str}{params:Arguments}{body:Expr}{scope:Scope}{pm ct:Value}{x0:Str}{clos:List (Str×Addr)}{fvs:List V}{sp:Sp}(S:LamSc scope x0 clos fvs base)
 (len:∀vs H Q E,sp vs H Q E→vs.length=1) (hf:∀vs H Q E,sp vs H Q E→H f=some (fnO f (kla_fn name qual params body scope clos pm (.ref c) ct))∧H c=some (cdO c qual))
 (hbody:∀(A:Around) (outer:List Env) (s:Shared) (H:Hp) (v0:V) (Q:VK) (E:XK),Room k (A.deeper (envL qual scope clos s.heap.objs.size f (.ref c)))→sp [v0] H Q E→
  ∃t,PE (qED CX P w K mg base (x0::clos.map (·.1)) qual scope clos f (.ref c) A outer s H E) body t∧t (some v0::fvs.map some) H Q):
 FnOk P w K mg base CX (k+1) f (kla_fn name qual params body scope clos pm (.ref c) ct) [x0] sp:=by
 refine⟨len,λA outer s H args us vs Q E hr e0 hb r hsp=>?_⟩
 have hl:=len _ _ _ _ hsp
 obtain⟨v0,rfl⟩:∃v0,vs=[v0]:=match vs,hl with| [v],_=>⟨v,rfl⟩
 obtain⟨u0,rfl,r0⟩:=q15 r
 have lim:s.heap.NoLimit:=e0.mod.nolimit.keeps λb o e=>(e0.bs b o e).1
 obtain⟨hf1,hc1⟩:=hf _ _ _ _ hsp
 refine kla_callFunE hr.depth (qEB e0.hok hf1) rfl S.co S.gen rfl (qEC e0.hok hc1) (hb _ _ _ _ ?_)
 refine pE S.nocell (λy hy=>?_) (λh' hn hs=>?_) S.kind
 ·obtain rfl:y=(x0,u0):=by simpa using hy
  exact S.par
 have hk:∀b o,s.heap.get? b=some o→h'.get? b=some o:=λb o e=>by
  have:=hs.2 b (mL (kX e))
  rw[this]
  exact kC _ e
 refine⟨lim.keeps hk,kla_codeExpr ?_⟩
 obtain⟨t,ht,hq⟩:=hbody A outer s H v0 Q E (hr.deeper _) hsp
 have noA:∀b:Addr,b∉(qED CX P w K mg base (x0::clos.map (·.1)) qual scope clos f (.ref c) A outer s H E).ex:=λb z=>absurd (show b∈([]:List Addr)from z) (by simp)
 have cat:∀y d,clos.lookup y=some d→∃u,base.IsCell d (some u):=λy d e=>by
  obtain⟨j,hj,ej⟩:=dM (gN e)
  obtain⟨_,_,v,u,_,_,hu⟩:=S.at' j y d (kE.mpr ⟨hj,ej⟩)
  exact⟨u,hu⟩
 have I:Inv (qED CX P w K mg base (x0::clos.map (·.1)) qual scope clos f (.ref c) A outer s H E) [] (some v0::fvs.map some) H { s with heap:=h',toks:=s.toks + [(x0,u0)].length }:=by
  refine⟨⟨e0.mod,S.kind,rfl,rfl,kM _,S.inj,λy hy=>?_,λy c z _=>absurd (show false=true from z) (by decide),λ_=>hr.hd,Around.frames_deeper e0.frames,.inr ⟨rfl,rfl⟩,λb z=>absurd z (noA b),e0.bs,e0.bsz,λb _ _=>noA b,λb z=>absurd z (noA b),e0.funs,e0.frf⟩,
   rfl,e0.bare,Un.kept hk,⟨_,hn,λi y v h1 h2 h3=>?_⟩,λy d e=>?_,e0.hok.fresh (kM _),λy d e=>?_,λp hp=>absurd (show p∈([]:List (Addr×Obj))from hp) (by simp),e0.hok.kept hk,?_⟩
  ·have hy:scope.names.lookup y=some .cell∨scope.names.lookup y=some .free:=hy
   rcases hy with hy|hy
   ·exact absurd rfl (S.nocell _ (gN hy))
   ·exact S.free y hy
  ·cases i with
   |zero=>
    obtain rfl:=kQ h1
    obtain rfl:=kQ (kQ h2)
    refine⟨u0,r0,.inl ⟨S.par,?_⟩⟩
    show([(x0,u0)]:List (Str×Value)).reverse.lookup x0=some u0
    simp
   |succ j=>
    have h1:(clos.map (·.1))[j]?=some y:=h1
    have h2:(fvs.map some)[j]?=some (some v):=h2
    rw[mD]at h1 h2
    obtain⟨⟨y',d⟩,hd,rfl⟩:=mH.mp h1
    obtain⟨v',hv,ev⟩:=mH.mp h2
    obtain rfl:=kQ ev
    obtain⟨a1,a2,v2,u,a3,a4,a5⟩:=S.at' j _ d hd
    rw[hv]at a3
    obtain rfl:=kQ a3
    exact⟨u,a4,.inr ⟨.inr a1,d,a2,a5.keeps λb o e=>hk b o (e0.bs b o e).1⟩⟩
  ·obtain⟨u,hu⟩:=cat y d e
   exact⟨_,hu.keeps λb o e=>hk b o (e0.bs b o e).1⟩
  ·obtain⟨u,o,ho,_⟩:=cat y d e
   exact(e0.bs _ _ ho).2
  ·show(some v0::fvs.map some).length=(x0::clos.map (·.1)).length
   rw[mG,mG,h9,h9,S.len]
 exact dB (ht [] _ _ H _ I hq) (λu s' ⟨v,H',J,rv,q⟩=>⟨v,H',J.os,J.bare,J.base,J.hok,rv,q⟩) λe s' hs=>hs
theorem qG5{scope:Scope}{env:Env}(h:(scope.names.all λy=>decide (y.2≠ .free)||(env.cells.lookup y.1).isSome)=true):closureFor scope env=pure (clOf env scope.names []):=
 q30 λy hy hf=>by
  have q:=dX.mp h y hy
  rw[wJ,kU]at q
  rcases q with q|q
  ·exact absurd hf q
  ·exact cA.mp q
theorem qCJ{scope:Scope}{x0 y:Str}{ca:Addr}{v:V}{u:Value}{base:Heap}(hk:scope.kind=.function)(hco:scope.isCoroutine=false)(hg:scope.isGenerator=false)(hp:scope.names.lookup x0=some .local)
 (hn:(scope.names.all λz=>decide (z.2≠ .cell)&&(decide (z.2≠ .free)||decide (z.1=y)))=true) (hf:scope.names.lookup y=some .free) (r:RelV v u) (hc:base.IsCell ca (some u)):LamSc scope x0 [(y,ca)] [v] base:=by
 have at1:∀z∈scope.names,z.2≠ .cell∧(z.2≠ .free∨z.1=y):=λz hz=>by
  have q:=dX.mp hn z hz
  rw[mR,wJ,kU,kU,kU]at q
  exact q
 have lk:([(y,ca)]:List (Str×Addr)).lookup y=some ca:=by simp
 have one:∀x c,([(y,ca)]:List (Str×Addr)).lookup x=some c→x=y∧c=ca:=λx c e=>by
  have m:=gN e
  simpa using m
 refine⟨hk,hco,hg,hp,λz hz=>(at1 z hz).1,λz hz=>?_,λa b c h1 h2=>?_,λj x c h=>?_,rfl⟩
 ·have m:=(at1 _ (gN hz)).2
  rcases m with m|m
  ·exact absurd rfl m
  ·exact⟨ca,by rw[show z=y from m];exact lk⟩
 ·rw[(one _ _ h1).1,(one _ _ h2).1]
 ·match j,h with
  |0,h=>
   obtain⟨rfl,rfl⟩:y=x∧ca=c:=by simpa using h
   exact⟨hf,lk,v,u,rfl,r,hc⟩
  |j+1,h=>exact absurd h (by simp)
theorem q9I{env:Env}{names:List (Str×NameKind)}{y:Str}{ca:Addr}(e:env.cells.lookup y=some ca)(h:clOf env names []=match env.cells.lookup y with|some a=>[(y,a)] |none=>[]):clOf env names []=[(y,ca)]:=by
 rw[h,e]
noncomputable def qIW(T:Addr)(pos:Pos)(qual:Str)(params:Arguments)(body:Expr)(scope:Scope)(clos:List (Str×Addr))(pm:Value):TE:=λσ H Q=>∃ps c',H T=some (.tbl ps)∧TriplesOk ps.toList∧codeAmong pos ps.toList=some (.ref c')∧
 ∀(f:Addr) (ctv:Value),H f=none→Q (.ref f) (upd H f (fnO f (kla_fn "<lambda>" qual params body scope clos pm (.ref c') ctv)))
theorem qEE{X:Cx}{c T:Addr}{params:Arguments}{body:Expr}{scope:Scope}{pos:Pos}{clos:List (Str×Addr)}(hcode:X.env.code=.ref c)(hcd:codeHdIn X.K c T=true)(B:BmIn X.base X.mg)(hcl:closureFor scope X.env=pure clos)(hdef:defaultsOf params X.env=([],[])):
 PE X (.Lambda params body scope pos) (qIW T pos (X.env.qual++"<lambda>") params body scope clos ((X.mg "__name__").getD .none)):=by
 intro pins s σ H Q I hZ
 obtain⟨ps,c',hT,ht,hnf,q⟩:=hZ
 have hP:s.heap.get? T=some (tabObj ps):=I.hok T _ hT
 have hgs:s.heap.Ns mainGlobals X.mg:=I.ok.mod.glob.keeps I.bk
 obtain⟨bm,ob,b1,b2,b3,b4,b5,b6⟩:=B
 have b3':=I.bk _ _ b3
 have hbP:bm≠T:=λz=>by rw[z,hP]at b3';cases b3';cases b4
 have hbG:bm≠mainGlobals:=λz=>by
  obtain⟨o,es,ep,e,hd,_⟩:=hgs
  rw[z,e]at b3';cases b3';rw[hd]at b6;cases b6
 refine kla_eval hdef (kla_makeFunctionHit (clos:=clos) hcl I.ok.glob hgs hcode (codeHd_of_K I.kIn hcd) hP ht hnf ⟨bm,ob,b1,b2,hbG,hbP,b3',b4,b5,b6⟩ λctv h' tk hx sz=>?_)
 have trk:∀b u,s.heap.get? b=some u→∀o,(h'.push o).get? b=some u:=λb u e o=>kC _ (hx b u e)
 have nF:H h'.objs.size=none:=I.hok.fresh sz
 refine⟨.ref h'.objs.size,_,?_,rfl,q _ ctv nF⟩
 refine I.un (t':=tk) ⟨λb o e n _ _=>trk b o e _,λb o e n _ _=>⟨o.slots,trk b o e _⟩,λb o e n _=>?_,λb o e _=>⟨o,trk b o e _⟩,λb xs e=>?_,λb o u e=>?_,λb qs e=>?_⟩ λb u e=>?_
 ·rw[qD (mL (mY (kX e) sz))]
  exact n
 ·rw[qD (qH e nF)];exact e
 ·rw[qD (qH e nF)];exact e
 ·exact⟨#[],by rw[qD (qH e nF),e];simp⟩
 ·by_cases z3:b=h'.objs.size
  ·subst z3
   rw[qI]at e;cases e
   exact qEA (mI _ rfl)
  ·rw[qD z3]at e
   refine(I.hok b u e).stay (λd v hd r=>trk d v r _) (λd r=>?_) λd xs r=>?_
   ·rw[qD (qH r nF)];exact r
   ·rw[qD (qH r nF)];exact r
noncomputable def qKE(T:Addr)(pos:Pos)(qual:Str)(params:Arguments)(body:Expr)(scope:Scope)(clos:List (Str×Addr))(pm:Value):TE:=λσ H Q=>∃ps,H T=some (.tbl ps)∧TriplesOk ps.toList∧
 ((codeAmong pos ps.toList=none∧∀(f c':Addr) (ctv:Value) (H':Hp),H f=none→H' f=some (fnO f (kla_fn "<lambda>" qual params body scope clos pm (.ref c') ctv))→H' c'=some (cdO c' qual)→H' T=some (.tbl (ps++#[rawInt pos.line,rawInt pos.col,.ref c']))→(∀b o,b≠T→H b=some o→H' b=some o)→Q (.ref f) H')∨
  ∃c',codeAmong pos ps.toList=some (.ref c')∧∀(f:Addr) (ctv:Value) (H':Hp),H f=none→H' f=some (fnO f (kla_fn "<lambda>" qual params body scope clos pm (.ref c') ctv))→Same H H'→Q (.ref f) H')
theorem qBH{X:Cx}{c T:Addr}{params:Arguments}{body:Expr}{scope:Scope}{pos:Pos}{clos:List (Str×Addr)}(hcode:X.env.code=.ref c)(hcd:codeHdIn X.K c T=true)(B:BmIn X.base X.mg)(hcl:closureFor scope X.env=pure clos)(hdef:defaultsOf params X.env=([],[])):
 PE X (.Lambda params body scope pos) (qKE T pos (X.env.qual++"<lambda>") params body scope clos ((X.mg "__name__").getD .none)):=λpins s σ H Q I ⟨ps,hT,ht,h⟩=>by
 rcases h with⟨hn,q⟩|⟨c',hn,q⟩
 ·exact qG3 hcode hcd B hcl hdef pins s σ H Q I ⟨ps,hT,ht,hn,λf c' ctv nf nc fc=>q f c' ctv _ nf qI (by rw[qD fc.symm];exact qI) (by rw[qD (qH hT nf),qD (qH hT nc)];exact qI) λb o nb e=>by rw[qD (qH e nf),qD (qH e nc),qD nb];exact e⟩
 ·exact qEE hcode hcd B hcl hdef pins s σ H Q I ⟨ps,c',hT,ht,hn,λf ctv nf=>q f ctv _ nf qI (Same.upd nf)⟩
theorem qBI{X:Cx}{CX:CXT}{k:Nat}{f:Addr}{fd:FuncData}{ps:List Str}{sp:Heap→Sp}{dvs:List V}{ds:List Value}{E:XK}{pins:List (Addr×Obj)}{σ:St}{H:Hp}{s:Shared}{Q:VK}{us:List Value}{vs:List V}(ix:List (Nat×Str))
 (hix:∀p∈ix,X.N[p.1]?=some p.2∧X.env.scope.names.lookup p.2=some .cell∧X.fn p.2=true)
 (F:∀base',(∀b o,X.base.get? b=some o→base'.get? b=some o)→q1L X.env.cells σ base' ix→FnOk X.prog X.w X.K X.mg base' CX k f fd ps (sp base')) (hr:Room k X.A) (hb:jS X.K fd ps ds) (hd:Vals dvs ds) (hx:q0O CX X E)
 (I:Inv X pins σ H s) (r:Vals vs us) (h:∀base',(∀b o,X.base.get? b=some o→base'.get? b=some o)→q1L X.env.cells σ base' ix→sp base' (vs++dvs) H Q E):wpAny (model X.prog X.w) X.A (call (.ref f) us) (EP X pins σ Q) X.xe s:=by
 have r2:Vals (vs++dvs) (us++ds):=r.append hd
 obtain⟨e0,up,cel⟩:=I.env0C (ix.filterMap λp=>X.env.cells.lookup p.2) (λc hc=>by
  obtain⟨p,hp,e⟩:=wE.mp hc
  exact⟨p.2,(hix p hp).2.2,e⟩)
 have cv:q1L X.env.cells σ (hidT s.heap (vG X.base (ix.filterMap λp=>X.env.cells.lookup p.2))) ix:=λp hp v hv=>by
  obtain⟨h1,h2,h3⟩:=hix p hp
  obtain⟨m,_,hl⟩:=I.loc
  obtain⟨u,ru,lk⟩:=hl p.1 p.2 v h1 hv (.inr (.inl h2))
  rcases lk with⟨z,_⟩|⟨_,c,hc,o,ho,hd⟩
  ·have z:X.env.scope.names.lookup p.2=some .local:=z
   rw[h2]at z;cases z
  ·exact⟨c,u,hc,ru,o,cel c (wE.mpr ⟨p,hp,hc⟩) o ho,hd⟩
 have q:=h _ up cv
 have hl:(us++ds).length=ps.length:=by rw[←r2.length];exact(F _ up cv).len _ _ _ _ q
 refine cF (cM ((F _ up cv).run X.A X.stack s H ⟨us,[]⟩ (us++ds) (vs++dvs) Q E hr e0 (hb s us I.kIn hl) r2 q) λr s' hq=>?_)
 cases r with
 |error e=>exact hx pins σ H s e s' I hq
 |ok fl=>
  cases fl with
  |ret u=>exact I.after hq
  |next=>exact False.elim hq
  |brk=>exact False.elim hq
  |cont=>exact False.elim hq
section
variable{X:Cx}{pins:List (Addr×Obj)}{σ:St}{H:Hp}{s:Shared}
theorem qCK{P:PySem.Fin→Shared→Prop}{EE:Value→Shared→Prop}{a f:Addr}{n:Nat}{vs:List Value}{us:List V}(I:Inv X pins σ H s)
 (ho:s.heap.get? a=some (seqObj "list" vs.toArray n)) (fa:FpOk X pins H a) (ha:X.s₀.heap.objs.size≤a) (rv:Vals us vs) (h64:us.length<64)
 (Pv:Nat→List V→Hp→Prop) (h0:Pv 0 [] H) (hs:∀i x zs H' pins' s' u,us[i]?=some x→RelV x u→Pv i zs H'→Inv { X with A:=X.A.in1.in1,xe:=λ_ _=>False } pins' σ H' s'→wpAny (model X.prog X.w) X.A.in1.in1 (call (.ref f) [u]) (EP { X with A:=X.A.in1.in1,xe:=λ_ _=>False } pins' σ (λz H''=>Pv (i+1) (zs++[z]) H'')) (λ_ _=>False) s')
 (hd:∀zs H',H' a=none→zs.length=us.length→Pv us.length zs H'→∃kk m,Paired (TupI X.K H') zs kk∧(∀k∈kk,k.length=m)∧0<m∧∀q:List Nat,q.Perm (List.range us.length)→(q.map λi=>kk.getD i []).Pairwise (λa b=>lx b a=false)→∀s',Inv X pins σ (upd H' a (.lst (q.map λi=>us.getD i .non))) s'→P (.done (.ret .none)) s'):
 wpAny (model X.prog X.w) X.A.in1.in1 (ksk_tree a (.ref f) false) P EE s:=by
 have hal:a<s.heap.objs.size:=kX ho
 have hl:=rv.length
 obtain⟨e1,g1⟩:∃e1,(s.heap.update a (Obj.mapSeq λ_=>(#[]:Array Value))).get? a=some (seqObj "list" #[] e1):=⟨_,wK ho λ_=>#[]⟩
 unfold ksk_tree
 refine kB (listItems_at ho rfl (kB (wO ho rfl (kB (seqEpoch_at g1 rfl ?_)) (by rw[mC,gM];omega) (mO _))))
 refine kB (wpAny_newTuple (kB (cD (gK ?_) (mO _))) (by show vs.length≤_;rw[gM];omega))
 have hks:((s.heap.update a (Obj.mapSeq λ_=>(#[]:Array Value))).push (seqObj "tuple" vs.toArray 0)).objs.size=s.heap.objs.size+1:=by rw[size_push',Heap.size_update]
 obtain⟨kS,eks⟩:∃kS:Addr,kS=((s.heap.update a (Obj.mapSeq λ_=>(#[]:Array Value))).push (seqObj "tuple" vs.toArray 0)).objs.size:=⟨_,rfl⟩
 have ksz:s.heap.objs.size≤kS:=by rw[eks,hks];exact dE _
 have ne:kS≠a:=rG (mY hal ksz)
 show wpAny (model X.prog X.w) X.A.in1.in1 (ksk_rest a (.ref f) false vs.toArray e1 (.ref ((s.heap.update a (Obj.mapSeq λ_=>(#[]:Array Value))).push (seqObj "tuple" vs.toArray 0)).objs.size)) P EE { s with heap:=((s.heap.update a (Obj.mapSeq λ_=>(#[]:Array Value))).push (seqObj "tuple" vs.toArray 0)).push (seqObj "list" #[] 0) }
 rw[←eks]
 have gk0:(((s.heap.update a (Obj.mapSeq λ_=>(#[]:Array Value))).push (seqObj "tuple" vs.toArray 0)).push (seqObj "list" #[] 0)).get? kS=some (seqObj "list" #[] 0):=by rw[eks];exact mI _ rfl
 have ga0:=kC (seqObj "list" #[] 0) (kC (seqObj "tuple" vs.toArray 0) g1)
 have I0:Inv X pins σ H { s with heap:=((s.heap.update a (Obj.mapSeq λ_=>(#[]:Array Value))).push (seqObj "tuple" vs.toArray 0)).push (seqObj "list" #[] 0),toks:=s.toks }:=
  I.turnedN (fp:=[a]) (λb o hb' e=>kC _ (kC _ ((kY _ _ (λz=>hb' (hV.mpr z.symm))).trans e))) (λb hb'=>by rw[hV.mp hb'];exact fa)
 have fk0:FpOk X pins H kS:=I.fpOk ksz (I.hok.fresh ksz)
 have fp:∀{H':Hp} {b:Addr},FpOk X pins H b→H' b=none→FpOk X pins H' b:=λf e=>⟨e,f.2⟩
 unfold ksk_rest
 refine kB (wpAny_rule ?_)
 first
  |rw[List.forIn_toArray]
  |(rw[←Array.forIn_toList];simp only[List.toList_toArray])
 refine kB (ksk_fold (I:=λi s'=>∃H' zs ks e,Inv X pins σ H' s'∧s'.heap.get? a=some (seqObj "list" #[] e1)∧s'.heap.get? kS=some (seqObj "list" (List.toArray ks) e)∧Vals zs ks∧zs.length=i∧Pv i zs H'∧H' a=none∧H' kS=none) vs 0 _ ⟨H,[],[],0,I0,ga0,gk0,.nil,rfl,h0,fa.1,fk0.1⟩ (λj x s' hx hJ=>?_) λs' hJ=>?_)
 ·obtain⟨H',zs,ks,e,I1,ga,gk,rz,lz,pv,na,nk⟩:=hJ
  rw[sJ]at lz pv ⊢
  have hj:j<vs.length:=(kE.mp hx).1
  obtain⟨y,ey,ry⟩:=rv.atN (j:=j) hj
  obtain rfl:vs[j]=x:=(kE.mp hx).2
  have I2:=(I1.near (A':=X.A.in1.in1) rfl rfl λ_ _=>False).pinned (fp:=[a,kS]) (λb hb'=>by
   simp only[kL,gY,cC]at hb'
   rcases hb' with rfl|rfl
   ·exact fp fa na
   ·exact fp fk0 nk) (λb hb'=>by
   simp only[kL,gY,cC]at hb'
   rcases hb' with rfl|rfl
   ·exact⟨_,ga,λv z=>by cases z⟩
   ·exact⟨_,gk,λv z=>by cases z⟩)
  refine kB (wpAny_attempt (dB (hs j y zs H' _ _ _ ey ry pv I2) (λu s'' hq=>?_) λ_ _ z=>z.elim))
  obtain⟨z,H'',I3,ru,q⟩:=hq
  have pa:=I3.pin (a,seqObj "list" #[] e1) (kN _ (kN _ (jT (by simp) ga)))
  have pk:=I3.pin (kS,seqObj "list" (List.toArray ks) e) (kN _ (kN _ (jT (by simp) gk)))
  have lk:=rz.length
  have ea:(List.toArray ks).push u=List.toArray (ks++[u]):=by simp
  obtain⟨c2,g2⟩:∃c2,(s''.heap.update kS (Obj.mapSeq (·.push u))).get? kS=some (seqObj "list" (List.toArray (ks++[u])) c2):=⟨_,by rw[←ea];exact wK pk.1 (·.push u)⟩
  try dsimp only
  refine kB (wO pk.1 rfl ?_ (by rw[mC,gM];omega) (mF (cL (Array.size_push ..)) (by rw[mC,gM];omega)))
  have I4:Inv X pins σ H'' s'':=(I3.unpinned).near (A':=X.A) rfl rfl X.xe
  have I5:Inv X pins σ H'' { s'' with heap:=s''.heap.update kS (Obj.mapSeq (·.push u)),toks:=s''.toks }:=
   I4.turnedN (fp:=[kS]) (λb o hb' e=>(kY _ _ (λz=>hb' (hV.mpr z.symm))).trans e) (λb hb'=>by rw[hV.mp hb'];exact fp fk0 pk.2.1)
  exact mB ⟨rfl,H'',zs++[z],ks++[u],c2,I5,(kY _ _ ne).trans pa.1,g2,rz.append (.cons ru .nil),by rw[kP,lz];rfl,q,pa.2.1,pk.2.1⟩
 ·obtain⟨H',zs,ks,e,I1,ga,gk,rz,lz,pv,na,nk⟩:=hJ
  rw[sJ,←hl]at lz pv
  obtain⟨kk,m,hti,hw,hm,fin⟩:=hd zs H' na lz pv
  try dsimp only
  refine kB (listItems_at gk rfl ?_)
  exact qFY I1 (fp fa na) (fp fk0 nk) ha ne ga gk rz rv lz h64 hti hw hm fin
end
noncomputable def oneQ(R:V→Hp→Prop):List V→Hp→Prop
 | [v],H=>R v H
 |_,_=>False
theorem qBJ{R:V→Hp→Prop}:∀{xs:List V} {H:Hp},oneQ R xs H→∃v,xs=[v]∧R v H
 | [v],_,h=>⟨v,rfl,h⟩
 | [],_,h=>h.elim
 |_::_::_,_,h=>h.elim
noncomputable def tSL(P:Program)(w:World)(K:PySem.W.Frag)(mg:Str→Option Value)(base:Heap)(cells:List (Str×Addr))(ix:List (Nat×Str))(k:Nat)(x:Str)(tl:TE)(ta:TA):TE:=λσ H Q=>ta σ H λvs H1=>tl σ H1 λfv H2=>∃(f:Addr) (fd:FuncData) (sp:Heap→Sp),fv=.ref f∧
 (∀base',(∀b o,base.get? b=some o→base'.get? b=some o)→q1L cells σ base' ix→FnOk P w K mg base' CX0 k f fd [x] (sp base'))∧jS K fd [x] []∧
 ∃(l:Addr) (us:List V) (Pv:Nat→List V→Hp→Prop),vs=[.ref l]∧SqL K H2 l us∧us.length<64∧Pv 0 [] H2∧(∀base' i x zs H',q1L cells σ base' ix→us[i]?=some x→Pv i zs H'→sp base' [x] H' (λz H''=>Pv (i+1) (zs++[z]) H'') E0)∧
 ∀zs H',zs.length=us.length→Pv us.length zs H'→∃kk m,Paired (TupI K H') zs kk∧(∀k∈kk,k.length=m)∧0<m∧∀q:List Nat,q.Perm (List.range us.length)→(q.map λi=>kk.getD i []).Pairwise (λa b=>lx b a=false)→NewO H' (.lst (q.map λi=>us.getD i .non)) Q
theorem qAL{X:Cx}{k:Nat}{x:Str}{e le:Expr}{tl:TE}{ta:TA}{p kp pos:Pos}(ix:List (Nat×Str))(hix:∀p∈ix,X.N[p.1]?=some p.2∧X.env.scope.names.lookup p.2=some .cell∧X.fn p.2=true)(hr:Room (k+2) X.A)(hg:Gl X "sorted")(hm:X.mg "sorted"=none)(hl:PE X le tl)(ha:PA X [e] ta)
 (he:starEach [e] X.env=[(false,eval e X.env)]:=by rfl) (hse:starEach ([]:List Expr) X.env=[]:=by rfl):
 PE X (.Call (.Name "sorted" p) [e] [⟨some "key",le,kp⟩] pos) (tSL X.prog X.w X.K X.mg X.base X.env.cells ix k x tl ta):=by
 intro pins s σ H Q I h
 refine dC (q1B I hg hm (u:=.builtin "sorted") (by kernel_rfl) ?_ (by decide) (by decide))
 refine callWith_kw (thn (ha pos pins s σ H _ I h) λus s1 ⟨vs,H1,I1,r1,q1⟩=>?_) (by rw[he,hse];rfl) (by rw[he];rfl)
 have pk:PK X [⟨some "key",le,kp⟩] (q8U tl tNil):=q7L hl qA9
 refine thn (pk pos pins s1 σ H1 (oneQ _) I1 q1) λws s2 hZ=>?_
 obtain⟨xs,H2,I2,r2,q2⟩:=hZ
 obtain⟨v,rfl,f,fd,sp,rfl,F,hb,q2⟩:=qBJ q2
 obtain⟨w,rfl,rw⟩:=q15 r2
 obtain rfl:w=Value.ref f:=rw
 obtain⟨l,us',Pv,ev,hq,h64,p0,hs,hd⟩:=q2
 subst ev
 obtain⟨u,rfl,ru⟩:=q15 r1
 obtain rfl:u=Value.ref l:=ru
 obtain⟨its,rv,pl,hz⟩:=I2.list hq
 have hlen:=rv.length
 show wpAny (model X.prog X.w) X.A (call (.builtin "sorted") [.ref l] [(Str.ofString "key",.ref f)]) _ _ _
 refine call_function_entry_kw kind_sorted plain_sorted entry_sorted (ksk_s1 _ _) ?_
 unfold Builtin.«sorted»
 refine kB (m:=checkCount "sorted" 1 1 _) (mB (kB (collect_list pl.isList (kB (cD ?_ (by rw[gM];show its.length≤_;omega))))))
 have hsz:((s2.heap.push (seqObj "list" #[] 0)).update s2.heap.objs.size (Obj.mapSeq (· ++its.toArray))).objs.size=s2.heap.objs.size+1:=by
  rw[Heap.size_update,size_push']
 have g:(((s2.heap.push (seqObj "list" #[] 0)).update s2.heap.objs.size (Obj.mapSeq (· ++its.toArray))).push (seqObj "list" its.toArray 0)).get? (s2.heap.objs.size+1)=some (seqObj "list" its.toArray 0):=by
  rw[←hsz];exact mI _ rfl
 show wpAny _ _ _ _ _ { s2 with heap:=((s2.heap.push (seqObj "list" #[] 0)).update s2.heap.objs.size (Obj.mapSeq (· ++its.toArray))).push (seqObj "list" its.toArray 0) }
 rw[hsz]
 have I3:Inv X pins σ H2 { s2 with heap:=((s2.heap.push (seqObj "list" #[] 0)).update s2.heap.objs.size (Obj.mapSeq (· ++its.toArray))).push (seqObj "list" its.toArray 0),toks:=s2.toks }:=
  I2.kept (t':=s2.toks) λb o e=>kC _ ((kY _ _ (rG (kX e))).trans (kC _ e))
 refine kB (gK (wpAny_call_entry_kw slot_list_sort ⟨_,g,rfl⟩ entry_list_sort ?_ (ksk_l1 _ _)))
 rw[ksk_t1]
 have fr:s2.heap.objs.size≤s2.heap.objs.size+1:=dE _
 refine qCK I3 g (I2.fpOk fr (I2.hok.fresh fr)) (mF I2.sz fr) rv h64 Pv p0 (λi x zs H' pins' s' u hx rx pv I'=>qBI (X:={ X with A:=X.A.in1.in1,xe:=λ_ _=>False }) (dvs:=[]) (ds:=[]) (E:=E0) ix hix F hr.in1.in1 hb .nil qK I' (.cons rx .nil) (λbase' up cv=>hs base' i x zs H' cv hx pv)) λzs H' na lz pv=>?_
 obtain⟨kk,m,a1,a2,a3,a4⟩:=hd zs H' lz pv
 refine⟨kk,m,a1,a2,a3,λq b1 b2 s' I'=>⟨_,rfl,mB ⟨_,rfl,.ref _,_,I',rfl,(a4 q b1 b2).at _ na⟩⟩⟩
end L2
namespace W1
open PySem L2
structure QM where
 P:Nat
 B:Nat
 nx:Int
 V:Mp
 lv:List Int
 fi:List Int
 bo:List Int
namespace QM
structure Ok(m:QM):Prop where
 p1:1≤m.P
 p2:m.P≤16
 b2:m.B≤16
 ll:m.lv.length=m.B
 lf:m.fi.length=m.B
 lo:m.bo.length=m.B
 nd:(m.V.map (·.1)).Nodup
 nm:∀q∈m.V,0≤q.1∧q.1≤64
 blk:∀q∈m.V,∃b:Nat,b<m.B∧q.2 / (m.P:Int)=(b:Int)
 wr:∀b,b<m.B→∃f:Nat,m.fi.getD b 0=(f:Int)∧f≤m.P
variable{m:QM}
theorem Ok.lenV(h:m.Ok):m.V.length≤65:=by
 have:=qH8 (l:=m.V.map (·.1)) (m:=(List.range 65).map λi:Nat=>(i:Int)) h.nd λx hx=>by
  obtain⟨q,hq,rfl⟩:=kZ.mp hx
  have:=h.nm q hq
  exact kZ.mpr ⟨q.1.toNat,mM.mpr (by omega),by omega⟩
 rw[h9,h9,mZ]at this
 exact this
noncomputable def forget(m:QM)(n:Int):QM:={ m with V:=jJ m.V n,lv:=BM.lvF m.P m.V m.lv n }
theorem find_V{n:Int}:(∃p,(n,p)∈m.V∧m.V.find? (λq=>decide (q.1=n))=some (n,p))∨((∀q∈m.V,q.1≠n)∧m.V.find? (λq=>decide (q.1=n))=none):=by
 cases e:m.V.find? (λq=>decide (q.1=n))with
 |none=>
  refine .inr ⟨λq hq z=>?_,rfl⟩
  have:=rJ.mp e q hq
  exact this (hG z)
 |some q=>
  have h1:q.1=n:=by
   have:=rC e
   simpa using this
  have h2:=rP e
  refine .inl ⟨q.2,by rw[←h1];exact h2,by rw[←h1]⟩
theorem lvF_len{n:Int}:(BM.lvF m.P m.V m.lv n).length=m.lv.length:=by
 unfold BM.lvF
 split
 ·rw[gG]
 ·rfl
theorem Ok.forget(h:m.Ok)(n:Int):(m.forget n).Ok:=
 { h with ll:=by show(BM.lvF m.P m.V m.lv n).length=m.B;rw[lvF_len];exact h.ll,nd:=q5S h.nd,nm:=λq hq=>h.nm q (jD.mp hq).1,blk:=λq hq=>h.blk q (jD.mp hq).1 }
noncomputable def put(m:QM)(b f:Nat)(n:Int):QM:=
 { m with V:=jJ m.V n++[(n,((b*m.P+f:Nat):Int))],lv:=(BM.lvF m.P m.V m.lv n).set b ((BM.lvF m.P m.V m.lv n).getD b 0+1),bo:=if m.fi.getD b 0=0 then m.bo.set b m.nx else m.bo,fi:=m.fi.set b (m.fi.getD b 0+1),nx:=m.nx+1 }
theorem Ok.put(h:m.Ok){b f:Nat}{n:Int}(hb:b<m.B)(hf:f<m.P)(ef:m.fi.getD b 0=(f:Int))(n0:0≤n)(n1:n≤64):(m.put b f n).Ok where
 p1:=h.p1
 p2:=h.p2
 b2:=h.b2
 ll:=by show(List.set _ _ _).length=m.B;rw[gG,lvF_len];exact h.ll
 lf:=by show(List.set _ _ _).length=m.B;rw[gG];exact h.lf
 lo:=by
  show(if m.fi.getD b 0=0 then m.bo.set b m.nx else m.bo).length=m.B
  split
  ·rw[gG];exact h.lo
  ·exact h.lo
 nd:=by
  show((jJ m.V n++[(n,((b*m.P+f:Nat):Int))]).map (·.1)).Nodup
  rw[m7]
  refine wR.mpr ⟨q5S h.nd,by simp,λa ha c hc=>?_⟩
  obtain⟨q,hq,rfl⟩:=kZ.mp ha
  have hc:c=n:=by simpa using hc
  rw[hc]
  exact(jD.mp hq).2
 nm:=λq hq=>by
  rcases gO.mp hq with hq|hq
  ·exact h.nm q (jD.mp hq).1
  ·rw[hV.mp hq];exact⟨n0,n1⟩
 blk:=λq hq=>by
  rcases gO.mp hq with hq|hq
  ·exact h.blk q (jD.mp hq).1
  ·rw[hV.mp hq]
   refine⟨b,hb,?_⟩
   show((b*m.P+f:Nat):Int) / (m.P:Int)=_
   rw[←g5,yD hf]
 wr:=λc hc=>by
  show ∃g:Nat,(m.fi.set b (m.fi.getD b 0+1)).getD c 0=(g:Int)∧g≤m.P
  rw[jG]
  split
  ·exact⟨f+1,by rw[ef];rfl,hf⟩
  ·exact h.wr c hc
end QM
noncomputable def vn(b:Nat):V:=.int (b:Int)
noncomputable def uB(B:Nat)(br:List Bool):List Nat:=(List.range B).filter λb=>!(br.getD b false)
noncomputable def yV(B:Nat)(br:List Bool)(fi:List Int):List Nat:=(uB B br).filter λb=>decide (fi.getD b 0=0)
noncomputable def keyN(cl:List Int)(b:Nat):List Int:=[cl.getD b 0,(b:Int)]
structure FreeIs(B:Nat)(br:List Bool)(cl fi:List Int)(l:List Nat):Prop where
 pm:l.Perm (yV B br fi)
 so:(l.map (keyN cl)).Pairwise λa b=>lx b a=false
theorem qG6{cl:List Int}{a b:Nat}(h:keyN cl a=keyN cl b):a=b:=by
 unfold keyN at h
 injection h with _ h
 injection h with h _
 omega
theorem q0C{B:Nat}{br:List Bool}{b:Nat}:b∈uB B br↔b<B∧br.getD b false=false:=by
 unfold uB
 rw[mJ,mM,rA]
theorem q7C{B:Nat}{br:List Bool}{fi:List Int}{b:Nat}:b∈yV B br fi↔(b<B∧br.getD b false=false)∧fi.getD b 0=0:=by
 unfold yV
 rw[mJ,q0C,kU]
theorem q1M{B:Nat}{br:List Bool}:(uB B br).length≤B:=mF (mE _ _) (by rw[mZ];exact kM _)
theorem qCL{B:Nat}{br:List Bool}{fi:List Int}:(yV B br fi).length≤B:=mF (mE _ _) q1M
theorem FreeIs.mem{B:Nat}{br:List Bool}{cl fi:List Int}{l:List Nat}(h:FreeIs B br cl fi l){b:Nat}(hb:b∈l):b<B∧br.getD b false=false∧fi.getD b 0=0:=by
 have:=q7C.mp (h.pm.mem_iff.mp hb)
 exact⟨this.1.1,this.1.2,this.2⟩
noncomputable def jO(P:Nat)(fi:List Int)(b:Nat):Bool:=decide (0<fi.getD b 0)&&decide (fi.getD b 0<(P:Int))
noncomputable def jM(B P:Nat)(br:List Bool)(fi:List Int):Option Nat:=(uB B br).find? (jO P fi)
theorem vY{B P:Nat}{br:List Bool}{fi:List Int}{b:Nat}(h:jM B P br fi=some b):b<B∧br.getD b false=false∧0<fi.getD b 0∧fi.getD b 0<(P:Int):=by
 have h1:=q0C.mp (rP h)
 have h2:=rC h
 unfold jO at h2
 rw[mR,kU,kU]at h2
 exact⟨h1.1,h1.2,h2.1,h2.2⟩
noncomputable def q17(B P:Nat)(br:List Bool)(fi:List Int)(l:List Nat):Option Nat:=match jM B P br fi with
 |some b=>some b
 |none=>l.head?
theorem q9J{B P:Nat}{br:List Bool}{cl fi:List Int}{l:List Nat}(hl:FreeIs B br cl fi l)(hP:1≤P){b:Nat}(h:q17 B P br fi l=some b):b<B∧br.getD b false=false∧0≤fi.getD b 0∧fi.getD b 0<(P:Int):=by
 unfold q17 at h
 split at h
 ·rename_i b' e
  cases h
  have:=vY e
  exact⟨this.1,this.2.1,by omega,this.2.2.2⟩
 ·cases l with
  |nil=>cases h
  |cons c r=>
   cases h
   have:=hl.mem kW
   exact⟨this.1,this.2.1,by omega,by omega⟩
noncomputable def pgV(P:Nat)(fi:List Int):Option Nat→V
 |none=>.non
 |some b=>.int ((b:Int)*(P:Int)+fi.getD b 0)
noncomputable def oV:Option Nat→V
 |none=>.non
 |some b=>.int (b:Int)
theorem q5U{α β:Type}{L:List α}{f:α→β}{d:β}{e:α}:∀{q:List Nat},(∀i∈q,i<L.length)→(q.map λi=>(L.map f).getD i d)=(q.map λi=>L.getD i e).map f
 | [],_=>rfl
 |i::q,h=>by
  have hi:=h i kW
  rw[mU,mU,mU,q5U (q:=q) λj hj=>h j (hX _ hj)]
  congr 1
  rw[kJ,kJ,mD,hU hi]
  rfl
theorem qAM{α:Type}{L:List α}{e:α}{q:List Nat}(h:q.Perm (List.range L.length)):(q.map λi=>L.getD i e).Perm L:=by
 have:=h.map λi=>L.getD i e
 refine this.trans ?_
 have eq:(List.range L.length).map (λi=>L.getD i e)=L:=by
  refine rH (by simp) λi h1 h2=>?_
  rw[sF,pV,kJ,hU h2]
  rfl
 rw[eq]
theorem qG7{B:Nat}{br:List Bool}{cl fi:List Int}{q:List Nat}(h:q.Perm (List.range (yV B br fi).length))(so:(q.map λi=>((yV B br fi).map (keyN cl)).getD i []).Pairwise λa b=>lx b a=false):FreeIs B br cl fi (q.map λi=>(yV B br fi).getD i 0):=by
 have hin:∀i∈q,i<(yV B br fi).length:=λi hi=>mM.mp (h.mem_iff.mp hi)
 refine⟨qAM h,?_⟩
 rw[q5U (e:=0) hin]at so
 exact so
theorem q7D{α β:Type}{L:List α}{f:α→β}{i:Nat}{x:α}(h:L[i]?=some x):(L.take (i+1)).map f=(L.take i).map f++[f x]:=by
 have hi:=(kE.mp h).1
 obtain rfl:L[i]=x:=(kE.mp h).2
 rw[←mW hi,m7]
 rfl
theorem qG8{a b:List Int}(h:lx a b=true):lx b a=false:=by
 cases z:lx b a with
 |false=>rfl
 |true=>
  have:=q0B a b a h z
  rw[q31]at this
  cases this
theorem qHA{a b c:List Int}(h1:lx b a=false)(h2:lx c b=false):lx c a=false:=by
 cases z:lx c a with
 |false=>rfl
 |true=>
  cases y:lx a b with
  |true=>
   have:=q0B c a b z y
   rw[h2]at this
   cases this
  |false=>
   have e:=q45 a b y h1
   rw[e]at z
   rw[h2]at z
   cases z
theorem FreeIs.ex(B:Nat)(br:List Bool)(cl fi:List Int):∃l,FreeIs B br cl fi l:=by
 refine⟨(yV B br fi).mergeSort λa b=>!(lx (keyN cl b) (keyN cl a)),List.mergeSort_perm _ _,?_⟩
 have:=List.pairwise_mergeSort (le:=λa b=>!(lx (keyN cl b) (keyN cl a))) (λa b c h1 h2=>by
  rw[rA]at h1 h2 ⊢
  exact qHA h1 h2) (λa b=>by
  cases z:lx (keyN cl b) (keyN cl a)with
  |false=>rfl
  |true=>rw[qG8 z];rfl) (yV B br fi)
 rw[g9]
 exact this.imp λh=>by
  rw[rA]at h
  exact h
theorem rep8{α:Type}{n i:Nat}{y:α}:(List.replicate n y).getD i y=y:=by
 rw[kJ,d8]
 split<;>rfl
end W1
namespace W1
noncomputable def orB:List Nat→Nat→Nat
 | [],b=>b
 |s::r,b=>orB r (b|||2 ^ s)
end W1
namespace W1
open PySem L2
theorem jY{B:Nat}:uB B (List.replicate B false)=List.range B:=by
 unfold uB
 refine rE.mpr λb _=>?_
 rw[rep8]
 rfl
end W1
namespace L2
open PySem PySem.Spec PyProof.Rows
structure ClM(K:PySem.W.Frag)(W:Addr)(m:Str)(f:Addr):Prop where
 rd:PySem.W.readsIn K W (.type "type")=true
 fd:PySem.W.findCls K (.ref W) (.type "type") m=some (.val (.ref f))
 ga:PySem.W.specialIn K (.ref W) "__getattribute__"=some (some (.builtin "type.__getattribute__"))
 kp:PySem.W.keepIn K (.ref f)=true
noncomputable def gLst(K:PySem.W.Frag)(n:Nat)(t:TGs):TG:=λv σ H Q=>∃a xs,v=.ref a∧SqL K H a xs∧xs.length=n∧t xs σ H Q
theorem qIX{X:Cx}{pos:Pos}{es:List Expr}{k:Nat}{t:TGs}{n:Nat}(hc:X.calm=true)(h:PGs X es t)
 (hn:(assignEach es X.env).length=n:=by rfl) (hst:(assignEach es X.env).findIdx? (·.1)=none:=by rfl):PG X (.Tuple es k pos) (gLst X.K n t):=by
 intro pins s σ H v u Q I r hw
 obtain⟨a,xs,e1,hq,hl,hw⟩:=hw
 subst e1
 cases r
 obtain⟨its,rv,p,hz⟩:=I.list hq
 rw[PyProof.Rows.assign_Tuple]
 refine kB (pA ?_)
 unfold unpack
 rw[show(assignEach es X.env).length=its.toArray.size by simp[hn,←hl,rv.length],hst]
 refine kB (gK (PySem.W.kun_itemsOf (I.ok.hd hc) p.isList λh' hx=>?_))
 have I1:Inv X pins σ H { s with heap:=h' }:=I.kept (t':=s.toks) λb o e=>hx b o (mL (kX e)) e
 exact h pins _ σ H xs _ Q I1 (by simpa using rv) hw
end L2
namespace W1
open PySem L2
noncomputable def rdy(ie:Int)(l:List Nat)(p:Option Nat):Bool:=decide ((l.length:Int)-(1+ie)>0)||(decide ((l.length:Int)-(1+ie)=0)&&p.isSome)
noncomputable abbrev tyL(m:CM)(q:QM)(b:Nat):List V:=[.int (b:Int),.int (q.lv.getD b 0),.int (m.cl.getD b 0),.int (q.bo.getD b 0)]
noncomputable def spcN(ie:Int)(l:List Nat)(P:Nat)(fi:List Int)(p:Option Nat):Int:=if 1+ie≤(l.length:Int)then(P:Int)else match p with|none=>0|some b=>(P:Int)-fi.getD b 0
noncomputable def jW(B P:Nat)(br:List Bool)(fi:List Int):List Nat:=(uB B br).filter λb=>decide (fi.getD b 0=(P:Int))
noncomputable def optN(ie:Int)(m:CM)(q:QM)(l:List Nat):List Nat:=((jW q.B q.P m.br q.fi).filter λb=>decide (q.lv.getD b 0≤spcN ie l q.P q.fi (jM q.B q.P m.br q.fi))).filter λb=>decide (q.lv.getD b 0<(q.P:Int))
noncomputable def qEF(q:QM)(r:Int×Nat×Int):QM:={ q with nx:=r.1 }.put (r.2.1 / q.P) (r.2.1%q.P) r.2.2
structure Fits(q:QM)(r:Int×Nat×Int):Prop where
 b:r.2.1 / q.P<q.B
 f:q.fi.getD (r.2.1 / q.P) 0=((r.2.1%q.P:Nat):Int)
 s:q.nx≤r.1
 n0:0≤r.2.2
 n1:r.2.2≤64
section
variable{q q0:QM}{r:Int×Nat×Int}{R:List (Int×Nat×Int)}
theorem Fits.ok(h:Fits q r)(ok:q.Ok):(qEF q r).Ok:=by
 have okn:QM.Ok { q with nx:=r.1 }:={ ok with }
 exact okn.put h.b (Nat.mod_lt _ ok.p1) h.f h.n0 h.n1
structure QS(q:QM):Prop where
 ok:q.Ok
 lv:∀b,b<q.B→q.lv.getD b 0=(cntB q.P q.V b:Nat)
theorem qBK(h:QS q)(n:Int){b:Nat}(hb:b<q.B):(BM.lvF q.P q.V q.lv n).getD b 0=(cntB q.P (jJ q.V n) b:Nat):=by
 unfold BM.lvF
 rcases QM.find_V (m:=q) (n:=n)with⟨p,hp,e⟩|⟨no,e⟩
 ·rw[e]
  obtain⟨c,hc,ec⟩:=h.ok.blk _ hp
  have ec:p / (q.P:Int)=(c:Int):=ec
  have cd:=qE3 (P:=q.P) (b:=b) h.ok.nd hp
  show(q.lv.set (p / (q.P:Int)).toNat (q.lv.getD (p / (q.P:Int)).toNat 0-1)).getD b 0=_
  rw[ec,mK,jG]
  rw[ec]at cd
  have e1:=h.lv b hb
  by_cases z:c=b
  ·subst z
   rw[kI rfl]at cd
   rw[kI ⟨rfl,by rw[h.ok.ll];exact hb⟩,e1]
   omega
  ·rw[kF (by omega)]at cd
   rw[kF (λy=>z y.1),e1]
   omega
 ·rw[e,h.lv b hb,show jJ q.V n=q.V from rE.mpr λy hy=>hG (no y hy)]
theorem Fits.qs(h:Fits q r)(qs:QS q):QS (qEF q r):=by
 refine⟨h.ok qs.ok,λb hb=>?_⟩
 have hb:b<q.B:=hb
 have lc:=qBK qs r.2.2 hb
 show((BM.lvF q.P q.V q.lv r.2.2).set (r.2.1 / q.P) ((BM.lvF q.P q.V q.lv r.2.2).getD (r.2.1 / q.P) 0+1)).getD b 0=((cntB q.P (jJ q.V r.2.2++[(r.2.2,((r.2.1 / q.P*q.P+r.2.1%q.P:Nat):Int))]) b:Nat):Int)
 have ep:r.2.1 / q.P*q.P+r.2.1%q.P=r.2.1:=by
  rw[d3]
  exact Nat.div_add_mod _ _
 have ea:cntB q.P (jJ q.V r.2.2++[(r.2.2,(r.2.1:Int))]) b=cntB q.P (jJ q.V r.2.2) b+(if r.2.1 / q.P=b then 1 else 0):=by
  unfold cntB
  rw[List.countP_append,List.countP_singleton,←g5]
  by_cases z:r.2.1 / q.P=b
  ·rw[kI z,z,hG rfl]
   rfl
  ·rw[kF z,kD (by omega)]
   rfl
 rw[ep,ea,jG]
 by_cases z:r.2.1 / q.P=b
 ·rw[kI z,kI ⟨z,by rw[QM.lvF_len,qs.ok.ll];omega⟩,z,lc]
  omega
 ·rw[kF z,kF (λy=>z y.1),lc]
  omega
end
noncomputable def OneP(B P:Nat)(fi:List Int):Prop:=∀b c,b<B→c<B→jO P fi b=true→jO P fi c=true→b=c
noncomputable def clr1(P:Nat)(fi:List Int)(b:Nat):Nat:=P-(fi.getD b 0).toNat
noncomputable def rm(B P:Nat)(fi:List Int):Nat:=((List.range B).map (clr1 P fi)).sum
theorem qBL{L:List Nat}{f g:Nat→Nat}:(L.map λb=>f b+g b).sum=(L.map f).sum+(L.map g).sum:=by
 induction L with
 |nil=>rfl
 |cons x L ih=>
  rw[mU,mU,mU,d5,d5,d5,ih]
  omega
theorem q0D{L:List Nat}{f g:Nat→Nat}(h:∀b∈L,f b=g b):(L.map f).sum=(L.map g).sum:=by rw[r6 h]
theorem qIY{L:List Nat}{p:Nat→Bool}{c:Nat}:(L.map λb=>if p b=true then c else 0).sum=(L.filter p).length*c:=by
 induction L with
 |nil=>rw[List.filter_nil];simp
 |cons x L ih=>
  rw[mU,d5,ih,gC]
  by_cases h:p x=true
  ·rw[kI h,kI h,mG,wX]
   omega
  ·rw[kF h,kF h]
   omega
theorem qBM{L:List Nat}{p:Nat→Bool}{h:Nat→Nat}(nd:L.Nodup)(one:∀a∈L,∀b∈L,p a=true→p b=true→a=b):(L.map λb=>if p b=true then h b else 0).sum=match L.find? p with|some b=>h b|none=>0:=by
 induction L with
 |nil=>rfl
 |cons x L ih=>
  obtain⟨n1,n2⟩:=m9.mp nd
  rw[mU,d5,dN]
  by_cases hx:p x=true
  ·rw[hx,kI rfl]
   have:(L.map λb=>if p b=true then h b else 0).sum=(L.map λ_=>0).sum:=q0D λb hb=>by
    rw[kF]
    intro z
    exact n1 (by rw[one x (by simp) b (hX _ hb) hx z];exact hb)
   rw[this]
   have z:(L.map λ_=>0).sum=0:=by
    clear this ih nd one n1 n2
    induction L with
    |nil=>rfl
    |cons y L ih=>rw[mU,d5,ih]
   rw[z]
   rfl
  ·rw[kF hx]
   rw[Bool.not_eq_true]at hx
   rw[hx]
   rw[sJ]
   exact ih n2 λa ha b hb=>one a (hX _ ha) b (hX _ hb)
section
variable{B P:Nat}{fi cl:List Int}{l:List Nat}
noncomputable abbrev noB(B:Nat):List Bool:=List.replicate B false
theorem qKF(on:OneP B P fi)(wr:∀b,b<B→∃f:Nat,fi.getD b 0=(f:Int)∧f≤P)(p1:1≤P)(hl:FreeIs B (noB B) cl fi l):
 rm B P fi=l.length*P+(match jM B P (noB B) fi with|some b=>P-(fi.getD b 0).toNat|none=>0):=by
 have h1:l.length=((List.range B).filter λb=>decide (fi.getD b 0=0)).length:=by
  rw[hl.pm.length_eq]
  unfold yV
  rw[jY]
 unfold rm jM
 rw[jY,h1,←qIY,←qBM (p:=jO P fi) (h:=λb=>P-(fi.getD b 0).toNat) cZ (λa ha b hb=>on a b (mM.mp ha) (mM.mp hb)),←qBL]
 refine q0D λb hb=>?_
 obtain⟨f,ef,hf⟩:=wr b (mM.mp hb)
 unfold clr1 jO
 rw[ef,mK]
 by_cases z:f=0
 ·subst z
  simp
 ·by_cases y:f<P
  ·rw[kF (by simp;omega),hG (by omega),hG (by omega)]
   simp
  ·rw[kF (by simp;omega),kD (show ¬(f:Int)<(P:Int) by omega)]
   simp
   omega
theorem q9K{b:Nat}(h:jM B P (noB B) fi=some b):b<B∧0<fi.getD b 0∧fi.getD b 0<(P:Int):=by
 have:=vY h
 exact⟨this.1,this.2.2⟩
theorem q1N(on:OneP B P fi)(wr:∀b,b<B→∃f:Nat,fi.getD b 0=(f:Int)∧f≤P)(p1:1≤P)(hl:FreeIs B (noB B) cl fi l):
 (jM B P (noB B) fi=none∧rm B P fi=l.length*P)∨∃b e,jM B P (noB B) fi=some b∧1≤e∧e<P∧rm B P fi=l.length*P+e∧fi.getD b 0+(e:Int)=(P:Int):=by
 have h:=qKF on wr p1 hl
 cases hp:jM B P (noB B) fi with
 |none=>
  rw[hp]at h
  exact .inl ⟨rfl,h⟩
 |some b=>
  rw[hp]at h
  obtain⟨a,c,d⟩:=q9K hp
  exact .inr ⟨b,P-(fi.getD b 0).toNat,rfl,by omega,by omega,h,by omega⟩
theorem qG9{ie:Nat}(on:OneP B P fi)(wr:∀b,b<B→∃f:Nat,fi.getD b 0=(f:Int)∧f≤P)(p1:1≤P)(hl:FreeIs B (noB B) cl fi l):
 rdy (ie:Int) l (jM B P (noB B) fi)=decide ((1+ie)*P<rm B P fi):=by
 have key:∀e,e<P→((1+ie)*P<l.length*P+e↔(1+ie<l.length∨(1+ie=l.length∧0<e))):=λe he=>by
  rcases Nat.lt_trichotomy (1+ie) l.length with h|h|h
  ·have:=g0 P (show 1+ie+1≤l.length from h)
   rw[wX]at this
   exact⟨λ_=>.inl h,λ_=>by omega⟩
  ·rw[h]
   exact⟨λz=>.inr ⟨rfl,by omega⟩,λz=>by omega⟩
  ·have:=g0 P (show l.length+1≤1+ie from h)
   rw[wX]at this
   exact⟨λz=>by omega,λz=>by omega⟩
 unfold rdy
 rcases q1N on wr p1 hl with⟨h1,h2⟩|⟨b,e,h1,e1,e2,h2,_⟩
 ·rw[h1,h2]
  have k:=key 0 (by omega)
  rw[Nat.add_zero]at k
  by_cases z:(1+ie)*P<l.length*P
  ·rw[hG z,hG (show(l.length:Int)-(1+(ie:Int))>0 by rcases k.mp z with h|h<;>omega)]
   rfl
  ·rw[kD z,kD (show ¬(l.length:Int)-(1+(ie:Int))>0 by intro y;exact z (k.mpr (.inl (by omega))))]
   simp
 ·rw[h1,h2]
  have k:=key e e2
  by_cases z:(1+ie)*P<l.length*P+e
  ·rw[hG z]
   rcases k.mp z with h|h
   ·rw[hG (show(l.length:Int)-(1+(ie:Int))>0 by omega)]
    rfl
   ·rw[hG (show(l.length:Int)-(1+(ie:Int))=0 by omega)]
    simp
  ·rw[kD z,kD (show ¬(l.length:Int)-(1+(ie:Int))>0 by intro y;exact z (k.mpr (.inl (by omega)))),kD (show ¬(l.length:Int)-(1+(ie:Int))=0 by intro y;exact z (k.mpr (.inr ⟨by omega,by omega⟩)))]
   rfl
theorem q7E(on:OneP B P fi)(wr:∀b,b<B→∃f:Nat,fi.getD b 0=(f:Int)∧f≤P)(p1:1≤P)(hl:FreeIs B (noB B) cl fi l)(h:0<rm B P fi):∃b,q17 B P (noB B) fi l=some b∧((jM B P (noB B) fi=some b)∨(jM B P (noB B) fi=none∧fi.getD b 0=0)):=by
 unfold q17
 rcases q1N on wr p1 hl with⟨h1,h2⟩|⟨b,e,h1,_⟩
 ·rw[h1]
  cases l with
  |nil=>rw[h2]at h;simp at h
  |cons x l=>exact⟨x,rfl,.inr ⟨rfl,(hl.mem (by simp)).2.2⟩⟩
 ·rw[h1]
  exact⟨b,rfl,.inl rfl⟩
theorem qGA{L:List Nat}{f g:Nat→Nat}{b:Nat}(nd:L.Nodup)(hb:b∈L)(h:∀c∈L,c≠b→f c=g c):(L.map f).sum+g b=(L.map g).sum+f b:=by
 induction L with
 |nil=>exact absurd hb (by simp)
 |cons x L ih=>
  obtain⟨n1,n2⟩:=m9.mp nd
  rw[mU,mU,d5,d5]
  rcases kL.mp hb with rfl|hb
  ·rw[q0D (L:=L) (f:=f) (g:=g) λc hc=>h c (hX _ hc) λz=>n1 (by rw[←z];exact hc)]
   omega
  ·have:=ih n2 hb λc hc=>h c (hX _ hc)
   have e:=h x (by simp) λz=>n1 (by rw[z];exact hb)
   omega
theorem qEG{b:Nat}{v:Int}(hb:b<B)(lf:fi.length=B):rm B P (fi.set b v)+(P-(fi.getD b 0).toNat)=rm B P fi+(P-v.toNat):=by
 have:=qGA (L:=List.range B) (f:=clr1 P (fi.set b v)) (g:=clr1 P fi) (b:=b) cZ (mM.mpr hb) λc _ hc=>by
  unfold clr1
  rw[jG,kF (λz=>hc z.1.symm)]
 unfold rm
 have e:clr1 P (fi.set b v) b=P-v.toNat:=by
  unfold clr1
  rw[jG,kI ⟨rfl,by omega⟩]
 rw[e]at this
 exact this
theorem qIZ{b f:Nat}(hb:b<B)(lf:fi.length=B)(ef:fi.getD b 0=(f:Int))(hf:f<P):rm B P (fi.set b (fi.getD b 0+1))+1=rm B P fi:=by
 have:=qEG (P:=P) (v:=fi.getD b 0+1) hb lf
 rw[ef]at this ⊢
 have e1:((f:Int)).toNat=f:=mK f
 have e2:((f:Int)+1).toNat=f+1:=by omega
 rw[e1,e2]at this
 omega
theorem qGB{b:Nat}(hb:b<B)(lf:fi.length=B)(ef:fi.getD b 0=(P:Int)):rm B P (fi.set b 0)=rm B P fi+P:=by
 have:=qEG (P:=P) (v:=0) hb lf
 rw[ef]at this
 have e1:((P:Int)).toNat=P:=mK P
 rw[e1]at this
 simpa using this
theorem qGC{b:Nat}(on:OneP B P fi)(hb:b<B)(lf:fi.length=B)(h:(jM B P (noB B) fi=some b)∨(jM B P (noB B) fi=none∧fi.getD b 0=0)):OneP B P (fi.set b (fi.getD b 0+1)):=by
 have other:∀c,c<B→c≠b→jO P (fi.set b (fi.getD b 0+1)) c=true→False:=λc hc nc hp=>by
  have hp':jO P fi c=true:=by
   unfold jO at hp ⊢
   rw[jG,kF (λz=>nc z.1.symm)]at hp
   exact hp
  rcases h with h|⟨h,_⟩
  ·have h2:jO P fi b=true:=rC h
   exact nc (on c b hc hb hp' h2)
  ·have:=rJ.mp h c (by rw[jY];exact mM.mpr hc)
   exact this hp'
 intro c d hc hd pc pd
 by_cases e1:c=b
 ·by_cases e2:d=b
  ·rw[e1,e2]
  ·exact(other d hd e2 pd).elim
 ·exact(other c hc e1 pc).elim
theorem qEH{b:Nat}(on:OneP B P fi):OneP B P (fi.set b 0):=by
 have old:∀c,c<B→jO P (fi.set b 0) c=true→jO P fi c=true:=λc hc hp=>by
  unfold jO at hp ⊢
  rw[jG]at hp
  split at hp
  ·simp at hp
  ·exact hp
 exact λc d hc hd pc pd=>on c d hc hd (old c hc pc) (old d hd pd)
theorem qGD{V:Mp}:∀{L:List Nat},L.Nodup→(L.map (cntB P V)).sum≤V.length:=by
 induction V with
 |nil=>
  intro L _
  have:(L.map (cntB P [])).sum=(L.map λ_=>0).sum:=q0D λb _=>rfl
  rw[this]
  clear this
  induction L with
  |nil=>exact kM _
  |cons x L ih=>
   rename_i h
   rw[mU,d5]
   have:=ih (m9.mp h).2
   omega
 |cons x V ih=>
  intro L nd
  have e:(L.map (cntB P (x::V))).sum=(L.map (cntB P V)).sum+(L.map λb=>if(λb:Nat=>decide (x.2 / (P:Int)=(b:Int))) b=true then 1 else 0).sum:=by
   rw[←qBL]
   refine q0D λb _=>?_
   unfold cntB
   rw[cX]
  rw[e,qBM (h:=λ_=>1) nd λa _ b _ ha hb=>by
   have h1:=mV ha
   have h2:=mV hb
   omega]
  have:=ih nd
  rw[mG]
  cases L.find? (λb:Nat=>decide (x.2 / (P:Int)=(b:Int)))with
  |none=>show _ +0≤_;omega
  |some b=>show _ +1≤_;omega
theorem qEI{L:List Nat}{f:Nat→Nat}{k:Nat}(h:∀b∈L,k≤f b):L.length*k≤(L.map f).sum:=by
 induction L with
 |nil=>simp
 |cons x L ih=>
  rw[mG,mU,d5,wX]
  have:=ih λb hb=>h b (hX _ hb)
  have:=h x (by simp)
  omega
theorem q9L(on:OneP B P fi)(wr:∀b,b<B→∃f:Nat,fi.getD b 0=(f:Int)∧f≤P)(p1:1≤P)(hl:FreeIs B (noB B) cl fi l)(hp:jM B P (noB B) fi=none):(jW B P (noB B) fi).length+l.length=B:=by
 have h1:l.length=((List.range B).filter λb=>decide (fi.getD b 0=0)).length:=by
  rw[hl.pm.length_eq]
  unfold yV
  rw[jY]
 have h2:jW B P (noB B) fi=(List.range B).filter λb=>!decide (fi.getD b 0=0):=by
  unfold jW
  rw[jY]
  refine pZ λb hb=>?_
  obtain⟨f,ef,hf⟩:=wr b (mM.mp hb)
  have np:=rJ.mp hp b (by rw[jY];exact hb)
  unfold jO at np
  rw[ef]at np ⊢
  by_cases z:f=0
  ·subst z
   rw[hG (show((0:Nat):Int)=0 from rfl),kD (by omega)]
   rfl
  ·rw[kD (show ¬(f:Int)=0 by omega)]
   by_cases y:f<P
   ·exact(np (by rw[hG (show(0:Int)<(f:Int) by omega),hG (show(f:Int)<(P:Int) by omega)];rfl)).elim
   ·exact hG (by omega)
 rw[h1,h2]
 have e:∀{L:List Nat} {p:Nat→Bool},(L.filter λb=>!p b).length+(L.filter p).length=L.length:=by
  intro L p
  induction L with
  |nil=>rfl
  |cons x L ih=>
   rw[gC,gC]
   cases p x<;>simp<;>omega
 have:=e (L:=List.range B) (p:=λb=>decide (fi.getD b 0=0))
 rw[mZ]at this
 exact this
end
section
variable{q:QM}{m:CM}{l:List Nat}
theorem qEJ{b f:Nat}{n:Int}(hf:f<q.P):qEF q (q.nx,b*q.P+f,n)=q.put b f n:=by
 show({ q with nx:=q.nx }:QM).put ((b*q.P+f) / q.P) ((b*q.P+f)%q.P) n=_
 rw[yD hf,d3,pK,c6 hf]
theorem QS.put{b f:Nat}{n:Int}(h:QS q)(hb:b<q.B)(hf:f<q.P)(ef:q.fi.getD b 0=(f:Int))(n0:0≤n)(n1:n≤64):QS (q.put b f n):=by
 have ft:Fits q (q.nx,b*q.P+f,n):=by
  refine⟨?_,?_,gJ _,n0,n1⟩
  ·show(b*q.P+f) / q.P<q.B
   rw[yD hf]
   exact hb
  ·show q.fi.getD ((b*q.P+f) / q.P) 0=(((b*q.P+f)%q.P:Nat):Int)
   rw[yD hf,ef,d3,pK,c6 hf]
 have:=ft.qs h
 rw[qEJ hf]at this
 exact this
theorem uE{b f:Nat}{n:Int}{x:Int×Int}:x∈(q.put b f n).V↔x=(n,((b*q.P+f:Nat):Int))∨(x∈q.V∧x.1≠n):=by
 show x∈jJ q.V n++[(n,((b*q.P+f:Nat):Int))]↔_
 rw[gO,jD,hV]
 exact⟨λh=>h.symm,λh=>h.symm⟩
theorem QS.forget(h:QS q)(n:Int):QS (q.forget n):=⟨h.ok.forget n,λb hb=>qBK h n hb⟩
noncomputable def QM.emptied(q:QM)(b:Nat):QM:={ q with fi:=q.fi.set b 0,bo:=q.bo.set b 0 }
theorem QS.emptied(h:QS q)(b:Nat):QS (q.emptied b):=by
 refine⟨{ h.ok with lf:=by show(q.fi.set b 0).length=q.B;rw[gG];exact h.ok.lf,lo:=by show(q.bo.set b 0).length=q.B;rw[gG];exact h.ok.lo,wr:=λc hc=>?_ },h.lv⟩
 show ∃f:Nat,(q.fi.set b 0).getD c 0=(f:Int)∧f≤q.P
 rw[jG]
 split
 ·exact⟨0,rfl,mO _⟩
 ·exact h.ok.wr c hc
noncomputable def tlOf(m:CM)(q:QM)(b:Nat):Tl:=⟨(b:Int),q.lv.getD b 0,m.cl.getD b 0,q.bo.getD b 0⟩
theorem qEK{f:Tl→Int}{ts:List Tl}(h:ts≠[]):∃T∈ts,pk f ts=T.b∧∀o∈ts,f T≤f o:=by
 obtain⟨i,hi,hu,hn⟩:=q5M f ts h
 exact⟨ts[i],gD hi,qH7 hi hu hn,λo ho=>by have:=q54.mp hu o ho;omega⟩
theorem qEL{ie:Nat}(h:QS q)(on:OneP q.B q.P q.fi)(br:m.br=noB q.B)(hl:FreeIs q.B (noB q.B) m.cl q.fi l)(hr:rm q.B q.P q.fi=(1+ie)*q.P)(hv:q.V.length<(q.B-(1+ie))*q.P):
 optN (ie:Int) m q l≠[]∧∀b∈optN (ie:Int) m q l,(∀c∈optN (ie:Int) m q l,q.lv.getD b 0≤q.lv.getD c 0)→cntB q.P q.V b*(q.B-(1+ie))≤q.V.length:=by
 have p1:=h.ok.p1
 have ll:jM q.B q.P (noB q.B) q.fi=none∧l.length=1+ie:=by
  rcases q1N on h.ok.wr p1 hl with⟨h1,h2⟩|⟨b,e,h1,e1,e2,h2,_⟩
  ·refine⟨h1,?_⟩
   rw[hr]at h2
   exact(Nat.eq_of_mul_eq_mul_right (by omega) h2).symm
  ·exfalso
   rw[hr]at h2
   have k:(1+ie)*q.P%q.P=e:=by rw[h2,d3,pK,c6 e2]
   rw[Nat.mul_mod_left]at k
   omega
 have fl:=q9L on h.ok.wr p1 hl ll.1
 have flC:(jW q.B q.P (noB q.B) q.fi).length=q.B-(1+ie):=by omega
 have hsp:spcN (ie:Int) l q.P q.fi (jM q.B q.P (noB q.B) q.fi)=(q.P:Int):=by
  unfold spcN
  rw[kI (by omega)]
 have ndF:(jW q.B q.P (noB q.B) q.fi).Nodup:=by
  unfold jW
  rw[jY]
  exact g3 _ cZ
 have hB:∀b∈jW q.B q.P (noB q.B) q.fi,b<q.B:=λb hb=>by
  unfold jW at hb
  rw[jY]at hb
  exact mM.mp (mJ.mp hb).1
 have memo:∀b,b∈optN (ie:Int) m q l↔b∈jW q.B q.P (noB q.B) q.fi∧cntB q.P q.V b<q.P:=λb=>by
  unfold optN
  rw[br,hsp,mJ,mJ,kU,kU]
  constructor
  ·rintro⟨⟨a,_⟩,c⟩
   rw[h.lv b (hB b a)]at c
   exact⟨a,by omega⟩
  ·rintro⟨a,c⟩
   rw[h.lv b (hB b a)]
   exact⟨⟨a,by omega⟩,by omega⟩
 have cs:=qGD (P:=q.P) (V:=q.V) ndF
 constructor
 ·intro z
  have:(jW q.B q.P (noB q.B) q.fi).length*q.P≤((jW q.B q.P (noB q.B) q.fi).map (cntB q.P q.V)).sum:=qEI λb hb=>by
   refine dQ λy=>?_
   have:b∈optN (ie:Int) m q l:=(memo b).mpr ⟨hb,by omega⟩
   rw[z]at this
   cases this
  rw[flC]at this
  omega
 ·intro b hb hmin
  obtain⟨bF,bP⟩:=(memo b).mp hb
  have:(jW q.B q.P (noB q.B) q.fi).length*cntB q.P q.V b≤((jW q.B q.P (noB q.B) q.fi).map (cntB q.P q.V)).sum:=qEI λc hc=>by
   by_cases y:cntB q.P q.V c<q.P
   ·have:=hmin c ((memo c).mpr ⟨hc,y⟩)
    rw[h.lv b (hB b bF),h.lv c (hB c hc)]at this
    omega
   ·omega
  rw[flC,d3]at this
  omega
end
theorem qJ0{V:Mp}(nd:(V.map (·.1)).Nodup):V.length≤((V.map (·.1)).filter λn=>decide (n≠64)).length+1:=by
 have e:∀{L:List Int},L.Nodup→L.length≤(L.filter λn=>decide (n≠64)).length+1:=by
  intro L
  induction L with
  |nil=>intro _;exact mO _
  |cons y L ih=>
   intro nd
   obtain⟨n1,n2⟩:=m9.mp nd
   rw[gC]
   by_cases z:y=64
   ·rw[kF (by simp[z])]
    have:L.filter (λn=>decide (n≠64))=L:=rE.mpr λw hw=>hG λe=>n1 (by rw[z,←e];exact hw)
    rw[this]
    exact kM _
   ·rw[kI (hG z),mG,mG]
    have:=ih n2
    omega
 have:=e nd
 rw[h9]at this
 exact this
inductive Rl where
 |rk (f:Int→Int→Tl→Int)
 |win (m:Int)
 |fol (row:List Int) (u:Nat)
noncomputable def Rl.Ok:Rl→Prop
 | .win m=>1≤m
 |_=>True
noncomputable def leL(k:Tl→List Int)(a b:Tl):Bool:=!lx (k b) (k a)
noncomputable def winC(m:Int)(ts:List Tl):List Tl:=((ts.mergeSort (leL λT=>[T.bo,T.b])).take m.toNat).mergeSort (leL Tl.ns)
theorem qGE{m:Int}{ts:List Tl}:∀o∈winC m ts,o∈ts:=λo ho=>cJ.mp (List.mem_of_mem_take (cJ.mp ho))
theorem qGF{m:Int}{ts:List Tl}(m1:1≤m)(h:ts≠[]):winC m ts≠[]:=λz=>by
 have:=dR List.length z
 unfold winC at this
 rw[List.length_mergeSort,gL,List.length_mergeSort,wI]at this
 have:=r9.mpr h
 omega
noncomputable def fo(row:List Int)(u:Nat)(ts:List Tl):Int:=match row[u]? with
 |some n=>if n∈ts.map Tl.b then n else(ts.map Tl.b).headD 0
 |none=>(ts.map Tl.b).headD 0
noncomputable def Rl.ch:Rl→Int→Int→List Tl→Int×Rl
 | .rk f,pg,nw,ts=>(pk (f pg nw) ts,.rk f)
 | .win m,_,_,ts=>(pk Tl.lv (winC m ts),.win m)
 | .fol row u,_,_,ts=>(fo row u ts,.fol row (min (u+1) row.length))
noncomputable def minF(cl:List Int):List Nat→Option Nat
 | []=>none
 |b::L=>match minF cl L with
  |none=>some b
  |some c=>if cl.getD c 0<cl.getD b 0 then some c else some b
noncomputable def spF(q:QM)(cl:List Int):Nat:=match(List.range q.B).find? (jO q.P q.fi)with
 |some b=>b
 |none=>(minF cl ((List.range q.B).filter λb=>decide (q.fi.getD b 0=0))).getD 0
section
variable{B P:Nat}{q:QM}{m:CM}{cl fi:List Int}{l:List Nat}
theorem q2K:∀{L:List Nat},L.Pairwise (· < ·)→(minF cl L=none→L=[])∧∀b,minF cl L=some b→b∈L∧∀c∈L,lx (keyN cl c) (keyN cl b)=false
 | [],_=>⟨λ_=>rfl,λb h=>by cases h⟩
 |a::L,pw=>by
  obtain⟨p1,p2⟩:=gU.mp pw
  obtain⟨h1,h2⟩:=q2K p2
  unfold minF
  cases z:minF cl L with
  |none=>
   have:=h1 z
   subst this
   refine⟨λy=>(by cases y),λb h=>?_⟩
   injection h with h
   subst h
   exact⟨by simp,λc hc=>by rw[hV.mp hc];exact q31 _⟩
  |some c=>
   obtain⟨g1,g2⟩:=h2 c z
   have hac:=p1 c g1
   dsimp only
   by_cases y:cl.getD c 0<cl.getD a 0
   ·rw[kI y]
    refine⟨λw=>(by cases w),λb h=>?_⟩
    injection h with h
    subst h
    refine⟨hX _ g1,λd hd=>?_⟩
    rcases kL.mp hd with e|e
    ·subst e
     unfold keyN lx
     rw[kF (by omega)]
     exact kD (by omega)
    ·exact g2 d e
   ·rw[kF y]
    refine⟨λw=>(by cases w),λb h=>?_⟩
    injection h with h
    subst h
    refine⟨by simp,λd hd=>?_⟩
    rcases kL.mp hd with e|e
    ·subst e
     exact q31 _
    ·refine qHA (b:=keyN cl c) ?_ (g2 d e)
     unfold keyN lx
     by_cases w:cl.getD c 0=cl.getD a 0
     ·rw[kI w]
      unfold lx
      rw[kF (by omega)]
      exact kD (by omega)
     ·rw[kF w]
      exact kD (by omega)
theorem qCM(hl:FreeIs B (noB B) cl fi l):l.head?=minF cl ((List.range B).filter λb=>decide (fi.getD b 0=0)):=by
 have pm:=hl.pm
 unfold yV at pm
 rw[jY]at pm
 have pw:((List.range B).filter λb=>decide (fi.getD b 0=0)).Pairwise (· < ·):=g3 _ dG
 obtain⟨h1,h2⟩:=q2K (cl:=cl) pw
 cases l with
 |nil=>
  rw[List.nil_perm.mp pm]
  rfl
 |cons a r=>
  cases z:minF cl ((List.range B).filter λb=>decide (fi.getD b 0=0))with
  |none=>
   rw[h1 z]at pm
   have:=pm.length_eq
   cases this
  |some b=>
   obtain⟨g1,g2⟩:=h2 b z
   have so:=hl.so
   rw[mU]at so
   have so:=(gU.mp so).1
   have hb:=pm.mem_iff.mpr g1
   have e:a=b:=by
    rcases kL.mp hb with e|e
    ·exact e.symm
    ·exact qG6 (q45 _ _ (g2 a (pm.mem_iff.mp (by simp))) (so _ (kZ.mpr ⟨b,e,rfl⟩)))
   rw[e]
   rfl
theorem qJ1(on:OneP q.B q.P q.fi)(wr:∀b,b<q.B→∃f:Nat,q.fi.getD b 0=(f:Int)∧f≤q.P)(p1:1≤q.P)(hl:FreeIs q.B (noB q.B) cl q.fi l)(h:0<rm q.B q.P q.fi):q17 q.B q.P (noB q.B) q.fi l=some (spF q cl):=by
 obtain⟨b,hb,_⟩:=q7E on wr p1 hl h
 rw[hb]
 unfold q17 jM at hb
 unfold spF
 rw[jY]at hb
 cases z:(List.range q.B).find? (jO q.P q.fi)with
 |some c=>rw[z]at hb;exact hb.symm
 |none=>
  rw[z]at hb
  rw[←qCM hl]
  have hb:l.head?=some b:=hb
  rw[hb]
  rfl
noncomputable def lvP(P b:Nat)(V:Mp):List (List Int):=(List.range P).filterMap λf=>(V.find? λy=>decide (y.2=((b*P+f:Nat):Int))).map λy=>[y.2,y.1]
theorem zN{P b:Nat}{V:Mp}(hP:1≤P)(pd:(V.map (·.2)).Nodup){k:List Int}:k∈lvP P b V↔∃y∈V,y.2 / (P:Int)=(b:Int)∧k=[y.2,y.1]:=by
 unfold lvP
 rw[wE]
 constructor
 ·rintro⟨f,hf,e⟩
  have hf:=mM.mp hf
  cases z:V.find? λy=>decide (y.2=((b*P+f:Nat):Int))with
  |none=>rw[z]at e;cases e
  |some y=>
   rw[z]at e
   have e1:=rP z
   have e2:y.2=((b*P+f:Nat):Int):=by simpa using rC z
   refine⟨y,e1,?_,(kQ e).symm⟩
   rw[e2,←g5,yD hf]
 ·rintro⟨y,hy,hb,rfl⟩
  have h0:0≤y.2:=by
   refine dQ λz=>?_
   have:=Int.ediv_neg_of_neg_of_pos (a:=y.2) (b:=(P:Int)) (by omega) (by omega)
   omega
  have e:=Int.mul_ediv_add_emod y.2 (P:Int)
  have m0:=Int.emod_nonneg y.2 (show(P:Int)≠0 by omega)
  have m1:=Int.emod_lt_of_pos y.2 (show(0:Int)<(P:Int) by omega)
  refine⟨(y.2%(P:Int)).toNat,mM.mpr (by omega),?_⟩
  have ey:y.2=((b*P+(y.2%(P:Int)).toNat:Nat):Int):=by
   rw[sL,dO,←hb,Int.mul_comm]
   omega
  cases z:V.find? λw=>decide (w.2=((b*P+(y.2%(P:Int)).toNat:Nat):Int))with
  |none=>exact absurd (hG ey) (rJ.mp z y hy)
  |some w=>
   have e1:=rP z
   have e2:w.2=((b*P+(y.2%(P:Int)).toNat:Nat):Int):=by simpa using rC z
   have:w=y:=by
    clear z
    induction V with
    |nil=>cases e1
    |cons v V ih=>
     rw[mU]at pd
     obtain⟨n1,n2⟩:=m9.mp pd
     rcases kL.mp e1 with a|a<;>rcases kL.mp hy with c|c
     ·rw[a,c]
     ·exact(n1 (by rw[←a,e2,←ey];exact kZ.mpr ⟨y,c,rfl⟩)).elim
     ·exact(n1 (by rw[←c,ey,←e2];exact kZ.mpr ⟨w,a,rfl⟩)).elim
     ·exact ih n2 c a
   rw[this]
   rfl
theorem qAN{P b:Nat}{V:Mp}:(lvP P b V).Pairwise λa c=>lx c a=false∧a≠c:=by
 unfold lvP
 refine List.pairwise_filterMap.mpr (dG.imp fun {f g} hfg k hk k' hk'=>?_)
 cases z:V.find? λy=>decide (y.2=((b*P+f:Nat):Int))with
 |none=>rw[z]at hk;cases hk
 |some y=>
  cases z':V.find? λy=>decide (y.2=((b*P+g:Nat):Int))with
  |none=>rw[z']at hk';cases hk'
  |some y'=>
   rw[z]at hk
   rw[z']at hk'
   have e2:y.2=((b*P+f:Nat):Int):=by simpa using rC z
   have e3:y'.2=((b*P+g:Nat):Int):=by simpa using rC z'
   obtain rfl:[y.2,y.1]=k:=kQ hk
   obtain rfl:[y'.2,y'.1]=k':=kQ hk'
   refine⟨?_,λw=>?_⟩
   ·unfold lx
    rw[kF (by omega)]
    exact kD (by omega)
   ·injection w with w _
    omega
theorem qGG{P b:Nat}{V:Mp}{rs:List (List Int)}(hP:1≤P)(pd:(V.map (·.2)).Nodup)(nd:rs.Nodup)(mm:∀k,k∈rs↔∃n p,k=[p,n]∧(n,p)∈V∧p / (P:Int)=(b:Int))(so:rs.Pairwise λa b=>lx b a=false):rs=lvP P b V:=by
 refine qE5 (q2J nd (qAN.imp λz=>z.2) λk=>?_) so (qAN.imp λz=>z.1)
 rw[mm,zN hP pd]
 constructor
 ·rintro⟨n,p,rfl,h1,h2⟩
  exact⟨(n,p),h1,h2,rfl⟩
 ·rintro⟨y,h1,h2,rfl⟩
  exact⟨y.1,y.2,rfl,h1,h2⟩
end
structure XS where
 q:QM
 cl:List Int
 pg:Nat→Option (Int×Int)
 lf:Option Int
 rc:List (Str×Int×Bool)
structure Tm where
 ie:Nat
 sp:Int
 ev:Bool
noncomputable def mnL:List Int→Option Int
 | []=>none
 |a::l=>match mnL l with
  |none=>some a
  |some m=>some (if a≤m then a else m)
theorem q5V:∀{l:List Int},l≠[]→∃m,mnL l=some m∧m∈l∧∀a∈l,m≤a
 | [],h=>absurd rfl h
 | [a],_=>⟨a,rfl,by simp,λb hb=>by rw[hV.mp hb];exact gJ _⟩
 |a::b::l,_=>by
  obtain⟨m,e,h1,h2⟩:=q5V (l:=b::l) (by simp)
  unfold mnL
  rw[e]
  by_cases z:a≤m
  ·refine⟨a,by dsimp only;rw[kI z],by simp,λc hc=>?_⟩
   rcases kL.mp hc with e|hc
   ·rw[e];exact gJ _
   ·exact cQ z (h2 c hc)
  ·refine⟨m,by dsimp only;rw[kF z],hX _ h1,λc hc=>?_⟩
   rcases kL.mp hc with e|hc
   ·rw[e];omega
   ·exact h2 c hc
namespace XS
variable(s:XS)
noncomputable def pb:Nat:=spF s.q s.cl
noncomputable def pf:Nat:=(s.q.fi.getD s.pb 0).toNat
noncomputable def np:Nat:=s.pb*s.q.P+s.pf
noncomputable def put(n v:Int):XS:=⟨s.q.put s.pb s.pf n,s.cl,λi=>if i=s.np then some (s.q.nx*128+n,v)else s.pg i,s.lf.map (· - 1),s.rc++[(Str.ofString "put",(s.np:Int),true)]⟩
noncomputable def wip(b:Nat):XS:=⟨s.q.emptied b,s.cl.set b (s.cl.getD b 0+1),λi=>if i / s.q.P=b then none else s.pg i,s.lf.map (· - 1),s.rc++[(Str.ofString "wipe",(b:Int),true)]⟩
noncomputable def forg(n:Int):XS:={ s with q:=s.q.forget n }
noncomputable def rmX:Nat:=rm s.q.B s.q.P s.q.fi
noncomputable def hl:List Int:=((s.q.V.map (·.1)).filter λn=>decide (n≠64)).mergeSort λa b=>decide (a≤b)
noncomputable def bits(ns:List Int):Int:=((orB (ns.map Int.toNat) 0:Nat):Int)
noncomputable def val(p n:Int):Int:=if n=64 then bits s.hl else((s.pg p.toNat).getD (0,0)).2
noncomputable def mvs:List (List Int)→XS→XS×Option (List (List Int))
 | [],s=>(s,some [])
 |k::r,s=>if s.lf=some 0 then(s,none)else
  match mvs r (s.put (k.getD 1 0) (s.val (k.getD 0 0) (k.getD 1 0)))with
  |(s',none)=>(s',none)
  |(s',some ms)=>(s',some ([k.getD 1 0,k.getD 0 0,(s.np:Int)]::ms))
noncomputable def spc(k:Tm):Int:=if(1+k.ie)*s.q.P≤s.rmX then(s.q.P:Int)else(s.rmX:Int)-(k.ie*s.q.P:Nat)
noncomputable def ful(k:Tm):List Nat:=(List.range s.q.B).filter λb=>decide (s.q.fi.getD b 0=(s.q.P:Int))&&decide (s.q.lv.getD b 0≤s.spc k)
noncomputable def ded(k:Tm):List Nat:=(s.ful k).filter λb=>decide (s.q.lv.getD b 0<(s.q.P:Int))
noncomputable def lst:Int:=(mnL s.cl).getD 0
noncomputable def clb(k:Tm)(L:List Nat):List Nat:=L.filter λb=>decide (s.cl.getD b 0<s.lst+k.sp)
noncomputable def opt(k:Tm):List Nat:=if k.ev then s.clb k (s.ded k)else s.ded k
noncomputable def tl(b:Nat):Tl:=⟨(b:Int),s.q.lv.getD b 0,s.cl.getD b 0,s.q.bo.getD b 0⟩
noncomputable def ots(k:Tm):List Tl:=(s.opt k).map s.tl
noncomputable def chg(k:Tm):Option Nat:=minF s.cl (s.clb k (s.ful k))
noncomputable def rd(k:Tm):Bool:=decide ((1+k.ie)*s.q.P<s.rmX)
noncomputable def tk(k:Tm)(g:Rl):Option (Str×Nat×Rl):=
 if s.opt k=[]then(if k.ev then(s.chg k).map λb=>("even",b,g)else none)
 else some ("rule",(g.ch (s.q.P:Int) s.q.nx (s.ots k)).1.toNat,(g.ch (s.q.P:Int) s.q.nx (s.ots k)).2)
end XS
inductive Rf where
 |dark|room
structure Pa where
 why:Str
 ts:List Tl
 b:Nat
 mv:List (List Int)
structure Sx where
 s:XS
 g:Rl
 ps:List Pa
namespace Sx
noncomputable def room(k:Tm)(X:Sx):Sx×Except Rf Pa:=match X.s.tk k X.g with
 |none=>(X,.error .room)
 |some (y,b,g)=>match XS.mvs (lvP X.s.q.P b X.s.q.V) X.s with
  |(s,none)=>(⟨s,g,X.ps⟩,.error .dark)
  |(s,some ms)=>if s.lf=some 0 then(⟨s,g,X.ps⟩,.error .dark)else(⟨s.wip b,g,X.ps++[⟨y,X.s.ots k,b,ms⟩]⟩,.ok ⟨y,X.s.ots k,b,ms⟩)
noncomputable def rooms(k:Tm):Nat→Sx→Option (Sx×Except Rf Unit)
 |0,X=>if X.s.rd k then some (X,.ok ())else none
 |i+1,X=>if X.s.rd k then some (X,.ok ())else match X.room k with
  |(Y,.error e)=>some (Y,.error e)
  |(Y,.ok _)=>rooms k i Y
noncomputable def ask(k:Tm)(i:Nat)(X:Sx)(n v:Int):Option (Sx×Except Rf Nat):=match X.rooms k i with
 |none=>none
 |some (Y,.error e)=>some (Y,.error e)
 |some (Y,.ok _)=>if Y.s.lf=some 0 then some (Y,.error .dark)else some (⟨Y.s.put n v,Y.g,Y.ps⟩,.ok Y.s.np)
end Sx
structure WX(k:Tm)(s:XS):Prop where
 qs:QS s.q
 on:OneP s.q.B s.q.P s.q.fi
 lc:s.cl.length=s.q.B
 cr:∀b f:Nat,b<s.q.B→s.q.fi.getD b 0≤(f:Int)→f<s.q.P→s.pg (b*s.q.P+f)=none
 vl:∀y∈s.q.V,∃b f:Nat,∃v:Int×Int,b<s.q.B∧f<s.q.P∧y.2=((b*s.q.P+f:Nat):Int)∧(f:Int)<s.q.fi.getD b 0∧s.pg (b*s.q.P+f)=some v
 pd:(s.q.V.map (·.2)).Nodup
 c0:∀b,0≤s.cl.getD b 0∧s.cl.getD b 0≤(s.rc.length:Int)
 bo:∀b,0≤s.q.bo.getD b 0∧s.q.bo.getD b 0<s.q.nx
 nx:1≤s.q.nx
 sl:k.ie*s.q.P≤s.rmX
 l6:s.q.V.length<60
 l0:∀i,s.lf=some i→0≤i
theorem q7Z{P b f c g:Nat}(hf:f<P)(hg:g<P)(e:b*P+f=c*P+g):b=c∧f=g:=by
 have h1:=yD (b:=b) hf
 have h2:=yD (b:=c) hg
 rw[e,h2]at h1
 subst h1
 exact⟨rfl,by omega⟩
theorem q0E{V:Mp}{n:Int}(nd:(V.map (·.1)).Nodup):(jJ V n).length≤V.length∧∀p,(n,p)∈V→(jJ V n).length+1=V.length:=by
 refine⟨mE _ _,λp h=>?_⟩
 induction V with
 |nil=>exact absurd h (by simp)
 |cons y V ih=>
  rw[mU]at nd
  obtain⟨n1,n2⟩:=m9.mp nd
  unfold jJ
  rw[gC]
  rcases kL.mp h with e|h
  ·subst e
   rw[kF (by simp),mG]
   have:V.filter (λq=>decide (q.1≠n))=V:=rE.mpr λz hz=>hG λe=>n1 (kZ.mpr ⟨z,hz,e⟩)
   rw[this]
  ·have ne:y.1≠n:=λe=>n1 (kZ.mpr ⟨_,h,e.symm⟩)
   rw[kI (hG ne),mG,mG]
   have:=ih n2 h
   unfold jJ at this
   omega
section
variable{k:Tm}{s:XS}
theorem WX.spot(h:WX k s)(hr:0<s.rmX):s.pb<s.q.B∧s.pf<s.q.P∧s.q.fi.getD s.pb 0=(s.pf:Int)∧((jM s.q.B s.q.P (noB s.q.B) s.q.fi=some s.pb)∨(jM s.q.B s.q.P (noB s.q.B) s.q.fi=none∧s.q.fi.getD s.pb 0=0))∧∀l,FreeIs s.q.B (noB s.q.B) s.cl s.q.fi l→q17 s.q.B s.q.P (noB s.q.B) s.q.fi l=some s.pb:=by
 have p1:=h.qs.ok.p1
 have sp:∀l,FreeIs s.q.B (noB s.q.B) s.cl s.q.fi l→q17 s.q.B s.q.P (noB s.q.B) s.q.fi l=some s.pb:=λl hl=>qJ1 h.on h.qs.ok.wr p1 hl hr
 obtain⟨l,hl⟩:=FreeIs.ex s.q.B (noB s.q.B) s.cl s.q.fi
 have hsp:=sp l hl
 obtain⟨b,hb,hc⟩:=q7E h.on h.qs.ok.wr p1 hl hr
 rw[hsp]at hb
 obtain rfl:=kQ hb
 obtain⟨hB,_,f0,f1⟩:=q9J hl p1 hsp
 have:(s.pf:Int)=s.q.fi.getD s.pb 0:=by unfold XS.pf;omega
 exact⟨hB,by omega,this.symm,hc,sp⟩
theorem q80{b f:Nat}{n:Int}{q:QM}(lf:q.fi.length=q.B)(hb:b<q.B)(ef:q.fi.getD b 0=(f:Int))(c:Nat):(q.put b f n).fi.getD c 0=if b=c then(f:Int)+1 else q.fi.getD c 0:=by
 show(q.fi.set b (q.fi.getD b 0+1)).getD c 0=_
 rw[ef,jG,lf]
 by_cases e:b=c
 ·rw[kI ⟨e,hb⟩,kI e]
 ·rw[kF (λz=>e z.1),kF e]
theorem WX.put(h:WX k s){n v:Int}(hr:k.ie*s.q.P<s.rmX)(n0:0≤n)(n1:n≤64)(hl:(∃p,(n,p)∈s.q.V)∨s.q.V.length<59)(dk:s.lf≠some 0):WX k (s.put n v)∧(s.put n v).rmX+1=s.rmX:=by
 obtain⟨hb,hf,ef,sp,_⟩:=h.spot (by omega)
 have okq:=h.qs.ok
 have gfi:∀c,(s.put n v).q.fi.getD c 0=if s.pb=c then(s.pf:Int)+1 else s.q.fi.getD c 0:=q80 okq.lf hb ef
 have rm1:(s.put n v).rmX+1=s.rmX:=qIZ hb okq.lf ef hf
 refine⟨⟨h.qs.put hb hf ef n0 n1,qGC h.on hb okq.lf sp,h.lc,λc g hc hg hgP=>?_,λy hy=>?_,?_,λc=>?_,λc=>?_,?_,?_,?_,λi e=>?_⟩,rm1⟩
 ·have hgP:g<s.q.P:=hgP
  rw[gfi]at hg
  show(if c*s.q.P+g=s.np then some (s.q.nx*128+n,v)else s.pg (c*s.q.P+g))=none
  by_cases e:s.pb=c
  ·subst e
   rw[kI rfl]at hg
   rw[kF (by unfold XS.np;omega)]
   exact h.cr _ g hc (by omega) hgP
  ·rw[kF e]at hg
   rw[kF (λ(z:c*s.q.P+g=s.np)=>e (q7Z hgP hf z).1.symm)]
   exact h.cr c g hc hg hgP
 ·rcases uE.mp hy with e|⟨hy,hne⟩
  ·rw[e]
   refine⟨s.pb,s.pf,_,hb,hf,rfl,?_,kI rfl⟩
   rw[gfi,kI rfl]
   omega
  ·obtain⟨c,g,w,a1,a2,a3,a4,a5⟩:=h.vl y hy
   refine⟨c,g,w,a1,a2,a3,?_,?_⟩
   ·rw[gfi]
    by_cases e:s.pb=c
    ·subst e;rw[kI rfl];omega
    ·rw[kF e];exact a4
   ·show(if c*s.q.P+g=s.np then some (s.q.nx*128+n,v)else s.pg (c*s.q.P+g))=some w
    rw[kF (λ(z:c*s.q.P+g=s.np)=>?_)]
    ·exact a5
    ·obtain⟨e1,e2⟩:=q7Z a2 hf z
     rw[e1,ef]at a4
     omega
 ·show((jJ s.q.V n++[(n,((s.pb*s.q.P+s.pf:Nat):Int))]).map (·.2)).Nodup
  rw[m7]
  refine wR.mpr ⟨?_,by simp,λa ha c hc=>?_⟩
  ·exact cU (List.Sublist.map _ wZ) h.pd
  ·obtain⟨y,hy,rfl⟩:=kZ.mp ha
   have hc:c=((s.pb*s.q.P+s.pf:Nat):Int):=by simpa using hc
   rw[hc]
   intro z
   obtain⟨c',g,w,a1,a2,a3,a4,a5⟩:=h.vl y (jD.mp hy).1
   rw[a3]at z
   obtain⟨e1,e2⟩:=q7Z a2 hf (by exact Int.ofNat.inj z)
   rw[e1,ef]at a4
   omega
 ·show 0≤s.cl.getD c 0∧s.cl.getD c 0≤((s.rc++[_]).length:Int)
  have:=h.c0 c
  rw[kP,mP]
  omega
 ·show 0≤(if s.q.fi.getD s.pb 0=0 then s.q.bo.set s.pb s.q.nx else s.q.bo).getD c 0∧(if s.q.fi.getD s.pb 0=0 then s.q.bo.set s.pb s.q.nx else s.q.bo).getD c 0<s.q.nx+1
  have:=h.bo c
  have:=h.nx
  split
  ·rw[jG]
   split<;>omega
  ·omega
 ·show 1≤s.q.nx+1
  have:=h.nx
  omega
 ·show k.ie*s.q.P≤(s.put n v).rmX
  omega
 ·show(jJ s.q.V n++[_]).length<60
  rw[kP,mP]
  obtain⟨d1,d2⟩:=q0E (V:=s.q.V) (n:=n) okq.nd
  have:=h.l6
  rcases hl with⟨p,hp⟩|hl
  ·have:=d2 p hp
   omega
  ·omega
 ·have e:s.lf.map (· - 1)=some i:=e
  cases z:s.lf with
  |none=>rw[z]at e;cases e
  |some j=>
   rw[z]at e
   have e:j-1=i:=kQ e
   have:=h.l0 j z
   have:j≠0:=λy=>dk (by rw[z,y])
   omega
theorem WX.wip(h:WX k s){b:Nat}(hb:b<s.q.B)(ef:s.q.fi.getD b 0=(s.q.P:Int))(nl:∀y∈s.q.V,¬y.2 / (s.q.P:Int)=(b:Int))(dk:s.lf≠some 0):WX k (s.wip b)∧(s.wip b).rmX=s.rmX+s.q.P:=by
 have okq:=h.qs.ok
 have rm1:(s.wip b).rmX=s.rmX+s.q.P:=qGB hb okq.lf ef
 have gfi:∀c,(s.wip b).q.fi.getD c 0=if b=c then 0 else s.q.fi.getD c 0:=λc=>by
  show(s.q.fi.set b 0).getD c 0=_
  rw[jG,okq.lf]
  by_cases e:b=c
  ·rw[kI ⟨e,hb⟩,kI e]
  ·rw[kF (λz=>e z.1),kF e]
 refine⟨⟨h.qs.emptied b,qEH h.on,?_,λc g hc hg hgP=>?_,λy hy=>?_,h.pd,λc=>?_,λc=>?_,h.nx,?_,h.l6,λi e=>?_⟩,rm1⟩
 ·show(s.cl.set _ _).length=_
  rw[gG]
  exact h.lc
 ·show(if(c*s.q.P+g) / s.q.P=b then none else s.pg (c*s.q.P+g))=none
  have hgP:g<s.q.P:=hgP
  rw[yD hgP]
  by_cases e:c=b
  ·rw[kI e]
  ·rw[kF e]
   rw[gfi,kF (λz=>e z.symm)]at hg
   exact h.cr c g hc hg hgP
 ·obtain⟨c,g,w,a1,a2,a3,a4,a5⟩:=h.vl y hy
  have cb:c≠b:=λz=>nl _ hy (by rw[a3,←g5,yD a2,z])
  refine⟨c,g,w,a1,a2,a3,?_,?_⟩
  ·rw[gfi,kF (λz=>cb z.symm)]
   exact a4
  ·show(if(c*s.q.P+g) / s.q.P=b then none else s.pg (c*s.q.P+g))=_
   rw[yD a2,kF cb]
   exact a5
 ·show 0≤(s.cl.set b (s.cl.getD b 0+1)).getD c 0∧(s.cl.set b (s.cl.getD b 0+1)).getD c 0≤((s.rc++[_]).length:Int)
  have h1:=h.c0 c
  have h2:=h.c0 b
  rw[kP,mP,jG]
  split<;>omega
 ·show 0≤(s.q.bo.set b 0).getD c 0∧(s.q.bo.set b 0).getD c 0<s.q.nx
  have h1:=h.bo c
  have h2:=h.nx
  rw[jG]
  split<;>omega
 ·show k.ie*s.q.P≤(s.wip b).rmX
  have:=h.sl
  omega
 ·have e:s.lf.map (· - 1)=some i:=e
  cases z:s.lf with
  |none=>rw[z]at e;cases e
  |some j=>
   rw[z]at e
   have e:j-1=i:=kQ e
   have:=h.l0 j z
   have:j≠0:=λy=>dk (by rw[z,y])
   omega
theorem WX.forg(h:WX k s)(n:Int):WX k (s.forg n):=by
 refine⟨h.qs.forget n,h.on,h.lc,h.cr,λy hy=>h.vl y (jD.mp hy).1,?_,h.c0,h.bo,h.nx,h.sl,?_,h.l0⟩
 ·exact cU (List.Sublist.map _ wZ) h.pd
 ·have:=(q0E (V:=s.q.V) (n:=n) h.qs.ok.nd).1
  have:=h.l6
  show(jJ s.q.V n).length<60
  omega
end
theorem q81{V:Mp}{n p p':Int}(nd:(V.map (·.1)).Nodup)(h:(n,p)∈V)(h':(n,p')∈V):p=p':=by
 induction V with
 |nil=>exact absurd h (by simp)
 |cons y V ih=>
  rw[mU]at nd
  obtain⟨n1,n2⟩:=m9.mp nd
  rcases kL.mp h with e|h<;>rcases kL.mp h' with e'|h'
  ·rw[←e]at e'
   injection e' with _ e'
   exact e'.symm
  ·exact(n1 (kZ.mpr ⟨_,h',by rw[←e]⟩)).elim
  ·exact(n1 (kZ.mpr ⟨_,h,by rw[←e']⟩)).elim
  ·exact ih n2 h h'
theorem q49{P b:Nat}{V:Mp}:(lvP P b V).Nodup:=qAN.imp λz=>z.2
theorem vQ{q:QM}{b:Nat}(h:QS q)(pd:(q.V.map (·.2)).Nodup)(hb:b<q.B):((lvP q.P b q.V).length:Int)=q.lv.getD b 0:=by
 rw[h.lv b hb]
 have nd:=h.ok.nd
 have:(lvP q.P b q.V).Perm ((q.V.filter λy=>decide (y.2 / (q.P:Int)=(b:Int))).map λy=>[y.2,y.1]):=q2J q49 (g9.mpr (((g9.mp nd).imp fun {a c} hne z=>hne (by
  injection z with _ z
  injection z with z _)).filter _)) λk=>by
  rw[zN h.ok.p1 pd,kZ]
  constructor
  ·rintro⟨y,h1,h2,rfl⟩
   exact⟨y,mJ.mpr ⟨h1,hG h2⟩,rfl⟩
  ·rintro⟨y,hy,rfl⟩
   obtain⟨a1,a2⟩:=mJ.mp hy
   exact⟨y,a1,mV a2,rfl⟩
 rw[this.length_eq,h9]
 unfold cntB
 rw[wL]
structure MvI(k:Tm)(s0:XS)(b:Nat)(rs:List (List Int))(i:Nat)(s:XS)(ms:List (List Int)):Prop where
 w:WX k s
 e:XS.mvs rs s0=(match XS.mvs (rs.drop i) s with|(s',none)=>(s',none)|(s',some m)=>(s',some (ms++m)))
 l:ms.length=i
 rc:s.rc.length=s0.rc.length+i
 rm:s.rmX+i=s0.rmX
 eB:s.q.B=s0.q.B
 eP:s.q.P=s0.q.P
 ec:s.cl=s0.cl
 fb:s.q.fi.getD b 0=(s0.q.P:Int)
 fm:∀c,s0.q.fi.getD c 0≤s.q.fi.getD c 0∧(s0.q.fi.getD c 0=(s0.q.P:Int)→s.q.fi.getD c 0=(s0.q.P:Int))
 nm:∀n,(∃p,(n,p)∈s.q.V)↔∃p,(n,p)∈s0.q.V
 dr:∀kk∈rs.drop i,∃n p,kk=[p,n]∧(n,p)∈s.q.V∧p / (s0.q.P:Int)=(b:Int)
 dl:∀y∈s.q.V,y.2 / (s0.q.P:Int)=(b:Int)→[y.2,y.1]∈rs.drop i
 lV:s.q.V.length=s0.q.V.length
section
variable{k:Tm}{s0 s:XS}{b i:Nat}{ms:List (List Int)}
theorem MvI.zero(w:WX k s0)(fb:s0.q.fi.getD b 0=(s0.q.P:Int)):MvI k s0 b (lvP s0.q.P b s0.q.V) 0 s0 []:=by
 refine⟨w,?_,rfl,rfl,rfl,rfl,rfl,rfl,fb,λc=>⟨gJ _,λz=>z⟩,λn=>Iff.rfl,λkk hk=>?_,λy hy hb=>(zN w.qs.ok.p1 w.pd).mpr ⟨y,hy,hb,rfl⟩,rfl⟩
 ·rw[List.drop_zero]
  cases XS.mvs (lvP s0.q.P b s0.q.V) s0 with
  |mk s' o=>cases o<;>rfl
 ·obtain⟨y,hy,hb,rfl⟩:=(zN w.qs.ok.p1 w.pd).mp hk
  exact⟨y.1,y.2,rfl,hy,hb⟩
variable{rs:List (List Int)}
theorem MvI.at(h:MvI k s0 b rs i s ms)(hi:i<rs.length):∃n p,rs[i]=[p,n]∧(n,p)∈s.q.V∧0≤n∧n≤64:=by
 obtain⟨n,p,e1,e2,_⟩:=h.dr rs[i] (by rw[gT hi];exact kW)
 have:=h.w.qs.ok.nm _ e2
 exact⟨n,p,e1,e2,this.1,this.2⟩
theorem MvI.dark(h:MvI k s0 b rs i s ms)(hi:i<rs.length)(dk:s.lf=some 0):XS.mvs rs s0=(s,none):=by
 rw[h.e,gT hi]
 unfold XS.mvs
 rw[kI dk]
theorem MvI.fin(h:MvI k s0 b rs i s ms)(hi:i=rs.length):XS.mvs rs s0=(s,some ms)∧∀y∈s.q.V,¬y.2 / (s.q.P:Int)=(b:Int):=by
 subst hi
 refine⟨?_,λy hy z=>?_⟩
 ·rw[h.e,sG]
  show(s,some (ms++[]))=_
  rw[dA]
 ·have:=h.dl y hy (by rw[←h.eP];exact z)
  rw[sG]at this
  cases this
theorem MvI.step(h:MvI k s0 b rs i s ms)(nd:rs.Nodup)(hi:i<rs.length)(hr:k.ie*s0.q.P+rs.length≤s0.rmX)(dk:s.lf≠some 0){n p:Int}(er:rs[i]=[p,n]):
 MvI k s0 b rs (i+1) (s.put n (s.val p n)) (ms++[[n,p,(s.np:Int)]]):=by
 have dre:rs.drop i=[p,n]::rs.drop (i+1):=by rw[gT hi,er]
 obtain⟨n',p',e0,hnp,hpb⟩:=h.dr [p,n] (by rw[dre];simp)
 obtain⟨rfl,rfl⟩:p=p'∧n=n':=by
  injection e0 with e1 e0
  injection e0 with e2 _
  exact⟨e1,e2⟩
 have nb:=h.w.qs.ok.nm _ hnp
 have rmE:=h.rm
 have hP:=h.eP
 have slk:k.ie*s.q.P<s.rmX:=by rw[hP];omega
 obtain⟨w',rm'⟩:=h.w.put (n:=n) (v:=s.val p n) slk nb.1 nb.2 (.inl ⟨p,hnp⟩) dk
 obtain⟨hb,hf,ef,_,_⟩:=h.w.spot (by omega)
 have gfi:∀c,(s.put n (s.val p n)).q.fi.getD c 0=if s.pb=c then(s.pf:Int)+1 else s.q.fi.getD c 0:=q80 h.w.qs.ok.lf hb ef
 have cb:s.pb≠b:=λz=>by
  rw[z,h.fb,←hP]at ef
  omega
 have newp:((s.np:Nat):Int) / (s0.q.P:Int)=(s.pb:Int):=by
  rw[←hP]
  unfold XS.np
  rw[←g5,yD hf]
 refine⟨w',?_,?_,?_,by omega,h.eB,h.eP,h.ec,?_,λc=>?_,λm=>?_,λkq hkq=>?_,λy hy hyb=>?_,?_⟩
 ·rw[h.e,dre]
  rw[XS.mvs,kF dk]
  show(match(match XS.mvs (rs.drop (i+1)) (s.put n (s.val p n))with|(s',none)=>(s',none)|(s',some m)=>(s',some ([n,p,(s.np:Int)]::m)))with|(s',none)=>(s',none)|(s',some m)=>(s',some (ms++m)))=_
  cases XS.mvs (rs.drop (i+1)) (s.put n (s.val p n))with
  |mk s' o=>
   cases o with
   |none=>rfl
   |some m=>
    show(s',some (ms++([n,p,(s.np:Int)]::m)))=(s',some ((ms++[[n,p,(s.np:Int)]])++m))
    rw[cP]
    rfl
 ·rw[kP,h.l]
  rfl
 ·show(s.rc++[_]).length=_
  rw[kP,h.rc]
  rfl
 ·rw[gfi,kF cb]
  exact h.fb
 ·obtain⟨m1,m2⟩:=h.fm c
  rw[gfi]
  by_cases e:s.pb=c
  ·subst e
   rw[kI rfl]
   refine⟨by omega,λz=>?_⟩
   have:=m2 z
   rw[ef,←hP]at this
   omega
  ·rw[kF e]
   exact⟨m1,m2⟩
 ·rw[←h.nm m]
  constructor
  ·rintro⟨p1,h1⟩
   rcases uE.mp h1 with e|⟨h1,_⟩
   ·cases e
    exact⟨p,hnp⟩
   ·exact⟨p1,h1⟩
  ·rintro⟨p1,h1⟩
   by_cases e:m=n
   ·exact⟨_,uE.mpr (.inl (by rw[e]))⟩
   ·exact⟨p1,uE.mpr (.inr ⟨h1,e⟩)⟩
 ·have hkq':kq∈rs.drop i:=by rw[dre];exact hX _ hkq
  obtain⟨n',p',rfl,h',hb'⟩:=h.dr kq hkq'
  refine⟨n',p',rfl,uE.mpr (.inr ⟨h',λe=>?_⟩),hb'⟩
  have e:n'=n:=e
  subst e
  have:=q81 h.w.qs.ok.nd h' hnp
  subst this
  have nn:=nd
  rw[←List.take_append_drop i rs,dre]at nn
  have:=(wR.mp nn).2.1
  exact(m9.mp this).1 hkq
 ·rcases uE.mp hy with e|⟨hy,hne⟩
  ·rw[e]at hyb
   have hyb:((s.np:Nat):Int) / (s0.q.P:Int)=(b:Int):=hyb
   rw[newp]at hyb
   exact(cb (by omega)).elim
  ·have:=h.dl y hy hyb
   rw[dre]at this
   rcases kL.mp this with e|e
   ·injection e with _ e
    injection e with e _
    exact(hne e).elim
   ·exact e
 ·show(jJ s.q.V n++[_]).length=_
  rw[kP,mP,(q0E (V:=s.q.V) (n:=n) h.w.qs.ok.nd).2 p hnp]
  exact h.lV
structure Mvd(k:Tm)(s0:XS)(b:Nat)(s:XS)(n:Nat):Prop where
 w:WX k s
 rc:s.rc.length=s0.rc.length+n
 rm:s.rmX+n=s0.rmX
 eB:s.q.B=s0.q.B
 eP:s.q.P=s0.q.P
 ec:s.cl=s0.cl
 fb:s.q.fi.getD b 0=(s0.q.P:Int)
 fm:∀c,s0.q.fi.getD c 0≤s.q.fi.getD c 0∧(s0.q.fi.getD c 0=(s0.q.P:Int)→s.q.fi.getD c 0=(s0.q.P:Int))
 nm:∀n,(∃p,(n,p)∈s.q.V)↔∃p,(n,p)∈s0.q.V
 lV:s.q.V.length=s0.q.V.length
 lb:b<s0.q.B→s.q.lv.getD b 0+n=(lvP s0.q.P b s0.q.V).length
theorem MvI.mvd(h:MvI k s0 b (lvP s0.q.P b s0.q.V) i s ms)(hi:i≤(lvP s0.q.P b s0.q.V).length):Mvd k s0 b s i:=by
 refine⟨h.w,h.rc,h.rm,h.eB,h.eP,h.ec,h.fb,h.fm,h.nm,h.lV,λhb=>?_⟩
 rw[←vQ h.w.qs h.w.pd (by rw[h.eB];exact hb)]
 have:(lvP s.q.P b s.q.V).Perm ((lvP s0.q.P b s0.q.V).drop i):=q2J q49 (cU (List.drop_sublist _ _) q49) λk=>by
  rw[zN h.w.qs.ok.p1 h.w.pd,h.eP]
  constructor
  ·rintro⟨y,h1,h2,rfl⟩
   exact h.dl y h1 h2
  ·intro hk
   obtain⟨n,p,rfl,h1,h2⟩:=h.dr k hk
   exact⟨_,h1,h2,rfl⟩
 rw[this.length_eq,p6]
 omega
end
section
variable{k:Tm}{s:XS}{l:List Nat}{m:CM}
theorem qJ2(h:WX k s)(hl:FreeIs s.q.B (noB s.q.B) s.cl s.q.fi l):spcN (k.ie:Int) l s.q.P s.q.fi (jM s.q.B s.q.P (noB s.q.B) s.q.fi)=s.spc k:=by
 have p1:=h.qs.ok.p1
 have sl:=h.sl
 unfold spcN XS.spc
 unfold XS.rmX at sl ⊢
 rcases q1N h.on h.qs.ok.wr p1 hl with⟨h1,h2⟩|⟨b,e,h1,e1,e2,h2,e3⟩
 ·rw[h2]at sl
  rw[h1,h2]
  by_cases z:1+k.ie≤l.length
  ·rw[kI (by omega),kI (g0 _ z)]
  ·have le:l.length=k.ie:=by
    have:¬l.length<k.ie:=λy=>by
     have:=g0 s.q.P (show l.length+1≤k.ie by omega)
     rw[gZ,dP]at this
     omega
    omega
   rw[kF (by omega),kF (by rw[le,gZ,dP];omega),le]
   show(0:Int)=_
   omega
 ·rw[h2]at sl
  rw[h1,h2]
  by_cases z:1+k.ie≤l.length
  ·have:=g0 s.q.P z
   rw[kI (by omega),kI (by omega)]
  ·have le:l.length=k.ie:=by
    have:¬l.length<k.ie:=λy=>by
     have:=g0 s.q.P (show l.length+1≤k.ie by omega)
     rw[gZ,dP]at this
     omega
    omega
   rw[kF (by omega),kF (by rw[le,gZ,dP];omega),le]
   show(s.q.P:Int)-s.q.fi.getD b 0=_
   omega
theorem qEM(h:WX k s)(hl:FreeIs s.q.B (noB s.q.B) s.cl s.q.fi l):((jW s.q.B s.q.P (noB s.q.B) s.q.fi).filter λb=>decide (s.q.lv.getD b 0≤spcN (k.ie:Int) l s.q.P s.q.fi (jM s.q.B s.q.P (noB s.q.B) s.q.fi)))=s.ful k:=by
 unfold jW XS.ful
 rw[jY,qJ2 h hl,List.filter_filter]
 refine pZ λb _=>?_
 rw[Bool.and_comm]
theorem qEN(h:WX k s)(br:m.br=noB s.q.B)(hl:FreeIs s.q.B (noB s.q.B) s.cl s.q.fi l):optN (k.ie:Int) m s.q l=s.ded k:=by
 unfold optN XS.ded
 rw[br,qEM h hl]
theorem qHB(e:m.cl=s.cl):tlOf m s.q=s.tl:=by
 funext b
 unfold tlOf XS.tl
 rw[e]
theorem qJ3(h:WX k s)(hl:FreeIs s.q.B (noB s.q.B) s.cl s.q.fi l):rdy (k.ie:Int) l (jM s.q.B s.q.P (noB s.q.B) s.q.fi)=s.rd k:=qG9 h.on h.qs.ok.wr h.qs.ok.p1 hl
structure Full(k:Tm)(s:XS)(c:Nat):Prop where
 b:c<s.q.B
 f:s.q.fi.getD c 0=(s.q.P:Int)
 l:s.q.lv.getD c 0≤s.spc k
theorem q56{b:Nat}:b∈s.ful k↔Full k s b:=by
 unfold XS.ful
 rw[mJ,mM,mR,kU,kU]
 exact⟨λ⟨a,b,c⟩=>⟨a,b,c⟩,λh=>⟨h.b,h.f,h.l⟩⟩
theorem q0Q{b:Nat}:b∈s.ded k↔Full k s b∧s.q.lv.getD b 0<(s.q.P:Int):=by
 unfold XS.ded
 rw[mJ,q56,kU]
theorem yR{b:Nat}:b∈s.opt k↔(Full k s b∧s.q.lv.getD b 0<(s.q.P:Int))∧(k.ev=true→s.cl.getD b 0<s.lst+k.sp):=by
 unfold XS.opt XS.clb
 cases k.ev with
 |false=>
  rw[kF (by decide),q0Q]
  exact⟨λh=>⟨h,λz=>by cases z⟩,λh=>h.1⟩
 |true=>
  rw[kI rfl,mJ,q0Q,kU]
  exact⟨λh=>⟨h.1,λ_=>h.2⟩,λh=>⟨h.1,h.2 rfl⟩⟩
theorem Full.sp(h:WX k s){b:Nat}(f:Full k s b):k.ie*s.q.P+(lvP s.q.P b s.q.V).length≤s.rmX:=by
 have e:=vQ h.qs h.pd f.b
 have l:=f.l
 have sl:=h.sl
 have lb:=h.qs.lv b f.b
 have cn:(lvP s.q.P b s.q.V).length≤s.q.P:=by
  unfold lvP
  refine mF (d6 _ _) ?_
  rw[mZ]
  exact kM _
 unfold XS.spc at l
 split at l
 ·rename_i z
  rw[gZ,dP]at z
  omega
 ·omega
theorem qGH{L:List Nat}:∀a∈L.map s.tl,∀c∈L.map s.tl,a.b=c.b→a=c:=λa ha c hc e=>by
 obtain⟨x,_,rfl⟩:=kZ.mp ha
 obtain⟨y,_,rfl⟩:=kZ.mp hc
 have e:(x:Int)=(y:Int):=e
 rw[show x=y by omega]
theorem qBN(h:WX k s){b:Nat}(hb:b<s.q.B):0≤s.q.lv.getD b 0∧s.q.lv.getD b 0≤(s.q.P:Int):=by
 have e:=vQ h.qs h.pd hb
 have cn:(lvP s.q.P b s.q.V).length≤s.q.P:=by
  unfold lvP
  refine mF (d6 _ _) ?_
  rw[mZ]
  exact kM _
 omega
theorem qKG(h:WX k s)(rc:s.rc.length<1000000){b:Nat}(hb:b<s.q.B):(s.tl b).Ok (s.q.P:Int) s.q.nx:=by
 have b2:=h.qs.ok.b2
 have c:=h.c0 b
 have d:=h.bo b
 have e:=qBN h hb
 refine⟨?_,?_,e.1,e.2,c.1,?_,d.1,d.2⟩
 ·show(0:Int)≤(b:Int)
  omega
 ·show(b:Int)<16
  omega
 ·show s.cl.getD b 0<10 ^ 30
  have:(1000000:Int)<10 ^ 30:=by decide
  omega
theorem qJ4(h:WX k s):(s.opt k).length≤16:=by
 have b2:=h.qs.ok.b2
 have:(s.ded k).length≤16:=by
  unfold XS.ded XS.ful
  refine mF (mE _ _) (mF (mE _ _) ?_)
  rw[mZ]
  exact b2
 unfold XS.opt XS.clb
 split
 ·exact mF (mE _ _) this
 ·exact this
end
structure Kp(s s':XS):Prop where
 eB:s'.q.B=s.q.B
 eP:s'.q.P=s.q.P
 nm:∀n,(∃p,(n,p)∈s'.q.V)↔∃p,(n,p)∈s.q.V
 lV:s'.q.V.length=s.q.V.length
theorem Kp.refl{s:XS}:Kp s s:=⟨rfl,rfl,λ_=>Iff.rfl,rfl⟩
theorem Kp.trans{a b c:XS}(h:Kp a b)(g:Kp b c):Kp a c:=⟨g.eB.trans h.eB,g.eP.trans h.eP,λn=>(g.nm n).trans (h.nm n),g.lV.trans h.lV⟩
section
variable{k:Tm}{s:XS}{b:Nat}
theorem qAO{P b:Nat}{V:Mp}:(lvP P b V).length≤P:=by
 unfold lvP
 refine mF (d6 _ _) ?_
 rw[mZ]
 exact kM _
theorem q57(R:XS→List (List Int)→Prop)(w:WX k s)(f:Full k s b)(r0:R s [])(rs:∀s' ms n p,WX k s'→Kp s s'→s'.cl=s.cl→s'.q.fi.getD b 0=(s.q.P:Int)→(n,p)∈s'.q.V→p / (s.q.P:Int)=(b:Int)→k.ie*s'.q.P<s'.rmX→s'.lf≠some 0→R s' ms→R (s'.put n (s'.val p n)) (ms++[[n,p,(s'.np:Int)]])):∃s' n ms,Mvd k s b s' n∧ms.length=n∧R s' ms∧((XS.mvs (lvP s.q.P b s.q.V) s=(s',none)∧n<(lvP s.q.P b s.q.V).length∧s'.lf=some 0)∨(XS.mvs (lvP s.q.P b s.q.V) s=(s',some ms)∧n=(lvP s.q.P b s.q.V).length∧∀y∈s'.q.V,¬y.2 / (s'.q.P:Int)=(b:Int))):=by
 have sp:=f.sp w
 have key:∀d i,i+d=(lvP s.q.P b s.q.V).length→∀s' ms,MvI k s b (lvP s.q.P b s.q.V) i s' ms→R s' ms→∃s' n ms,Mvd k s b s' n∧ms.length=n∧R s' ms∧((XS.mvs (lvP s.q.P b s.q.V) s=(s',none)∧n<(lvP s.q.P b s.q.V).length∧s'.lf=some 0)∨(XS.mvs (lvP s.q.P b s.q.V) s=(s',some ms)∧n=(lvP s.q.P b s.q.V).length∧∀y∈s'.q.V,¬y.2 / (s'.q.P:Int)=(b:Int))):=by
  intro d
  induction d with
  |zero=>
   intro i hi s' ms mi hR
   obtain⟨e,nl⟩:=mi.fin (by omega)
   exact⟨s',i,ms,mi.mvd (by omega),mi.l,hR,.inr ⟨e,by omega,nl⟩⟩
  |succ d ih=>
   intro i hi s' ms mi hR
   have hi':i<(lvP s.q.P b s.q.V).length:=by omega
   by_cases dk:s'.lf=some 0
   ·exact⟨s',i,ms,mi.mvd (by omega),mi.l,hR,.inl ⟨mi.dark hi' dk,hi',dk⟩⟩
   ·obtain⟨n,p,er,hnp,_⟩:=mi.at hi'
    have rme:=mi.rm
    obtain⟨n',p',e0,_,hpb⟩:=mi.dr [p,n] (by rw[gT hi',er];exact kW)
    have e1:p=p':=by injection e0
    refine ih (i+1) (by omega) _ _ (mi.step q49 hi' sp dk er) (rs s' ms n p mi.w ⟨mi.eB,mi.eP,mi.nm,mi.lV⟩ mi.ec mi.fb hnp (by rw[e1];exact hpb) (by rw[mi.eP];omega) dk hR)
 exact key _ 0 (sJ _) s [] (MvI.zero w f.f) r0
end
theorem qEO{g:Rl}{pg nw:Int}{ts:List Tl}(ok:g.Ok)(h:ts≠[]):(g.ch pg nw ts).1∈ts.map Tl.b:=by
 cases g with
 |rk f=>
  obtain⟨A,hA,e,_⟩:=qEK (f:=f pg nw) h
  show pk (f pg nw) ts∈_
  rw[e]
  exact kZ.mpr ⟨A,hA,rfl⟩
 |win m=>
  obtain⟨A,hA,e,_⟩:=qEK (f:=Tl.lv) (qGF ok h)
  show pk Tl.lv (winC m ts)∈_
  rw[e]
  exact kZ.mpr ⟨A,qGE A hA,rfl⟩
 |fol row u=>
  have h0:(ts.map Tl.b).headD 0∈ts.map Tl.b:=by
   cases ts with
   |nil=>exact absurd rfl h
   |cons a r=>simp
  show fo row u ts∈_
  unfold fo
  split
  ·split
   ·assumption
   ·exact h0
  ·exact h0
theorem qKH{g:Rl}{pg nw:Int}{ts:List Tl}(ok:g.Ok):(g.ch pg nw ts).2.Ok:=by
 cases g with
 |rk f=>trivial
 |win m=>exact ok
 |fol row u=>trivial
section
variable{k:Tm}{s:XS}{g g':Rl}{y:Str}{b:Nat}
theorem vZ(ok:g.Ok)(h:s.tk k g=some (y,b,g')):(y=Str.ofString "rule"∧b∈s.opt k∧(b:Int)=(g.ch (s.q.P:Int) s.q.nx (s.ots k)).1∧g'=(g.ch (s.q.P:Int) s.q.nx (s.ots k)).2)∨(y=Str.ofString "even"∧k.ev=true∧s.opt k=[]∧g'=g∧s.chg k=some b∧b∈s.clb k (s.ful k)∧∀c∈s.clb k (s.ful k),s.cl.getD b 0≤s.cl.getD c 0):=by
 unfold XS.tk at h
 split at h
 ·rename_i e0
  split at h
  ·rename_i ev
   cases z:s.chg k with
   |none=>rw[z]at h;cases h
   |some c=>
    rw[z]at h
    cases h
    have pw:(s.clb k (s.ful k)).Pairwise (· < ·):=by
     unfold XS.clb XS.ful
     exact g3 _ (g3 _ dG)
    obtain⟨m1,m2⟩:=(q2K (cl:=s.cl) pw).2 b z
    refine .inr ⟨rfl,ev,e0,rfl,rfl,m1,λc hc=>?_⟩
    have:=m2 c hc
    unfold keyN lx at this
    by_cases q:s.cl.getD c 0=s.cl.getD b 0
    ·omega
    ·rw[kF q]at this
     have:=dY this
     omega
  ·cases h
 ·rename_i ne
  have ne':s.ots k≠[]:=λz=>ne (pO.mp z)
  have cm:=qEO (pg:=(s.q.P:Int)) (nw:=s.q.nx) ok ne'
  injection h with h
  injection h with h1 h
  injection h with h h2
  obtain⟨c,hc,e⟩:=kZ.mp cm
  obtain⟨c',hc',rfl⟩:=kZ.mp hc
  have e:(c':Int)=(g.ch (s.q.P:Int) s.q.nx (s.ots k)).1:=e
  rw[←e,mK]at h
  subst h
  exact .inl ⟨h1.symm,hc',e,h2.symm⟩
theorem q0R(ok:g.Ok)(h:s.tk k g=some (y,b,g')):Full k s b:=by
 rcases vZ ok h with⟨_,h1,_⟩|⟨_,_,_,_,_,h1,_⟩
 ·exact(yR.mp h1).1.1
 ·unfold XS.clb at h1
  exact q56.mp (mJ.mp h1).1
theorem qEP(ok:g.Ok)(h:s.tk k g=some (y,b,g')):g'.Ok:=by
 rcases vZ ok h with⟨_,_,_,e⟩|⟨_,_,_,e,_⟩
 ·rw[e];exact qKH ok
 ·rw[e];exact ok
end
section
variable{k:Tm}{X Y:Sx}
inductive RoomR(k:Tm)(X:Sx):Sx×Except Rf Pa→Prop
 |no:X.s.tk k X.g=none→RoomR k X (X,.error .room)
 |dark {y b g' s' n}:X.s.tk k X.g=some (y,b,g')→Mvd k X.s b s' n→n≤(lvP X.s.q.P b X.s.q.V).length→s'.lf=some 0→RoomR k X (⟨s',g',X.ps⟩,.error .dark)
 |ok {y b g' s' ms}:X.s.tk k X.g=some (y,b,g')→XS.mvs (lvP X.s.q.P b X.s.q.V) X.s=(s',some ms)→Mvd k X.s b s' (lvP X.s.q.P b X.s.q.V).length→ms.length=(lvP X.s.q.P b X.s.q.V).length→s'.lf≠some 0→WX k (s'.wip b)→(s'.wip b).rmX=s'.rmX+X.s.q.P→RoomR k X (⟨s'.wip b,g',X.ps++[⟨y,X.s.ots k,b,ms⟩]⟩,.ok ⟨y,X.s.ots k,b,ms⟩)
theorem q9M(w:WX k X.s)(ok:X.g.Ok):RoomR k X (X.room k):=by
 unfold Sx.room
 cases htk:X.s.tk k X.g with
 |none=>exact .no htk
 |some ybg=>
  obtain⟨y,b,g'⟩:=ybg
  have f:=q0R ok htk
  obtain⟨s',n,ms,md,lm,_,h|h⟩:=q57 (λ_ _=>True) w f trivial (λ_ _ _ _ _ _ _ _ _ _ _ _ _=>trivial)
  ·obtain⟨e,hn,dk⟩:=h
   dsimp only
   rw[e]
   exact .dark htk md (by omega) dk
  ·obtain⟨e,hn,nl⟩:=h
   dsimp only
   rw[e]
   dsimp only
   subst hn
   by_cases dk:s'.lf=some 0
   ·rw[kI dk]
    exact .dark htk md (kM _) dk
   ·rw[kF dk]
    obtain⟨w',rm'⟩:=md.w.wip (b:=b) (by rw[md.eB];exact f.b) (by rw[md.eP];exact md.fb) nl dk
    exact .ok htk e md lm dk w' (by rw[rm',md.eP])
theorem qEQ{p:Pa}(w:WX k X.s)(ok:X.g.Ok)(h:X.room k=(Y,.ok p)):Y.s.rc.length≤X.s.rc.length+17∧Y.ps.length=X.ps.length+1:=by
 have r:=q9M w ok
 rw[h]at r
 have l16:∀b,(lvP X.s.q.P b X.s.q.V).length≤X.s.q.P:=λb=>qAO
 have p2:=w.qs.ok.p2
 cases r with
 |@ok y b g' s' ms htk e md lm dk w' rm'=>
  have:=l16 b
  refine⟨?_,kP⟩
  show(_++[_]).length≤_
  rw[kP,md.rc,mP]
  omega
theorem Mvd.kp{s s':XS}{b n:Nat}(h:Mvd k s b s' n):Kp s s':=⟨h.eB,h.eP,h.nm,h.lV⟩
theorem qBO{r:Except Rf Pa}(w:WX k X.s)(ok:X.g.Ok)(h:X.room k=(Y,r)):WX k Y.s∧Y.g.Ok∧Kp X.s Y.s∧Y.s.rc.length≤X.s.rc.length+17∧Y.ps.length≤X.ps.length+1:=by
 have rr:=q9M w ok
 rw[h]at rr
 have l16:∀b,(lvP X.s.q.P b X.s.q.V).length≤X.s.q.P:=λb=>qAO
 have p2:=w.qs.ok.p2
 cases rr with
 |no htk=>exact⟨w,ok,Kp.refl,by omega,by omega⟩
 |@dark y b g' s' n htk md hn dk=>
  have:=l16 b
  refine⟨md.w,qEP ok htk,md.kp,?_,dE _⟩
  show s'.rc.length≤_
  rw[md.rc]
  omega
 |@ok y b g' s' ms htk e md lm dk w' rm'=>
  have:=l16 b
  refine⟨w',qEP ok htk,md.kp.trans ⟨rfl,rfl,λ_=>Iff.rfl,rfl⟩,?_,?_⟩
  ·show(_++[_]).length≤_
   rw[kP,md.rc,mP]
   omega
  ·show(_++[_]).length≤_
   rw[kP]
   exact kM _
theorem vU:∀{i:Nat} {X Y:Sx} {r:Except Rf Unit},WX k X.s→X.g.Ok→X.rooms k i=some (Y,r)→WX k Y.s∧Y.g.Ok∧Kp X.s Y.s∧Y.s.rc.length≤X.s.rc.length+17*i∧Y.ps.length≤X.ps.length+i∧(r=.ok ()→Y.s.rd k=true)
 |0,X,Y,r,w,ok,h=>by
  unfold Sx.rooms at h
  split at h
  ·rename_i z
   cases h
   exact⟨w,ok,Kp.refl,kM _,kM _,λ_=>z⟩
  ·cases h
 |i+1,X,Y,r,w,ok,h=>by
  unfold Sx.rooms at h
  split at h
  ·rename_i z
   cases h
   exact⟨w,ok,Kp.refl,p8 _ _,p8 _ _,λ_=>z⟩
  ·cases e:X.room k with
   |mk W o=>
    rw[e]at h
    obtain⟨a1,a2,a3,a4,a5⟩:=qBO w ok e
    cases o with
    |error x=>
     cases h
     exact⟨a1,a2,a3,by omega,by omega,λz=>by cases z⟩
    |ok p=>
     obtain⟨b1,b2,b3,b4,b5,b6⟩:=vU a1 a2 h
     exact⟨b1,b2,a3.trans b3,by omega,by omega,b6⟩
noncomputable def gvn(ns ss:List Int):List Int:=ns.filter λn=>decide (n∈ss)
noncomputable def rst(ns g:List Int):List Int:=ns.filter λn=>!decide (n∈g)
noncomputable def XS.forgs(s:XS)(g:List Int):XS:=g.foldl XS.forg s
theorem qAP{s:XS}{g:List Int}{i:Nat}{n:Int}(h:g[i]?=some n):s.forgs (g.take (i+1))=(s.forgs (g.take i)).forg n:=by
 have hi:=(kE.mp h).1
 obtain rfl:g[i]=n:=(kE.mp h).2
 unfold XS.forgs
 rw[←mW hi,List.foldl_append]
 rfl
end
noncomputable def Hv(s:XS)(n v:Int):Prop:=∃p mk,(n,p)∈s.q.V∧s.pg p.toNat=some (mk,v)
noncomputable def putR(m:List Int):Str×Int×Bool:=(Str.ofString "put",m.getD 2 0,true)
section
variable{k:Tm}{s s':XS}{n m v u:Int}{b:Nat}
theorem Hv.put(w:WX k s)(hr:0<s.rmX)(ne:m≠n)(h:Hv s m u):Hv (s.put n v) m u:=by
 obtain⟨p,mk,hp,e⟩:=h
 obtain⟨c,g,x,a1,a2,a3,a4,a5⟩:=w.vl _ hp
 obtain⟨hb,hf,ef,_⟩:=w.spot hr
 have a3:p=_:=a3
 refine⟨p,mk,uE.mpr (.inr ⟨hp,ne⟩),?_⟩
 show(if p.toNat=s.np then _ else s.pg p.toNat)=_
 rw[kF]
 ·exact e
 ·rw[a3,mK]
  intro z
  obtain⟨e1,e2⟩:=q7Z a2 hf z
  rw[e1,ef]at a4
  omega
theorem Hv.new:Hv (s.put n v) n v:=⟨(s.np:Int),_,uE.mpr (.inl rfl),by
 show(if((s.np:Nat):Int).toNat=s.np then _ else _)=_
 rw[mK,kI rfl]⟩
theorem Hv.wip(w:WX k s)(nl:∀y∈s.q.V,¬y.2 / (s.q.P:Int)=(b:Int))(h:Hv s m u):Hv (s.wip b) m u:=by
 obtain⟨p,mk,hp,e⟩:=h
 obtain⟨c,g,x,a1,a2,a3,a4,a5⟩:=w.vl _ hp
 have a3:p=_:=a3
 refine⟨p,mk,hp,?_⟩
 show(if p.toNat / s.q.P=b then none else s.pg p.toNat)=_
 rw[kF]
 ·exact e
 ·have:=nl _ hp
  rw[a3,mK,yD a2]
  rw[show((m,p).2:Int)=p from rfl,a3,←g5,yD a2]at this
  intro z
  exact this (by rw[z])
theorem Hv.forg(ne:m≠n)(h:Hv s m u):Hv (s.forg n) m u:=by
 obtain⟨p,mk,hp,e⟩:=h
 exact⟨p,mk,jD.mpr ⟨hp,ne⟩,e⟩
theorem Hv.val(w:WX k s){p:Int}(hp:(n,p)∈s.q.V)(n6:n≠64)(h:Hv s n u):s.val p n=u:=by
 obtain⟨p',mk,hp',e⟩:=h
 rw[q81 w.qs.ok.nd hp hp']
 unfold XS.val
 rw[kF n6,e]
 rfl
theorem q0S(w:WX k s){c:Nat}(hc:c<s.q.B):s.lst≤s.cl.getD c 0:=by
 have hc':c<s.cl.length:=by rw[w.lc];exact hc
 obtain⟨m,e,h1,h2⟩:=q5V (l:=s.cl) (λz=>by rw[z]at hc';cases hc')
 unfold XS.lst
 rw[e,kJ,hU hc']
 exact h2 _ (gD _)
theorem q82(w:WX k s)(hb:0<s.q.B):∃c,c<s.q.B∧s.cl.getD c 0=s.lst:=by
 have hb':0<s.cl.length:=by rw[w.lc];exact hb
 obtain⟨m,e,h1,h2⟩:=q5V (l:=s.cl) (λz=>by rw[z]at hb';cases hb')
 obtain⟨c,hc,ec⟩:=dM h1
 refine⟨c,by rw[←w.lc];exact hc,?_⟩
 unfold XS.lst
 rw[e,kJ,hU hc,ec]
theorem qER(w:WX k s)(hr:0<s.rmX)(z:s.q.fi.getD s.pb 0=0){c:Nat}(hc:c<s.q.B)(fc:s.q.fi.getD c 0=0):s.cl.getD s.pb 0≤s.cl.getD c 0:=by
 have e:s.pb=spF s.q s.cl:=rfl
 unfold spF at e
 cases q:(List.range s.q.B).find? (jO s.q.P s.q.fi)with
 |some d=>
  rw[q]at e
  have h2:=rC q
  unfold jO at h2
  rw[mR,kU]at h2
  rw[show s.pb=d from e]at z
  omega
 |none=>
  rw[q]at e
  have pw:((List.range s.q.B).filter λb=>decide (s.q.fi.getD b 0=0)).Pairwise (· < ·):=g3 _ dG
  have hm:c∈(List.range s.q.B).filter λb=>decide (s.q.fi.getD b 0=0):=mJ.mpr ⟨mM.mpr hc,hG fc⟩
  obtain⟨h1,h2⟩:=q2K (cl:=s.cl) pw
  cases y:minF s.cl ((List.range s.q.B).filter λb=>decide (s.q.fi.getD b 0=0))with
  |none=>rw[h1 y]at hm;cases hm
  |some d=>
   rw[y]at e
   have e:s.pb=d:=e
   have:=(h2 d y).2 c hm
   rw[e]
   unfold keyN lx at this
   by_cases x:s.cl.getD c 0=s.cl.getD d 0
   ·omega
   ·rw[kF x]at this
    have:=dY this
    omega
structure Ix(k:Tm)(s:XS):Prop where
 w:WX k s
 sh:s.q.V.length<(s.q.B-(1+k.ie))*s.q.P
 s1:1≤k.sp
 gp:k.ev=true→∀b c,b<s.q.B→c<s.q.B→s.cl.getD b 0≤s.cl.getD c 0+k.sp
 e2:k.ev=true→∀d c,d<s.q.B→c<s.q.B→s.q.fi.getD d 0≠0→s.q.fi.getD c 0=0→s.cl.getD d 0<s.cl.getD c 0+k.sp
noncomputable def Wt(k:Tm)(s:XS):Prop:=s.rmX<(1+k.ie)*s.q.P→∃b,b<s.q.B∧s.q.fi.getD b 0=(s.q.P:Int)∧s.q.lv.getD b 0<(s.q.P:Int)∧s.q.lv.getD b 0+((1+k.ie)*s.q.P:Nat)≤(s.rmX:Int)+(s.q.P:Int)∧(k.ev=true→s.cl.getD b 0<s.lst+k.sp)
theorem Ix.put(x:Ix k s)(hr:k.ie*s.q.P<s.rmX)(w':WX k (s.put n v))(hs:(s.put n v).q.V.length<(s.q.B-(1+k.ie))*s.q.P):Ix k (s.put n v):=by
 obtain⟨hb,hf,ef,_⟩:=x.w.spot (by omega)
 have s1:=x.s1
 have gfi:∀c,(s.put n v).q.fi.getD c 0=if s.pb=c then(s.pf:Int)+1 else s.q.fi.getD c 0:=q80 x.w.qs.ok.lf hb ef
 refine⟨w',hs,x.s1,x.gp,λev d c hd hc fd fc=>?_⟩
 rw[gfi]at fd fc
 have hc:c<s.q.B:=hc
 have hd:d<s.q.B:=hd
 show s.cl.getD d 0<s.cl.getD c 0+k.sp
 by_cases c1:s.pb=c
 ·rw[kI c1]at fc
  omega
 ·rw[kF c1]at fc
  by_cases d1:s.pb=d
  ·subst d1
   by_cases z:s.q.fi.getD s.pb 0=0
   ·have:=qER x.w (by omega) z hc fc
    omega
   ·exact x.e2 ev _ _ hd hc z fc
  ·rw[kF d1]at fd
   exact x.e2 ev _ _ hd hc fd fc
theorem Ix.wip(x:Ix k s)(hb:b<s.q.B)(w':WX k (s.wip b))(cb:k.ev=true→s.cl.getD b 0<s.lst+k.sp):Ix k (s.wip b):=by
 have lc:=x.w.lc
 have gcl:∀c,(s.wip b).cl.getD c 0=if b=c then s.cl.getD b 0+1 else s.cl.getD c 0:=λc=>by
  show(s.cl.set b (s.cl.getD b 0+1)).getD c 0=_
  rw[jG,lc]
  by_cases e:b=c
  ·rw[kI ⟨e,hb⟩,kI e]
  ·rw[kF (λz=>e z.1),kF e]
 have gfi:∀c,(s.wip b).q.fi.getD c 0=if b=c then 0 else s.q.fi.getD c 0:=λc=>by
  show(s.q.fi.set b 0).getD c 0=_
  rw[jG,x.w.qs.ok.lf]
  by_cases e:b=c
  ·rw[kI ⟨e,hb⟩,kI e]
  ·rw[kF (λz=>e z.1),kF e]
 refine⟨w',x.sh,x.s1,λev c d hc hd=>?_,λev d c hd hc fd fc=>?_⟩
 ·have hc:c<s.q.B:=hc
  have hd:d<s.q.B:=hd
  rw[gcl,gcl]
  have:=cb ev
  have:=x.gp ev c d hc hd
  have:=x.gp ev c b hc hb
  have:=q0S x.w hd
  have:=x.s1
  split<;>split<;>omega
 ·have hc:c<s.q.B:=hc
  have hd:d<s.q.B:=hd
  rw[gfi]at fd fc
  rw[gcl,gcl]
  by_cases d1:b=d
  ·rw[kI d1]at fd
   exact absurd rfl fd
  ·rw[kF d1]at fd ⊢
   by_cases c1:b=c
   ·rw[kI c1]
    have:=x.gp ev d b hd hb
    omega
   ·rw[kF c1]at fc ⊢
    exact x.e2 ev d c hd hc fd fc
end
section
variable{k:Tm}{X Y:Sx}
structure RmX(k:Tm)(X Y:Sx):Prop where
 x:Ix k Y.s
 wt:Wt k Y.s
 ok:Y.g.Ok
 kp:Kp X.s Y.s
 hv:∀m u,m≠64→Hv X.s m u→Hv Y.s m u
theorem q3W{r:Except Rf Pa}(x:Ix k X.s)(wt:Wt k X.s)(ok:X.g.Ok)(h:X.room k=(Y,r)):RmX k X Y∧(match r with
 | .ok p=>Y.ps=X.ps++[p]∧Y.s.rc=X.s.rc++p.mv.map putR++[(Str.ofString "wipe",(p.b:Int),true)]∧(1+k.ie)*X.s.q.P≤Y.s.rmX∧Y.s.rmX+p.mv.length=X.s.rmX+X.s.q.P∧(∃g',X.s.tk k X.g=some (p.why,p.b,g'))∧p.mv.length=(lvP X.s.q.P p.b X.s.q.V).length∧p.ts=X.s.ots k∧(∃s',XS.mvs (lvP X.s.q.P p.b X.s.q.V) X.s=(s',some p.mv)∧Y.s=s'.wip p.b∧Mvd k X.s p.b s' p.mv.length)
 | .error .dark=>Y.s.lf=some 0∧Y.ps=X.ps∧∃ms,Y.s.rc=X.s.rc++List.map putR ms
 | .error .room=>Y=X∧X.s.tk k X.g=none):=by
 unfold Sx.room at h
 cases htk:X.s.tk k X.g with
 |none=>
  rw[htk]at h
  cases h
  exact⟨⟨x,wt,ok,Kp.refl,λ_ _ _ z=>z⟩,rfl,rfl⟩
 |some ybg=>
  obtain⟨y,b,g'⟩:=ybg
  rw[htk]at h
  dsimp only at h
  have f:=q0R ok htk
  have g'ok:=qEP ok htk
  have spc:=f.l
  have lvb:=vQ x.w.qs x.w.pd f.b
  have sl:=x.w.sl
  have clb:k.ev=true→X.s.cl.getD b 0<X.s.lst+k.sp:=λev=>by
   rcases vZ ok htk with⟨_,h1,_⟩|⟨_,_,_,_,_,h1,_⟩
   ·exact(yR.mp h1).2 ev
   ·unfold XS.clb at h1
    exact mV (mJ.mp h1).2
  obtain⟨s',n,ms,md,lm,⟨xi,hv,rcE⟩,hh⟩:=q57 (λs' ms=>Ix k s'∧(∀m u,m≠64→Hv X.s m u→Hv s' m u)∧s'.rc=X.s.rc++ms.map putR) x.w f ⟨x,λ_ _ _ z=>z,by simp⟩ (λs' ms n p w' kp ec fb hnp hpb hr dk ⟨xi,hv,rcE⟩=>by
   have nb:=w'.qs.ok.nm _ hnp
   obtain⟨w2,_⟩:=w'.put (v:=s'.val p n) hr nb.1 nb.2 (.inl ⟨p,hnp⟩) dk
   refine⟨xi.put hr w2 ?_,λm u m6 hm=>?_,?_⟩
   ·show(jJ s'.q.V n++[_]).length< _
    rw[kP,mP,(q0E (V:=s'.q.V) (n:=n) w'.qs.ok.nd).2 p hnp]
    exact xi.sh
   ·have:=hv m u m6 hm
    by_cases e:m=n
    ·subst e
     have z:=Hv.new (s:=s') (n:=m) (v:=s'.val p m)
     rw[this.val w' hnp m6]at z ⊢
     exact z
    ·exact this.put w' (by omega) e
   ·show s'.rc++[_]=_
    rw[rcE,m7,cP]
    rfl)
  have kp:Kp X.s s':=⟨md.eB,md.eP,md.nm,md.lV⟩
  have rme:=md.rm
  have lbe:=md.lb f.b
  have ec:=md.ec
  have wt':Wt k s':=λhlt=>by
   rw[md.eP]at hlt
   refine⟨b,by rw[md.eB];exact f.b,by rw[md.eP];exact md.fb,?_,?_,λev=>?_⟩
   ·rw[md.eP]
    by_cases n0:n=0
    ·have:X.s.rmX<(1+k.ie)*X.s.q.P:=by omega
     have lt:X.s.q.lv.getD b 0<(X.s.q.P:Int):=by
      rcases vZ ok htk with⟨_,h1,_⟩|⟨_,_,e0,_⟩
      ·exact(yR.mp h1).1.2
      ·exfalso
       obtain⟨c,c1,c2,c3,c4,c5⟩:=wt this
       have:c∈X.s.opt k:=yR.mpr ⟨⟨⟨c1,c2,by
        unfold XS.spc
        rw[kF (by omega)]
        rw[gZ,dP]at c4
        omega⟩,c3⟩,c5⟩
       rw[e0]at this
       cases this
     omega
    ·have:=qAO (P:=X.s.q.P) (b:=b) (V:=X.s.q.V)
     omega
   ·rw[md.eP]
    unfold XS.spc at spc
    rw[gZ,dP]at *
    split at spc<;>omega
   ·have e1:s'.lst=X.s.lst:=by unfold XS.lst;rw[ec]
    rw[ec,e1]
    exact clb ev
  rcases hh with⟨e,hn,dk⟩|⟨e,hn,nl⟩
  ·rw[e]at h
   cases h
   exact⟨⟨xi,wt',g'ok,kp,hv⟩,dk,rfl,ms,rcE⟩
  ·rw[e]at h
   dsimp only at h
   by_cases dk:s'.lf=some 0
   ·rw[kI dk]at h
    cases h
    exact⟨⟨xi,wt',g'ok,kp,hv⟩,dk,rfl,ms,rcE⟩
   ·rw[kF dk]at h
    cases h
    obtain⟨w2,rm2⟩:=md.w.wip (b:=b) (by rw[md.eB];exact f.b) (by rw[md.eP];exact md.fb) nl dk
    have e1:s'.lst=X.s.lst:=by unfold XS.lst;rw[ec]
    have ge:(1+k.ie)*X.s.q.P≤(s'.wip b).rmX:=by
     rw[rm2,md.eP]
     unfold XS.spc at spc
     rw[gZ,dP]at *
     split at spc<;>omega
    refine⟨⟨xi.wip (by rw[md.eB];exact f.b) w2 (λev=>by rw[ec,e1];exact clb ev),λhlt=>?_,g'ok,kp.trans ⟨rfl,rfl,λ_=>Iff.rfl,rfl⟩,λm u m6 hm=>(hv m u m6 hm).wip md.w nl⟩,rfl,?_,ge,?_,⟨g',rfl⟩,by rw[lm,hn],rfl,s',e,rfl,by rw[lm];exact md⟩
    ·have hlt:(s'.wip b).rmX<(1+k.ie)*s'.q.P:=hlt
     rw[md.eP]at hlt
     omega
    ·show s'.rc++[_]=_
     rw[rcE]
    ·show(s'.wip b).rmX+ms.length=_
     rw[rm2,md.eP,lm]
     omega
end
section
variable{k:Tm}{s:XS}
theorem q2L(w:WX k s)(hr:s.rmX=(1+k.ie)*s.q.P):(∀b,b<s.q.B→s.q.fi.getD b 0=0∨s.q.fi.getD b 0=(s.q.P:Int))∧((List.range s.q.B).filter λb=>decide (s.q.fi.getD b 0=(s.q.P:Int))).length=s.q.B-(1+k.ie):=by
 have p1:=w.qs.ok.p1
 obtain⟨l,hl⟩:=FreeIs.ex s.q.B (noB s.q.B) s.cl s.q.fi
 have ll:jM s.q.B s.q.P (noB s.q.B) s.q.fi=none∧l.length=1+k.ie:=by
  rcases q1N w.on w.qs.ok.wr p1 hl with⟨h1,h2⟩|⟨b,e,h1,e1,e2,h2,_⟩
  ·refine⟨h1,?_⟩
   unfold XS.rmX at hr
   rw[hr]at h2
   exact(Nat.eq_of_mul_eq_mul_right (by omega) h2).symm
  ·exfalso
   unfold XS.rmX at hr
   rw[hr]at h2
   have k:(1+k.ie)*s.q.P%s.q.P=e:=by rw[h2,d3,pK,c6 e2]
   rw[Nat.mul_mod_left]at k
   omega
 have fl:=q9L w.on w.qs.ok.wr p1 hl ll.1
 unfold jW at fl
 rw[jY]at fl
 refine⟨λb hb=>?_,by omega⟩
 have np:=ll.1
 unfold jM at np
 rw[jY]at np
 have:=rJ.mp np b (mM.mpr hb)
 obtain⟨f,ef,hf⟩:=w.qs.ok.wr b hb
 unfold jO at this
 rw[mR,kU,kU]at this
 omega
theorem v8(x:Ix k s)(hr:s.rmX=(1+k.ie)*s.q.P):s.ded k≠[]:=by
 obtain⟨l,hl⟩:=FreeIs.ex s.q.B (noB s.q.B) s.cl s.q.fi
 have m:CM:=⟨0,0,0,[],[],s.cl,[],noB s.q.B,none,[]⟩
 have:=(qEL (m:=⟨0,0,0,[],[],s.cl,[],noB s.q.B,none,[]⟩) (ie:=k.ie) x.w.qs x.w.on rfl hl hr x.sh).1
 rw[qEN x.w rfl hl]at this
 exact this
theorem qES(wt:Wt k s)(hr:s.rmX<(1+k.ie)*s.q.P):s.opt k≠[]:=λz=>by
 obtain⟨b,b1,b2,b3,b4,b5⟩:=wt hr
 have:b∈s.opt k:=yR.mpr ⟨⟨⟨b1,b2,by
  unfold XS.spc
  rw[kF (by omega)]
  rw[gZ,dP]at b4
  omega⟩,b3⟩,b5⟩
 rw[z]at this
 cases this
theorem q4A(x:Ix k s)(hr:s.rmX=(1+k.ie)*s.q.P)(ev:k.ev=true)(e0:s.opt k=[]):(∀c,c<s.q.B→s.q.fi.getD c 0=0→s.lst<s.cl.getD c 0)∧∃b,s.chg k=some b∧b<s.q.B∧s.q.fi.getD b 0=(s.q.P:Int)∧s.cl.getD b 0=s.lst∧s.q.lv.getD b 0=(s.q.P:Int):=by
 have s1:=x.s1
 have p1:=x.w.qs.ok.p1
 have nop:∀d,Full k s d→s.q.lv.getD d 0<(s.q.P:Int)→s.lst+k.sp≤s.cl.getD d 0:=λd fd ld=>by
  refine Int.not_lt.mp λz=>?_
  have:d∈s.opt k:=yR.mpr ⟨⟨fd,ld⟩,λ_=>z⟩
  rw[e0]at this
  cases this
 have fr:∀c,c<s.q.B→s.q.fi.getD c 0=0→s.lst<s.cl.getD c 0:=λc hc fc=>by
  obtain⟨d,hd⟩:=g7 _ (v8 x hr)
  obtain⟨fd,ld⟩:=q0Q.mp hd
  have h1:=nop d fd ld
  have h2:=x.e2 ev d c fd.b hc (by rw[fd.f];omega) fc
  omega
 refine⟨fr,?_⟩
 obtain⟨rp,_⟩:=q2L x.w hr
 have hB:0<s.q.B:=by
  obtain⟨d,hd⟩:=g7 _ (v8 x hr)
  have:=(q0Q.mp hd).1.b
  omega
 obtain⟨c,hc,ec⟩:=q82 x.w hB
 have fc:s.q.fi.getD c 0=(s.q.P:Int):=by
  rcases rp c hc with z|z
  ·have:=fr c hc z
   omega
  ·exact z
 have spc:s.spc k=(s.q.P:Int):=by
  unfold XS.spc
  rw[kI (by omega)]
 have hc':c∈s.clb k (s.ful k):=by
  unfold XS.clb
  exact mJ.mpr ⟨q56.mpr ⟨hc,fc,by rw[spc];exact(qBN x.w hc).2⟩,hG (by omega)⟩
 have pw:(s.clb k (s.ful k)).Pairwise (· < ·):=by
  unfold XS.clb XS.ful
  exact g3 _ (g3 _ dG)
 obtain⟨h1,h2⟩:=q2K (cl:=s.cl) pw
 cases z:s.chg k with
 |none=>
  rw[h1 z]at hc'
  cases hc'
 |some b=>
  obtain⟨m1,m2⟩:=h2 b z
  have m1':=m1
  unfold XS.clb at m1'
  obtain⟨fb,_⟩:=mJ.mp m1'
  have fb:=q56.mp fb
  have:=m2 c hc'
  have le:s.cl.getD b 0≤s.cl.getD c 0:=by
   unfold keyN lx at this
   by_cases q:s.cl.getD c 0=s.cl.getD b 0
   ·omega
   ·rw[kF q]at this
    have:=dY this
    omega
  have cb:s.cl.getD b 0=s.lst:=by
   have:=q0S x.w fb.b
   omega
  refine⟨b,rfl,fb.b,fb.f,cb,?_⟩
  have:=qBN x.w fb.b
  have:¬s.q.lv.getD b 0<(s.q.P:Int):=λy=>by
   have:=nop b fb y
   omega
  omega
noncomputable def nlc(s:XS):Nat:=((List.range s.q.B).filter λb=>decide (s.q.fi.getD b 0=(s.q.P:Int))&&decide (s.cl.getD b 0=s.lst)).length
noncomputable def need(k:Tm)(s:XS):Nat:=if s.rd k=true then 0 else if s.rmX<(1+k.ie)*s.q.P then 1+(if k.ev=true then s.q.B-(1+k.ie)else 1)else if s.opt k≠[]then 1 else nlc s+1
theorem qAQ{α:Type}{p p':α→Bool}:∀{l:List α},(∀x∈l,p' x=true→p x=true)→(∃x∈l,p x=true∧p' x=false)→(l.filter p').length<(l.filter p).length
 | [],_,h=>by obtain⟨x,hx,_⟩:=h;cases hx
 |a::l,h,g=>by
  have le:(l.filter p').length≤(l.filter p).length:=by
   have:(l.filter p').length≤(l.filter p).length:=by
    rw[←wL,←wL]
    exact cT λx hx=>h x (hX _ hx)
   exact this
  rw[gC,gC]
  obtain⟨x,hx,h1,h2⟩:=g
  rcases kL.mp hx with e|hx
  ·subst e
   rw[kI h1,kF (by rw[h2];decide),mG]
   omega
  ·have ih:=qAQ (λy hy=>h y (hX _ hy)) ⟨x,hx,h1,h2⟩
   by_cases z:p' a=true
   ·rw[kI z,kI (h a (by simp) z),mG,mG]
    omega
   ·rw[kF z]
    split
    ·rw[mG]
     omega
    ·exact ih
theorem qJ5(x:Ix k s)(hr:s.rmX=(1+k.ie)*s.q.P)(ev:k.ev=true)(e0:s.opt k=[]):nlc s+1≤s.q.B-(1+k.ie):=by
 obtain⟨_,fl⟩:=q2L x.w hr
 rw[←fl]
 obtain⟨d,hd⟩:=g7 _ (v8 x hr)
 obtain⟨fd,ld⟩:=q0Q.mp hd
 refine qAQ (λy _ hy=>?_) ⟨d,mM.mpr fd.b,hG fd.f,?_⟩
 ·rw[mR]at hy
  exact hy.1
 ·have:¬s.cl.getD d 0<s.lst+k.sp:=λz=>by
   have:d∈s.opt k:=yR.mpr ⟨⟨fd,ld⟩,λ_=>z⟩
   rw[e0]at this
   cases this
  have s1:=x.s1
  rw[kD (show ¬s.cl.getD d 0=s.lst by omega),Bool.and_false]
theorem q83(x:Ix k s)(hr:(1+k.ie)*s.q.P≤s.rmX):need k s≤if k.ev=true then s.q.B-(1+k.ie)else 1:=by
 have b1:1≤s.q.B-(1+k.ie):=by
  have:=x.sh
  refine Nat.pos_of_ne_zero λz=>?_
  rw[z,Nat.zero_mul]at this
  cases this
 unfold need
 split
 ·exact mO _
 ·rename_i nr
  have e:s.rmX=(1+k.ie)*s.q.P:=by
   unfold XS.rd at nr
   have:=dY (Bool.eq_false_iff.mpr nr)
   omega
  rw[kF (by omega)]
  split
  ·split<;>omega
  ·rename_i z
   have z:s.opt k=[]:=dQ z
   cases ev:k.ev with
   |true=>
    rw[kI rfl]
    exact qJ5 x e ev z
   |false=>
    exfalso
    have:=v8 x e
    unfold XS.opt at z
    rw[ev]at z
    exact this z
end
section
variable{k:Tm}{X Y:Sx}
theorem qGI(x:Ix k X.s)(wt:Wt k X.s)(nr:X.s.rd k=false):∃ybg,X.s.tk k X.g=some ybg:=by
 unfold XS.tk
 by_cases z:X.s.opt k=[]
 ·rw[kI z]
  have nr':=dY nr
  have e:X.s.rmX=(1+k.ie)*X.s.q.P:=by
   have:¬X.s.rmX<(1+k.ie)*X.s.q.P:=λy=>qES wt y z
   omega
  cases ev:k.ev with
  |true=>
   obtain⟨_,b,hb,_⟩:=q4A x e ev z
   rw[kI rfl,hb]
   exact⟨_,rfl⟩
  |false=>
   exfalso
   have:=v8 x e
   unfold XS.opt at z
   rw[ev]at z
   exact this z
 ·rw[kF z]
  exact⟨_,rfl⟩
theorem qGJ{p:Pa}(x:Ix k X.s)(wt:Wt k X.s)(ok:X.g.Ok)(nr:X.s.rd k=false)(h:X.room k=(Y,.ok p)):need k Y.s<need k X.s:=by
 obtain⟨rx,hp,_,ge,rmE,⟨g',htk⟩,lm,_,s',emv,eY,md⟩:=q3W x wt ok h
 have eP:=rx.kp.eP
 have eB:=rx.kp.eB
 have fb:=q0R ok htk
 have lvb:=vQ x.w.qs x.w.pd fb.b
 have nr':=dY nr
 have ge':(1+k.ie)*Y.s.q.P≤Y.s.rmX:=by rw[eP];exact ge
 have nl:=q83 rx.x ge'
 rw[eB]at nl
 have p1:=x.w.qs.ok.p1
 have eX:need k X.s=if X.s.rmX<(1+k.ie)*X.s.q.P then 1+(if k.ev=true then X.s.q.B-(1+k.ie)else 1)else if X.s.opt k≠[]then 1 else nlc X.s+1:=by
  rw[need,nr,kF (by decide)]
 rw[eX]
 by_cases lk:X.s.rmX<(1+k.ie)*X.s.q.P
 ·rw[kI lk]
  omega
 rw[kF lk]
 have eR:X.s.rmX=(1+k.ie)*X.s.q.P:=by omega
 rcases vZ ok htk with⟨_,h1,_⟩|⟨_,ev,e0,_,hc,h1,_⟩
 ·have ne:X.s.opt k≠[]:=λz=>by rw[z]at h1;cases h1
  rw[kI ne]
  have lt:=(yR.mp h1).1.2
  have:Y.s.rd k=true:=hG (by rw[eP];omega)
  rw[need,kI this]
  decide
 ·rw[kF (λz=>z e0)]
  obtain⟨fr,b,hb,b1,b2,b3,b4⟩:=q4A x eR ev e0
  rw[hc]at hb
  obtain rfl:=kQ hb
  have rY:Y.s.rmX=(1+k.ie)*Y.s.q.P:=by rw[eP];omega
  have nrY:¬Y.s.rd k=true:=λz=>by
   have:=mV z
   omega
  rw[need,kF nrY,kF (by omega)]
  have bin:p.b∈(List.range X.s.q.B).filter λb=>decide (X.s.q.fi.getD b 0=(X.s.q.P:Int))&&decide (X.s.cl.getD b 0=X.s.lst):=mJ.mpr ⟨mM.mpr b1,by rw[hG b2,hG b3];rfl⟩
  have n1:1≤nlc X.s:=cS bin
  split
  ·omega
  ·rename_i z
   have z:Y.s.opt k=[]:=dQ z
   have gcl:∀c,Y.s.cl.getD c 0=if p.b=c then X.s.cl.getD p.b 0+1 else X.s.cl.getD c 0:=λc=>by
    rw[eY]
    show(s'.cl.set p.b (s'.cl.getD p.b 0+1)).getD c 0=_
    rw[md.ec,jG,x.w.lc]
    by_cases e:p.b=c
    ·rw[kI ⟨e,b1⟩,kI e]
    ·rw[kF (λz=>e z.1),kF e]
   have gfi:∀c,Y.s.q.fi.getD c 0=if p.b=c then 0 else s'.q.fi.getD c 0:=λc=>by
    rw[eY]
    show(s'.q.fi.set p.b 0).getD c 0=_
    rw[jG,md.w.qs.ok.lf,md.eB]
    by_cases e:p.b=c
    ·rw[kI ⟨e,b1⟩,kI e]
    ·rw[kF (λz=>e z.1),kF e]
   have lle:X.s.lst≤Y.s.lst:=by
    obtain⟨c,hc,ec⟩:=q82 rx.x.w (by rw[eB];omega)
    rw[eB]at hc
    rw[←ec,gcl]
    have:=q0S x.w hc
    have:=q0S x.w b1
    split<;>omega
   have leq:Y.s.lst=X.s.lst:=by
    refine sO (Int.not_lt.mp λy=>?_) lle
    obtain⟨d,hd⟩:=g7 _ (v8 rx.x rY)
    obtain⟨fd,ld⟩:=q0Q.mp hd
    have nc:¬Y.s.cl.getD d 0<Y.s.lst+k.sp:=λy=>by
     have:d∈Y.s.opt k:=yR.mpr ⟨⟨fd,ld⟩,λ_=>y⟩
     rw[z]at this
     cases this
    have ne:p.b≠d:=λy=>by
     have:=fd.f
     rw[gfi,kI y,eP]at this
     omega
    rw[gcl,kF ne]at nc
    have hd':=fd.b
    rw[eB]at hd'
    have:=x.gp ev d p.b hd' b1
    omega
   refine Nat.succ_lt_succ ?_
   unfold nlc
   rw[eB,eP,leq]
   refine qAQ (λc hc y=>?_) ⟨p.b,mM.mpr b1,by rw[hG b2,hG b3];rfl,?_⟩
   ·have hc:=mM.mp hc
    rw[mR,kU,kU]at y ⊢
    obtain⟨y1,y2⟩:=y
    have ne:p.b≠c:=λw=>by
     rw[gfi,kI w]at y1
     omega
    rw[gcl,kF ne]at y2
    refine⟨?_,y2⟩
    rcases(q2L x.w eR).1 c hc with q|q
    ·have:=fr c hc q
     omega
    ·exact q
   ·rw[gfi,kI rfl,kD (by omega)]
    rfl
noncomputable def dOf(p:Pa):List (Str×Int×Bool):=p.mv.map putR++[(Str.ofString "wipe",(p.b:Int),true)]
structure Rms(k:Tm)(X Y:Sx)(qs:List Pa):Prop extends RmX k X Y where
 ps:Y.ps=X.ps++qs
 ln:qs.length≤need k X.s
theorem q7F:∀{i:Nat} {X:Sx},Ix k X.s→Wt k X.s→X.g.Ok→need k X.s≤i→∃Y ps ms,Rms k X Y ps∧Y.s.rc=X.s.rc++ps.flatMap dOf++ms.map putR∧((X.rooms k i=some (Y,.ok ())∧Y.s.rd k=true∧ms=[])∨(X.rooms k i=some (Y,.error .dark)∧Y.s.lf=some 0))
 |i,X,x,wt,ok,hi=>by
  cases rd:X.s.rd k with
  |true=>
   refine⟨X,[],[],⟨⟨x,wt,ok,Kp.refl,λ_ _ _ z=>z⟩,by simp,mO _⟩,by simp,.inl ⟨?_,rd,rfl⟩⟩
   cases i with
   |zero=>unfold Sx.rooms;rw[rd,kI rfl]
   |succ i=>unfold Sx.rooms;rw[rd,kI rfl]
  |false=>
   cases i with
   |zero=>
    exfalso
    unfold need at hi
    rw[rd,kF (by decide)]at hi
    split at hi
    ·omega
    ·split at hi<;>omega
   |succ i=>
    cases e:X.room k with
    |mk W o=>
     obtain⟨rx,hh⟩:=q3W x wt ok e
     cases o with
     |error q=>
      cases q with
      |room=>
       obtain⟨_,h⟩:=hh
       obtain⟨ybg,h'⟩:=qGI x wt rd
       rw[h]at h'
       cases h'
      |dark=>
       obtain⟨dk,eps,ms,erc⟩:=hh
       refine⟨W,[],ms,⟨rx,by rw[eps];simp,mO _⟩,by rw[erc];simp,.inr ⟨?_,dk⟩⟩
       unfold Sx.rooms
       rw[rd,kF (by decide),e]
     |ok p=>
      have lt:=qGJ x wt ok rd e
      obtain⟨eps,erc,_⟩:=hh
      obtain⟨Y,ps,ms,ry,hrc,hr⟩:=q7F (i:=i) rx.x rx.wt rx.ok (by omega)
      refine⟨Y,p::ps,ms,⟨⟨ry.x,ry.wt,ry.ok,rx.kp.trans ry.kp,λm u m6 z=>ry.hv m u m6 (rx.hv m u m6 z)⟩,?_,?_⟩,?_,?_⟩
      ·rw[ry.ps,eps,cP]
       rfl
      ·have:=ry.ln
       rw[mG]
       omega
      ·rw[hrc,erc,List.flatMap_cons]
       simp[dOf]
      ·have er:X.rooms k (i+1)=W.rooms k i:=by
        rw[Sx.rooms,rd,kF (by decide),e]
       rw[er]
       exact hr
end
structure AskO(k:Tm)(i:Nat)(X:Sx)(n v:Int)(Y:Sx)(qs:List Pa)(p:Nat):Prop where
 rl:Y.s.rc.length≤X.s.rc.length+17*i+1
 x:Ix k Y.s
 ge:(1+k.ie)*Y.s.q.P≤Y.s.rmX
 ok:Y.g.Ok
 ps:Y.ps=X.ps++qs
 ln:qs.length≤need k X.s
 eB:Y.s.q.B=X.s.q.B
 eP:Y.s.q.P=X.s.q.P
 nm:∀m,(∃p,(m,p)∈Y.s.q.V)↔m=n∨∃p,(m,p)∈X.s.q.V
 hv:∀m u,m≠64→m≠n→Hv X.s m u→Hv Y.s m u
 hn:Hv Y.s n v
 rc:Y.s.rc=X.s.rc++qs.flatMap dOf++[(Str.ofString "put",(p:Int),true)]
structure AskD(k:Tm)(i:Nat)(X:Sx)(Y:Sx)(qs:List Pa):Prop where
 rl:Y.s.rc.length≤X.s.rc.length+17*i+1
 x:Ix k Y.s
 wt:Wt k Y.s
 ok:Y.g.Ok
 ps:Y.ps=X.ps++qs
 ln:qs.length≤need k X.s
 kp:Kp X.s Y.s
 hv:∀m u,m≠64→Hv X.s m u→Hv Y.s m u
 lf:Y.s.lf=some 0
 rc:∃ms,Y.s.rc=X.s.rc++qs.flatMap dOf++List.map putR ms
section
variable{k:Tm}{X:Sx}{n v:Int}
theorem qGK{i:Nat}(x:Ix k X.s)(wt:Wt k X.s)(ok:X.g.Ok)(hi:need k X.s≤i)(n0:0≤n)(n1:n≤64)(hl:(∃p,(n,p)∈X.s.q.V)∨(X.s.q.V.length<59∧X.s.q.V.length+1<(X.s.q.B-(1+k.ie))*X.s.q.P)):(∃Y qs p,X.ask k i n v=some (Y,.ok p)∧AskO k i X n v Y qs p)∨∃Y qs,X.ask k i n v=some (Y,.error .dark)∧AskD k i X Y qs:=by
 obtain⟨Y,ps,ms,r,hrc,⟨hr,rd,e0⟩|⟨hr,dk⟩⟩:=q7F x wt ok hi
 ·have rl:=(vU x.w ok hr).2.2.2.1
  have rd:=mV rd
  unfold Sx.ask
  rw[hr]
  dsimp only
  by_cases dk:Y.s.lf=some 0
  ·rw[kI dk]
   exact .inr ⟨Y,ps,rfl,by omega,r.x,r.wt,r.ok,r.ps,r.ln,r.kp,r.hv,dk,ms,hrc⟩
  ·rw[kF dk]
   have rd':=rd
   rw[gZ,dP]at rd'
   have hl':(∃p,(n,p)∈Y.s.q.V)∨Y.s.q.V.length<59:=by
    rw[r.kp.lV]
    exact hl.imp (λz=>(r.kp.nm n).mpr z) λz=>z.1
   obtain⟨w',rm'⟩:=r.x.w.put (n:=n) (v:=v) (by omega) n0 n1 hl' dk
   refine .inl ⟨_,ps,_,rfl,?_,r.x.put (by omega) w' ?_,?_,r.ok,r.ps,r.ln,r.kp.eB,r.kp.eP,λm=>?_,λm u m6 mn z=>(r.hv m u m6 z).put r.x.w (by omega) mn,Hv.new,?_⟩
   ·show(Y.s.rc++[_]).length≤_
    rw[kP,mP]
    omega
   ·show(jJ Y.s.q.V n++[_]).length< _
    rw[kP,mP]
    obtain⟨d1,d2⟩:=q0E (V:=Y.s.q.V) (n:=n) r.x.w.qs.ok.nd
    have lV:=r.kp.lV
    rcases hl with z|⟨_,z⟩
    ·obtain⟨p,hp⟩:=(r.kp.nm n).mpr z
     rw[d2 p hp]
     exact r.x.sh
    ·rw[r.kp.eB,r.kp.eP]
     omega
   ·show(1+k.ie)*Y.s.q.P≤(Y.s.put n v).rmX
    omega
   ·rw[←r.kp.nm m]
    constructor
    ·rintro⟨p,h⟩
     rcases uE.mp h with e|⟨h,_⟩
     ·cases e
      exact .inl rfl
     ·exact .inr ⟨p,h⟩
    ·intro z
     by_cases e:m=n
     ·exact⟨_,uE.mpr (.inl (by rw[e]))⟩
     ·rcases z with z|⟨p,h⟩
      ·exact absurd z e
      ·exact⟨p,uE.mpr (.inr ⟨h,e⟩)⟩
   ·show Y.s.rc++[_]=_
    rw[hrc,e0]
    simp
 ·have rl:=(vU x.w ok hr).2.2.2.1
  unfold Sx.ask
  rw[hr]
  exact .inr ⟨Y,ps,rfl,by omega,r.x,r.wt,r.ok,r.ps,r.ln,r.kp,r.hv,dk,ms,hrc⟩
end
section
variable{k:Tm}{s:XS}
theorem WX.lf(w:WX k s){l:Option Int}(h:∀i,l=some i→0≤i):WX k { s with lf:=l }:={ w with l0:=h }
theorem Ix.forg(x:Ix k s)(n:Int):Ix k (s.forg n):=by
 refine⟨x.w.forg n,?_,x.s1,x.gp,x.e2⟩
 have:=(q0E (V:=s.q.V) (n:=n) x.w.qs.ok.nd).1
 have:=x.sh
 show(jJ s.q.V n).length< _
 show _ <(s.q.B-(1+k.ie))*s.q.P
 omega
theorem q33(x:Ix k s):∀(g:List Int),Ix k (s.forgs g)∧(s.forgs g).rmX=s.rmX∧(s.forgs g).rc=s.rc∧(s.forgs g).cl=s.cl∧(s.forgs g).lf=s.lf∧(s.forgs g).q.B=s.q.B∧(s.forgs g).q.P=s.q.P∧(∀m,(∃p,(m,p)∈(s.forgs g).q.V)↔m∉g∧∃p,(m,p)∈s.q.V)∧∀m u,m∉g→Hv s m u→Hv (s.forgs g) m u:=by
 intro g
 induction g generalizing s with
 |nil=>exact⟨x,rfl,rfl,rfl,rfl,rfl,rfl,λm=>by simp[XS.forgs],λm u _ h=>h⟩
 |cons n g ih=>
  obtain⟨a1,a2,a3,a4,a5,a6,a7,a8,a9⟩:=ih (x.forg n)
  refine⟨a1,a2,a3,a4,a5,a6,a7,λm=>?_,λm u hm h=>?_⟩
  ·show(∃p,(m,p)∈((s.forg n).forgs g).q.V)↔_
   rw[a8]
   constructor
   ·rintro⟨h1,p,hp⟩
    obtain⟨h2,h3⟩:=jD.mp hp
    exact⟨λz=>(kL.mp z).elim h3 h1,p,h2⟩
   ·rintro⟨h1,p,hp⟩
    exact⟨λz=>h1 (hX _ z),p,jD.mpr ⟨hp,λz=>h1 (by rw[show m=n from z];exact kW)⟩⟩
  ·exact a9 m u (λz=>hm (hX _ z)) (h.forg λz=>hm (by rw[z];exact kW))
theorem Wt.of(h:(1+k.ie)*s.q.P≤s.rmX):Wt k s:=λz=>by omega
theorem qJ6{n:Int}:n∈s.hl↔n≠64∧∃p,(n,p)∈s.q.V:=by
 unfold XS.hl
 rw[cJ,mJ,kZ]
 constructor
 ·rintro⟨⟨y,h,e⟩,h2⟩
  refine⟨mV h2,y.2,?_⟩
  rw[←e]
  exact h
 ·rintro⟨h1,p,hp⟩
  exact⟨⟨_,hp,rfl⟩,hG h1⟩
end
noncomputable def newX(B P:Nat):XS:=⟨⟨P,B,1,[],List.replicate B 0,List.replicate B 0,List.replicate B 0⟩,List.replicate B 0,λ_=>none,none,[]⟩
theorem qGL{k:Tm}{B P:Nat}(b2:B≤16)(p1:1≤P)(p2:P≤16)(hk:1+k.ie<B)(s1:1≤k.sp):Ix k (newX B P)∧(1+k.ie)*P≤(newX B P).rmX:=by
 have r0:∀n i:Nat,(List.replicate n (0:Int)).getD i 0=0:=λn i=>rep8
 have rmE:(newX B P).rmX=B*P:=by
  unfold XS.rmX newX rm clr1
  dsimp only
  have:∀n,((List.range n).map λb=>P-((List.replicate B (0:Int)).getD b 0).toNat).sum=n*P:=λn=>by
   induction n with
   |zero=>simp
   |succ n ih=>
    rw[sP,m7,List.sum_append,ih,wX,List.map_singleton,r0]
    simp
  exact this B
 have le:(1+k.ie)*P≤B*P:=g0 _ (by omega)
 have ok:(newX B P).q.Ok:=by
  refine⟨p1,p2,b2,gF,gF,gF,by simp[newX],λq hq=>absurd (show q∈([]:Mp)from hq) (by simp),λq hq=>absurd (show q∈([]:Mp)from hq) (by simp),λb hb=>⟨0,r0 _ _,mO _⟩⟩
 refine⟨⟨⟨⟨ok,λb hb=>?_⟩,λb c _ _ h1 _=>?_,gF,λ_ _ _ _ _=>rfl,λy hy=>absurd (show y∈([]:Mp)from hy) (by simp),by simp[newX],λb=>?_,λb=>?_,gJ _,?_,?_,λi e=>by cases e⟩,?_,s1,λ_ b c _ _=>?_,λ_ d c _ _ h _=>absurd (r0 _ _) h⟩,?_⟩
 ·rw[show(newX B P).q.lv=List.replicate B 0 from rfl,r0]
  rfl
 ·unfold jO at h1
  rw[show(newX B P).q.fi=List.replicate B 0 from rfl,r0]at h1
  simp at h1
 ·rw[show(newX B P).cl=List.replicate B 0 from rfl,r0]
  exact⟨gJ _,gJ _⟩
 ·rw[show(newX B P).q.bo=List.replicate B 0 from rfl,r0]
  exact⟨gJ _,by show(0:Int)<1;decide⟩
 ·rw[rmE]
  show k.ie*P≤B*P
  exact g0 _ (by omega)
 ·show 0<60
  decide
 ·show 0<(B-(1+k.ie))*P
  exact Nat.mul_pos (by omega) p1
 ·rw[show(newX B P).cl=List.replicate B 0 from rfl,r0,r0]
  omega
 ·rw[rmE]
  exact le
structure Kd(k:Tm)(sh:Int)(sr:Nat)(X:Sx)(KD:Mp):Prop where
 x:Ix k X.s
 wt:Wt k X.s
 ok:X.g.Ok
 nd:(KD.map (·.1)).Nodup
 kb:∀y∈KD,0≤y.1∧y.1<sh
 eq:∀n,n≠64→((∃p,(n,p)∈X.s.q.V)↔n∈KD.map (·.1))
 hv:∀y∈KD,Hv X.s y.1 y.2
 ls:KD.length≤sr
 hs:sr+2≤(X.s.q.B-(1+k.ie))*X.s.q.P
 s57:sr≤57
 h64:sh≤64
section
variable{k:Tm}{sh:Int}{sr:Nat}{X Y:Sx}{KD:Mp}{n v:Int}{i:Nat}{qs:List Pa}{p:Nat}
theorem Kd.pm(h:Kd k sh sr X KD):((X.s.q.V.map (·.1)).filter λn=>decide (n≠64)).Perm (KD.map (·.1)):=by
 refine q2J (g3 _ h.x.w.qs.ok.nd) h.nd λy=>?_
 rw[mJ,kU]
 constructor
 ·rintro⟨a,b⟩
  refine(h.eq y b).mp ?_
  obtain⟨z,hz,rfl⟩:=kZ.mp a
  exact⟨z.2,hz⟩
 ·intro hy
  have:y≠64:=by
   obtain⟨z,hz,rfl⟩:=kZ.mp hy
   have:=h.kb z hz
   have:=h.h64
   omega
  obtain⟨p,hp⟩:=(h.eq y this).mpr hy
  exact⟨kZ.mpr ⟨_,hp,rfl⟩,this⟩
theorem Kd.lV(h:Kd k sh sr X KD):X.s.q.V.length≤KD.length+1:=by
 have h1:=qJ0 h.x.w.qs.ok.nd
 have h2:=h.pm.length_eq
 rw[h9]at h2
 omega
theorem Kd.hl(h:Kd k sh sr X KD){n:Int}:n∈X.s.hl↔n∈KD.map (·.1):=by
 rw[qJ6]
 constructor
 ·rintro⟨a,b⟩
  exact(h.eq n a).mp b
 ·intro hy
  have:n≠64:=by
   obtain⟨z,hz,rfl⟩:=kZ.mp hy
   have:=h.kb z hz
   have:=h.h64
   omega
  exact⟨this,(h.eq n this).mpr hy⟩
theorem q84{s:XS}(x:Ix k s):need k s≤17:=by
 have b2:=x.w.qs.ok.b2
 by_cases z:(1+k.ie)*s.q.P≤s.rmX
 ·have:=q83 x z
  split at this<;>omega
 ·unfold need
  split
  ·omega
  ·rw[kI (by omega)]
   split<;>omega
theorem Kd.can(h:Kd k sh sr X KD)(n0:0≤n)(n1:n<sh)(hc:n∈KD.map (·.1)∨KD.length<sr):(∃p,(n,p)∈X.s.q.V)∨(X.s.q.V.length<59∧X.s.q.V.length+1<(X.s.q.B-(1+k.ie))*X.s.q.P):=by
 have:=h.lV
 have:=h.hs
 have:=h.s57
 have:=h.h64
 rcases hc with z|z
 ·exact .inl ((h.eq n (by omega)).mpr z)
 ·exact .inr ⟨by omega,by omega⟩
theorem Kd.can64(h:Kd k sh sr X KD)(ne:KD≠[]):(∃p,((64:Int),p)∈X.s.q.V)∨(X.s.q.V.length<59∧X.s.q.V.length+1<(X.s.q.B-(1+k.ie))*X.s.q.P):=by
 have hs:=h.hs
 have ls:=h.ls
 have s57:=h.s57
 by_cases z:∃p,((64:Int),p)∈X.s.q.V
 ·exact .inl z
 ·have e:(X.s.q.V.map (·.1)).filter (λn=>decide (n≠64))=X.s.q.V.map (·.1):=rE.mpr λy hy=>hG λw=>z (by
   obtain⟨u,hu,rfl⟩:=kZ.mp hy
   exact⟨u.2,by rw[←w];exact hu⟩)
  have:=h.pm.length_eq
  rw[e,h9,h9]at this
  exact .inr ⟨by omega,by omega⟩
theorem Kd.wrote(h:Kd k sh sr X KD)(n0:0≤n)(n1:n<sh)(hc:n∈KD.map (·.1)∨KD.length<sr)(a:AskO k i X n v Y qs p):Kd k sh sr Y (putW KD n v):=by
 have h64:=h.h64
 have mp:∀q,q∈putW KD n v↔q=(n,v)∨(q∈KD∧q.1≠n):=λq=>by rw[q5T h.nd,jD]
 have mk:∀m,m∈(putW KD n v).map (·.1)↔m=n∨m∈KD.map (·.1):=λm=>by
  rw[kZ,kZ]
  constructor
  ·rintro⟨q,hq,rfl⟩
   rcases(mp q).mp hq with e|⟨e,_⟩
   ·rw[e];exact .inl rfl
   ·exact .inr ⟨q,e,rfl⟩
  ·intro z
   by_cases e:m=n
   ·exact⟨(n,v),(mp _).mpr (.inl rfl),e.symm⟩
   ·rcases z with z|⟨q,hq,rfl⟩
    ·exact absurd z e
    ·exact⟨q,(mp _).mpr (.inr ⟨hq,e⟩),rfl⟩
 refine⟨a.x,Wt.of a.ge,a.ok,qCG h.nd,λy hy=>?_,λm m6=>?_,λy hy=>?_,?_,by rw[a.eB,a.eP];exact h.hs,h.s57,h64⟩
 ·rcases(mp y).mp hy with e|⟨e,_⟩
  ·rw[e];exact⟨n0,n1⟩
  ·exact h.kb y e
 ·rw[a.nm,mk,h.eq m m6]
 ·rcases(mp y).mp hy with e|⟨e,en⟩
  ·rw[e];exact a.hn
  ·have:=h.kb y e
   exact a.hv _ _ (by omega) en (h.hv y e)
 ·unfold putW
  split
  ·rw[h9]
   exact h.ls
  ·rename_i z
   rw[kP,mP]
   rcases hc with w|w
   ·exfalso
    obtain⟨q,hq,e⟩:=kZ.mp w
    exact z (wY.mpr ⟨q,hq,hG e⟩)
   ·omega
theorem Kd.gave(h:Kd k sh sr X KD){b:Int}(a:AskO k i X 64 b Y qs p){g:List Int}(hg:∀m∈g,m≠64):Kd k sh sr ⟨Y.s.forgs g,Y.g,Y.ps⟩ (KD.filter λy=>!decide (y.1∈g)):=by
 have h64:=h.h64
 obtain⟨a1,a2,a3,a4,a5,a6,a7,a8,a9⟩:=q33 a.x g
 have mk:∀y,y∈KD.filter (λy=>!decide (y.1∈g))↔y∈KD∧y.1∉g:=λy=>by
  rw[mJ,rA,rB]
 refine⟨a1,Wt.of ?_,a.ok,h.nd.sublist (wZ.map _),λy hy=>h.kb y ((mk y).mp hy).1,λm m6=>?_,λy hy=>?_,mF (mE _ _) h.ls,?_,h.s57,h64⟩
 ·show(1+k.ie)*(Y.s.forgs g).q.P≤(Y.s.forgs g).rmX
  rw[a2,a7]
  exact a.ge
 ·rw[a8,a.nm,kZ]
  constructor
  ·rintro⟨e1,e|e⟩
   ·exact absurd e m6
   ·obtain⟨y,hy,e⟩:=kZ.mp ((h.eq m m6).mp e)
    exact⟨y,(mk y).mpr ⟨hy,by rw[e];exact e1⟩,e⟩
  ·rintro⟨y,hy,rfl⟩
   obtain⟨h1,h2⟩:=(mk y).mp hy
   exact⟨h2,.inr ((h.eq _ m6).mpr (kZ.mpr ⟨y,h1,rfl⟩))⟩
 ·obtain⟨h1,h2⟩:=(mk y).mp hy
  have:=h.kb y h1
  exact a9 _ _ h2 (a.hv _ _ (by omega) (by omega) (h.hv y h1))
 ·show sr+2≤((Y.s.forgs g).q.B-(1+k.ie))*(Y.s.forgs g).q.P
  rw[a6,a7,a.eB,a.eP]
  exact h.hs
end
end W1
namespace L2
open PySem PySem.Spec PyProof.Rows
section
variable{X:Cx}{k:Nat}{f W:Addr}{fd:FuncData}{ps:List Str}{sp:Sp}{dvs:List V}{ds:List Value}{x m:Str}{p pos apos:Pos}{e:Expr}{es:List Expr}{t:TA}
theorem qJ7{CX:CXT}{E:XK}(b:ClM X.K W m f)(F:FnOk X.prog X.w X.K X.mg X.base CX k f fd ps sp)(hr:Room k X.A)(hg:Gl X x)(hm:X.mg x=some (.ref W))(hb:jS X.K fd ps ds)(hd:Vals dvs ds)(hx:q0O CX X E)(ha:PA X (e::es) t)(hdb:(x==("__debug__":Str))=false:=by decide)
 (he:starEach (e::es) X.env=(false,eval e X.env)::starEach es X.env:=by rfl) (hpl:(backTo pos (starEach es X.env)).any (·.1)=false:=by rfl) {pl:Sem Bool}
 (ht:eval (.Call (.Attribute (.Name x p) m apos) (e::es) [] pos) X.env=(do
  let ov←eval (.Name x p) X.env
  standAt apos.atName
  let(f,first)←holding [ov] (getMethod ov m pl)
  callWith pos f first (backTo pos (starEach (e::es) X.env)) (backToKw pos (keywordEach [] X.env))):=by rfl):
 PE X (.Call (.Attribute (.Name x p) m apos) (e::es) [] pos) (qH2 sp dvs E t):=by
 intro pins s σ H Q I h
 refine rK (pl:=pl) (q2D I hg hm ?_ hdb) ht
 refine PySem.W.method_cls I.kIn b.ga (PySem.W.cls_value I.kIn b.rd b.fd rfl ?_)
 refine wF (first:=[]) (h₀:=X.base) I.ok.mod.kin b.kp (thn (ha pos pins _ σ H _ (I.tok _) h) λus s2 ⟨vs,H2,I2,r,q2⟩=>⟨I2.kIn,?_⟩) he hpl
 exact q7K F hr hb hd hx I2 r q2
end
end L2
namespace W1
open PySem L2
theorem qGM{k:Tm}{X Y:Sx}{r:Except Rf Pa}(R:XS→Prop)(hp:∀s n v,R s→R (s.put n v))(hw:∀s b,R s→R (s.wip b))(w:WX k X.s)(ok:X.g.Ok)(h:X.room k=(Y,r))(c:R X.s):R Y.s:=by
 unfold Sx.room at h
 cases htk:X.s.tk k X.g with
 |none=>
  rw[htk]at h
  cases h
  exact c
 |some ybg=>
  obtain⟨y,b,g'⟩:=ybg
  rw[htk]at h
  dsimp only at h
  have f:=q0R ok htk
  obtain⟨s',n,ms,md,lm,cs,hh⟩:=q57 (λs' _=>R s') w f c (λs' ms n p _ _ _ _ _ _ _ _ hc=>hp _ _ _ hc)
  rcases hh with⟨e,_⟩|⟨e,_⟩
  ·rw[e]at h
   cases h
   exact cs
  ·rw[e]at h
   dsimp only at h
   split at h
   ·cases h
    exact cs
   ·cases h
    exact hw _ _ cs
theorem q9N{k:Tm}(R:XS→Prop)(hp:∀s n v,R s→R (s.put n v))(hw:∀s b,R s→R (s.wip b)):∀{i:Nat} {X Y:Sx} {r:Except Rf Unit},WX k X.s→X.g.Ok→X.rooms k i=some (Y,r)→R X.s→R Y.s
 |0,X,Y,r,w,ok,h,c=>by
  unfold Sx.rooms at h
  split at h
  ·cases h
   exact c
  ·cases h
 |i+1,X,Y,r,w,ok,h,c=>by
  unfold Sx.rooms at h
  split at h
  ·cases h
   exact c
  ·cases hr:X.room k with
   |mk Z q=>
    rw[hr]at h
    obtain⟨w2,ok2,_⟩:=qBO w ok hr
    have c2:=qGM R hp hw w ok hr c
    cases q with
    |error e=>
     dsimp only at h
     cases h
     exact c2
    |ok p=>exact q9N R hp hw w2 ok2 h c2
theorem qJ8{k:Tm}{X Y:Sx}{i:Nat}{n v:Int}{r:Except Rf Nat}(R:XS→Prop)(hp:∀s n v,R s→R (s.put n v))(hw:∀s b,R s→R (s.wip b))(w:WX k X.s)(ok:X.g.Ok)(h:X.ask k i n v=some (Y,r))(c:R X.s):R Y.s:=by
 unfold Sx.ask at h
 cases hr:X.rooms k i with
 |none=>rw[hr]at h;cases h
 |some zq=>
  obtain⟨Z,q⟩:=zq
  rw[hr]at h
  have c2:=q9N R hp hw w ok hr c
  cases q with
  |error e=>
   dsimp only at h
   cases h
   exact c2
  |ok u=>
   dsimp only at h
   split at h
   ·cases h
    exact c2
   ·cases h
    exact hp _ _ _ c2
theorem qBP{k:Tm}{X Y:Sx}{i:Nat}{n v:Int}{r:Except Rf Nat}(w:WX k X.s)(ok:X.g.Ok)(h:X.ask k i n v=some (Y,r))(c:X.s.lf=none):Y.s.lf=none:=
 qJ8 (λs=>s.lf=none) (λs n v e=>by show s.lf.map _=none;rw[e];rfl) (λs b e=>by show s.lf.map _=none;rw[e];rfl) w ok h c
section
variable{k:Tm}{s:XS}{b:Nat}
structure Chd(s:XS)(b t:Nat)(s':XS)(ms:List (List Int)):Prop where
 st:∀n p,(n,p)∈s.q.V→¬p / (s.q.P:Int)=(b:Int)→(n,p)∈s'.q.V
 rm:s'.rmX+ms.length=s.rmX
 fi:∀c,s'.q.fi.getD c 0=if t=c then(ms.length:Int)else s.q.fi.getD c 0
 e0:ms=[]→s'=s
 mv:∀i (h:i<ms.length),∃n p,ms[i]=[n,p,((t*s.q.P+i:Nat):Int)]∧p / (s.q.P:Int)=(b:Int)∧(n,((t*s.q.P+i:Nat):Int))∈s'.q.V
theorem Chd.step{s':XS}{ms:List (List Int)}{n p:Int}(w:WX k s)(f0:s.q.fi.getD s.pb 0=0)(fb:s.q.fi.getD b 0=(s.q.P:Int))(hr:s.rmX=(1+k.ie)*s.q.P)(w':WX k s')(kp:Kp s s')(hnp:(n,p)∈s'.q.V)(hpb:p / (s.q.P:Int)=(b:Int))(lt:k.ie*s'.q.P<s'.rmX)(dk:s'.lf≠some 0)(h:Chd s b s.pb s' ms):Chd s b s.pb (s'.put n (s'.val p n)) (ms++[[n,p,(s'.np:Int)]]):=by
 have p1:=w.qs.ok.p1
 have eP:=kp.eP
 have lt':=lt
 have rm:=h.rm
 rw[eP]at lt
 rw[gZ,dP]at hr
 have il:ms.length<s.q.P:=by omega
 obtain⟨sp1,sp2,sp3,sp4,_⟩:=w'.spot (by omega)
 have fs:=h.fi s.pb
 rw[kI rfl]at fs
 have epb:s'.pb=s.pb:=by
  by_cases z:ms=[]
  ·rw[h.e0 z]
  ·have l0:0<ms.length:=r9.mpr z
   obtain⟨sp0,_⟩:=w.spot (by omega)
   have pt:jO s'.q.P s'.q.fi s.pb=true:=by
    unfold jO
    rw[fs,eP,hG (by omega),hG (by omega)]
    rfl
   have sb:s.pb<s'.q.B:=by rw[kp.eB];exact sp0
   rcases sp4 with q|⟨q,_⟩
   ·obtain⟨q1,_,q3,q4⟩:=vY q
    exact w'.on _ _ q1 sb (by unfold jO;rw[hG q3,hG q4];rfl) pt
   ·unfold jM at q
    rw[jY]at q
    exact absurd pt (rJ.mp q _ (mM.mpr sb))
 have epf:s'.pf=ms.length:=by
  rw[epb,fs]at sp3
  omega
 have enp:s'.np=s.pb*s.q.P+ms.length:=by
  unfold XS.np
  rw[epb,epf,eP]
 have nb:=w'.qs.ok.nm _ hnp
 obtain⟨w2,r2⟩:=w'.put (n:=n) (v:=s'.val p n) lt' nb.1 nb.2 (.inl ⟨p,hnp⟩) dk
 have memp:∀x:Int×Int,x∈(s'.put n (s'.val p n)).q.V↔x=(n,((s'.pb*s'.q.P+s'.pf:Nat):Int))∨(x∈s'.q.V∧x.1≠n):=λx=>uE
 have tb:s.pb≠b:=λz=>by rw[z,fb]at f0;omega
 refine⟨λm q hm hq=>(memp _).mpr (.inr ⟨h.st m q hm hq,λz=>?_⟩),?_,λc=>?_,λz=>?_,λi hi=>?_⟩
 ·have z:m=n:=z
  subst z
  have:=q81 w'.qs.ok.nd (h.st m q hm hq) hnp
  exact hq (by rw[this];exact hpb)
 ·rw[kP,mP]
  omega
 ·have:=q80 (q:=s'.q) (n:=n) w'.qs.ok.lf sp1 sp3 c
  show(s'.q.put s'.pb s'.pf n).fi.getD c 0=_
  rw[this,epb,epf,h.fi c,kP,mP]
  split
  ·omega
  ·rfl
 ·simp at z
 ·by_cases e:i<ms.length
  ·obtain⟨n',p',e1,e2,e3⟩:=h.mv i e
   refine⟨n',p',by rw[List.getElem_append_left e];exact e1,e2,(memp _).mpr (.inr ⟨e3,λz=>?_⟩)⟩
   have z:n'=n:=z
   subst z
   have:=q81 w'.qs.ok.nd e3 hnp
   rw[←this]at hpb
   have:((s.pb*s.q.P+i:Nat):Int) / (s.q.P:Int)=(s.pb:Int):=by
    rw[←g5]
    congr 1
    rw[d3,pJ (by omega),cY (by omega)]
    omega
   rw[this]at hpb
   exact tb (Int.ofNat.inj hpb)
  ·have:i=ms.length:=by
    rw[kP,mP]at hi
    omega
   subst this
   refine⟨n,p,?_,hpb,?_⟩
   ·rw[List.getElem_append_right (kM _)]
    simp[enp]
   ·refine(memp _).mpr (.inl ?_)
    rw[epb,epf,eP]
end
section
variable{k:Tm}{X Y:Sx}{p:Pa}
theorem qBQ(x:Ix k X.s)(wt:Wt k X.s)(ok:X.g.Ok)(h:X.room k=(Y,.ok p)):p.b<X.s.q.B∧Y.s.cl=X.s.cl.set p.b (X.s.cl.getD p.b 0+1)∧(∀c,Y.s.cl.getD c 0=if p.b=c then X.s.cl.getD p.b 0+1 else X.s.cl.getD c 0)∧X.s.lst≤Y.s.lst∧X.s.q.fi.getD p.b 0=(X.s.q.P:Int):=by
 obtain⟨rx,_,_,_,_,⟨g',htk⟩,_,_,s',_,eY,md⟩:=q3W x wt ok h
 have fb:=q0R ok htk
 have e1:Y.s.cl=X.s.cl.set p.b (X.s.cl.getD p.b 0+1):=by
  rw[eY,←md.ec]
  rfl
 have gcl:∀c,Y.s.cl.getD c 0=if p.b=c then X.s.cl.getD p.b 0+1 else X.s.cl.getD c 0:=λc=>by
  rw[e1,jG,x.w.lc]
  by_cases e:p.b=c
  ·rw[kI ⟨e,fb.b⟩,kI e]
  ·rw[kF (λz=>e z.1),kF e]
 refine⟨fb.b,e1,gcl,?_,fb.f⟩
 obtain⟨c,hc,ec⟩:=q82 rx.x.w (by rw[rx.kp.eB];have:=fb.b;omega)
 rw[rx.kp.eB]at hc
 rw[←ec,gcl]
 have:=q0S x.w hc
 have:=q0S x.w fb.b
 split<;>omega
structure Even1(k:Tm)(X Y:Sx)(p:Pa):Prop where
 lm:p.mv.length=X.s.q.P
 mv:∃t,t<X.s.q.B∧(∀m∈p.mv,∃n x y,m=[n,x,y]∧y / (X.s.q.P:Int)=(t:Int)∧x / (X.s.q.P:Int)=(p.b:Int))∧X.s.cl.getD p.b 0<X.s.cl.getD t 0
 rY:Y.s.rmX=(1+k.ie)*Y.s.q.P
 up:Y.s.opt k≠[]→Y.s.lst=X.s.lst+1
 no:Y.s.opt k=[]→Y.s.lst=X.s.lst
 cb:Y.s.cl.getD p.b 0=X.s.lst+1
 f0:Y.s.q.fi.getD p.b 0=0
theorem qET(x:Ix k X.s)(wt:Wt k X.s)(ok:X.g.Ok)(hr:X.s.rmX=(1+k.ie)*X.s.q.P)(ev:k.ev=true)(e0:X.s.opt k=[])(h:X.room k=(Y,.ok p)):Even1 k X Y p:=by
 obtain⟨b1,ecl,gcl,lle,_⟩:=qBQ x wt ok h
 obtain⟨rx,hp,_,ge,rmE,⟨g',htk⟩,lm,_,s',emv,eY,md⟩:=q3W x wt ok h
 have p1:=x.w.qs.ok.p1
 have s1:=x.s1
 have eP:=rx.kp.eP
 have eB:=rx.kp.eB
 have fb:=q0R ok htk
 have lvb:=vQ x.w.qs x.w.pd fb.b
 have hc:X.s.chg k=some p.b:=by
  rcases vZ ok htk with⟨_,h1,_⟩|⟨_,_,_,_,hc,_⟩
  ·rw[e0]at h1;cases h1
  ·exact hc
 obtain⟨fr,b,hb,_,b2,b3,b4⟩:=q4A x hr ev e0
 rw[hc]at hb
 obtain rfl:=kQ hb
 have lP:p.mv.length=X.s.q.P:=by omega
 have rY:Y.s.rmX=(1+k.ie)*Y.s.q.P:=by rw[eP];omega
 have rm0:0<X.s.rmX:=by rw[hr,gZ];omega
 obtain⟨t1,t2,t3,t4,_⟩:=x.w.spot rm0
 have ft:X.s.q.fi.getD X.s.pb 0=0:=by
  rcases(q2L x.w hr).1 _ t1 with q|q
  ·exact q
  ·rw[t3]at q;omega
 have tb:X.s.pb≠p.b:=λz=>by rw[z,b2]at ft;omega
 obtain⟨s2,n2,ms2,_,_,cd,hh⟩:=q57 (λs' ms=>Chd X.s p.b X.s.pb s' ms) x.w fb ⟨λ_ _ z _=>z,rfl,λc=>by
  split
  ·rename_i z;rw[←z,ft];rfl
  ·rfl,λ_=>rfl,λi hi=>absurd hi (sK _)⟩ (λs' ms n q w' kp _ _ hnp hpb lt dk c=>c.step x.w ft b2 hr w' kp hnp hpb lt dk)
 have cd:Chd X.s p.b X.s.pb s' p.mv:=by
  rcases hh with⟨e,_⟩|⟨e,_⟩
  ·rw[emv]at e;cases e
  ·rw[emv]at e
   cases e
   exact cd
 have gfi:∀c,Y.s.q.fi.getD c 0=if p.b=c then 0 else s'.q.fi.getD c 0:=λc=>by
  rw[eY]
  show(s'.q.fi.set p.b 0).getD c 0=_
  rw[jG,md.w.qs.ok.lf,md.eB]
  by_cases e:p.b=c
  ·rw[kI ⟨e,b1⟩,kI e]
  ·rw[kF (λz=>e z.1),kF e]
 have eV:Y.s.q.V=s'.q.V:=by rw[eY];rfl
 have up1:Y.s.lst≤X.s.lst+1:=by
  have:=q0S rx.x.w (c:=p.b) (by rw[eB];exact b1)
  rw[gcl,kI rfl,b3]at this
  exact this
 refine⟨lP,⟨X.s.pb,t1,λm hm=>?_,?_⟩,rY,λne=>?_,λz=>?_,by rw[gcl,kI rfl,b3],by rw[gfi,kI rfl]⟩
 ·obtain⟨i,hi,e⟩:=dM hm
  obtain⟨n,q,e1,e2,_⟩:=cd.mv i hi
  refine⟨n,q,_,by rw[←e];exact e1,?_,e2⟩
  rw[←g5]
  congr 1
  rw[d3,pJ (by omega),cY (by omega)]
  omega
 ·rw[b3]
  exact fr _ t1 ft
 ·refine sO up1 (Int.not_lt.mp λy=>?_)
  have leq:Y.s.lst=X.s.lst:=by omega
  obtain⟨d,hd⟩:=g7 _ ne
  obtain⟨⟨fd,ld⟩,cd'⟩:=yR.mp hd
  have cd':=cd' ev
  have db:p.b≠d:=λz=>by
   have:=fd.f
   rw[gfi,kI z,eP]at this
   omega
  have hd':=fd.b
  rw[eB]at hd'
  rw[gcl,kF db,leq]at cd'
  have lvY:=vQ rx.x.w.qs rx.x.w.pd fd.b
  rw[eP]at ld
  by_cases dt:X.s.pb=d
  ·have:(Y.s.q.P:Int)≤(lvP Y.s.q.P d Y.s.q.V).length:=by
    have sub:∀i,i<X.s.q.P→∃n,[((d*X.s.q.P+i:Nat):Int),n]∈lvP Y.s.q.P d Y.s.q.V:=λi hi=>by
     obtain⟨n,q,_,_,e3⟩:=cd.mv i (by omega)
     refine⟨n,(zN rx.x.w.qs.ok.p1 rx.x.w.pd).mpr ⟨(n,((d*X.s.q.P+i:Nat):Int)),by rw[eV,←dt];exact e3,?_,rfl⟩⟩
     rw[eP]
     show((d*X.s.q.P+i:Nat):Int) / _=_
     rw[←g5]
     congr 1
     rw[d3,pJ (by omega),cY hi]
     omega
    have:((List.range X.s.q.P).map λi=>((d*X.s.q.P+i:Nat):Int)).length≤((lvP Y.s.q.P d Y.s.q.V).map λm=>m.getD 0 0).length:=by
     refine c7 ?_ λy hy=>?_
     ·refine List.Pairwise.map _ (λa b h=>?_) cZ
      intro z
      omega
     ·obtain⟨i,hi,rfl⟩:=kZ.mp hy
      obtain⟨n,hn⟩:=sub i (mM.mp hi)
      exact kZ.mpr ⟨_,hn,rfl⟩
    rw[h9,h9,mZ]at this
    rw[eP]
    omega
   rw[eP]at this
   rw[eP]at lvY
   omega
  ·have fX:X.s.q.fi.getD d 0=(X.s.q.P:Int):=by
    have:=fd.f
    rw[gfi,kF db,cd.fi,kF dt,eP]at this
    exact this
   have lvX:=vQ x.w.qs x.w.pd hd'
   have le:(lvP X.s.q.P d X.s.q.V).length≤(lvP Y.s.q.P d Y.s.q.V).length:=by
    refine c7 q49 λy hy=>?_
    obtain⟨z,z1,z2,rfl⟩:=(zN x.w.qs.ok.p1 x.w.pd).mp hy
    refine(zN rx.x.w.qs.ok.p1 rx.x.w.pd).mpr ⟨z,?_,by rw[eP];exact z2,rfl⟩
    rw[eV]
    exact cd.st z.1 z.2 z1 λq=>db (Int.ofNat.inj (q.symm.trans z2))
   have:d∈X.s.opt k:=yR.mpr ⟨⟨⟨hd',fX,by
    unfold XS.spc
    rw[kI (by omega)]
    exact(qBN x.w hd').2⟩,by omega⟩,λ_=>cd'⟩
   rw[e0]at this
   cases this
 ·refine sO (Int.not_lt.mp λy=>?_) lle
  obtain⟨d,hd⟩:=g7 _ (v8 rx.x rY)
  obtain⟨fd,ld⟩:=q0Q.mp hd
  have nc:¬Y.s.cl.getD d 0<Y.s.lst+k.sp:=λy=>by
   have:d∈Y.s.opt k:=yR.mpr ⟨⟨fd,ld⟩,λ_=>y⟩
   rw[z]at this
   cases this
  have ne:p.b≠d:=λy=>by
   have:=fd.f
   rw[gfi,kI y,eP]at this
   omega
  rw[gcl,kF ne]at nc
  have hd':=fd.b
  rw[eB]at hd'
  have:=x.gp ev d p.b hd' b1
  omega
end
noncomputable def whoL(P:Nat):List Int→List Pa→Prop
 |_,[]=>True
 |cs,[p]=>p.why=Str.ofString "rule"∧p.b<cs.length
 |cs,p::q::r=>(p.why=Str.ofString "even"∧p.b<cs.length∧p.mv.length=P∧∃t,t<cs.length∧(∀m∈p.mv,∃n x y,m=[n,x,y]∧y / (P:Int)=(t:Int)∧x / (P:Int)=(p.b:Int))∧cs.getD p.b 0<cs.getD t 0)∧whoL P (cs.set p.b (cs.getD p.b 0+1)) (q::r)
noncomputable def addL:List Int→List Pa→List Int
 |cs,[]=>cs
 |cs,p::r=>addL (cs.set p.b (cs.getD p.b 0+1)) r
structure Who(k:Tm)(X Y:Sx)(qs:List Pa):Prop where
 ps:Y.ps=X.ps++qs
 wh:whoL X.s.q.P X.s.cl qs
 cl:Y.s.cl=addL X.s.cl qs
 le:X.s.lst≤Y.s.lst
 ne:X.s.rd k=false→qs≠[]
 l1:qs.length=1→X.s.opt k≠[]∧∀c,X.s.q.fi.getD c 0=0→Y.s.cl.getD c 0=X.s.cl.getD c 0
 l2:2≤qs.length→X.s.opt k=[]∧Y.s.lst=X.s.lst+1
theorem q7G{k:Tm}(ev:k.ev=true):∀{i:Nat} {X Y:Sx},Ix k X.s→Wt k X.s→X.g.Ok→(1+k.ie)*X.s.q.P≤X.s.rmX→X.rooms k i=some (Y,.ok ())→∃qs,Who k X Y qs
 |0,X,Y,x,wt,ok,ge,h=>by
  unfold Sx.rooms at h
  split at h
  ·rename_i rd
   cases h
   exact⟨[],by simp,trivial,rfl,gJ _,λz=>(by rw[rd]at z;cases z),λz=>(by cases z),λz=>(by simp at z)⟩
  ·cases h
 |i+1,X,Y,x,wt,ok,ge,h=>by
  unfold Sx.rooms at h
  split at h
  ·rename_i rd
   cases h
   exact⟨[],by simp,trivial,rfl,gJ _,λz=>(by rw[rd]at z;cases z),λz=>(by cases z),λz=>(by simp at z)⟩
  ·rename_i rd
   have nr':¬(1+k.ie)*X.s.q.P<X.s.rmX:=λz=>rd (hG z)
   have hr:X.s.rmX=(1+k.ie)*X.s.q.P:=by omega
   cases e:X.room k with
   |mk W o=>
    rw[e]at h
    cases o with
    |error q=>cases h
    |ok p=>
     have h:W.rooms k i=some (Y,.ok ()):=h
     obtain⟨rx,hp,_,geW,rmE,⟨g',htk⟩,lm,_⟩:=q3W x wt ok e
     obtain⟨b1,ecl,gcl,lle,ffb⟩:=qBQ x wt ok e
     have eP:=rx.kp.eP
     have lvb:=vQ x.w.qs x.w.pd b1
     rcases vZ ok htk with⟨ey,h1,_⟩|⟨ey,_,e0,_⟩
     ·have lt:=(yR.mp h1).1.2
      have rdW:W.s.rd k=true:=hG (by rw[eP];omega)
      have eY:Y=W:=by
       cases i with
       |zero=>unfold Sx.rooms at h;rw[rdW,kI rfl]at h;cases h;rfl
       |succ i=>unfold Sx.rooms at h;rw[rdW,kI rfl]at h;cases h;rfl
      subst eY
      refine⟨[p],hp,⟨ey,by rw[x.w.lc];exact b1⟩,ecl,lle,λ_ z=>(by cases z),λ_=>⟨λz=>(by rw[z]at h1;cases h1),λc hc=>?_⟩,λz=>(by simp at z)⟩
      have p1:=x.w.qs.ok.p1
      rw[gcl,kF λz=>by rw[←z,ffb]at hc;omega]
     ·have E:=qET x wt ok hr ev e0 e
      obtain⟨qs,wq⟩:=q7G ev rx.x rx.wt rx.ok (by have:=E.rY;omega) h
      have rdW:W.s.rd k=false:=kD (by have:=E.rY;omega)
      have ne:=wq.ne rdW
      obtain⟨q,r,rfl⟩:∃q r,qs=q::r:=by
       cases qs with
       |nil=>exact absurd rfl ne
       |cons q r=>exact⟨q,r,rfl⟩
      obtain⟨t,t1,t2,t3⟩:=E.mv
      refine⟨p::q::r,by rw[wq.ps,hp];simp,⟨⟨ey,by rw[x.w.lc];exact b1,E.lm,t,by rw[x.w.lc];exact t1,t2,t3⟩,?_⟩,?_,cQ lle wq.le,λ_ z=>(by cases z),λz=>(by simp at z),λ_=>⟨e0,?_⟩⟩
      ·rw[←ecl,←eP];exact wq.wh
      ·rw[wq.cl,ecl];rfl
      ·by_cases z:2≤(q::r).length
       ·obtain⟨z1,z2⟩:=wq.l2 z
        rw[z2,E.no z1]
       ·have z:(q::r).length=1:=by
         rw[mG]at z ⊢
         omega
        obtain⟨z1,z2⟩:=wq.l1 z
        have u:=E.up z1
        have:=wq.le
        have:=z2 _ E.f0
        rw[E.cb]at this
        have:=q0S (s:=Y.s) (k:=k) (c:=p.b) (by
         obtain⟨_,_,_,_,_⟩:=vU rx.x.w rx.ok h
         assumption) (by
         obtain⟨_,_,kp,_,_⟩:=vU rx.x.w rx.ok h
         rw[kp.eB,rx.kp.eB];exact b1)
        omega
theorem qGN{k:Tm}(ev:k.ev=true){i:Nat}{X Y:Sx}{n v:Int}{p:Nat}(x:Ix k X.s)(wt:Wt k X.s)(ok:X.g.Ok)(ge:(1+k.ie)*X.s.q.P≤X.s.rmX)(h:X.ask k i n v=some (Y,.ok p)):∃qs,Who k X Y qs:=by
 unfold Sx.ask at h
 cases e:X.rooms k i with
 |none=>rw[e]at h;cases h
 |some Zr=>
  obtain⟨Z,r⟩:=Zr
  rw[e]at h
  cases r with
  |error q=>cases h
  |ok u=>
   dsimp only at h
   split at h
   ·cases h
   ·cases h
    obtain⟨qs,w⟩:=q7G ev x wt ok ge e
    exact⟨qs,w.ps,w.wh,w.cl,w.le,w.ne,w.l1,w.l2⟩
noncomputable def M3(ps:List Pa):Prop:=∀q∈ps,∀m∈q.mv,m.length=3
theorem qHC:∀{rs:List (List Int)} {s s':XS} {ms:List (List Int)},XS.mvs rs s=(s',some ms)→∀m∈ms,m.length=3
 | [],s,s',ms,h=>by
  unfold XS.mvs at h
  cases h
  exact λm hm=>by cases hm
 |k::r,s,s',ms,h=>by
  unfold XS.mvs at h
  split at h
  ·cases h
  ·cases e:XS.mvs r (s.put (k.getD 1 0) (s.val (k.getD 0 0) (k.getD 1 0)))with
   |mk s2 o=>
    rw[e]at h
    cases o with
    |none=>cases h
    |some m2=>
     cases h
     intro m hm
     rcases kL.mp hm with z|hm
     ·rw[z];rfl
     ·exact qHC e m hm
theorem qEU{k:Tm}{X Y:Sx}{r:Except Rf Pa}(h:X.room k=(Y,r))(m:M3 X.ps):M3 Y.ps:=by
 unfold Sx.room at h
 split at h
 ·cases h;exact m
 ·split at h
  ·cases h;exact m
  ·rename_i e
   split at h
   ·cases h;exact m
   ·cases h
    intro q hq
    rcases gO.mp hq with hq|hq
    ·exact m q hq
    ·rw[hV.mp hq]
     exact qHC e
theorem qBR{k:Tm}:∀{i:Nat} {X Y:Sx} {r:Except Rf Unit},X.rooms k i=some (Y,r)→M3 X.ps→M3 Y.ps
 |0,X,Y,r,h,m=>by
  unfold Sx.rooms at h
  split at h
  ·cases h;exact m
  ·cases h
 |i+1,X,Y,r,h,m=>by
  unfold Sx.rooms at h
  split at h
  ·cases h;exact m
  ·cases e:X.room k with
   |mk W o=>
    rw[e]at h
    cases o with
    |error q=>cases h;exact qEU e m
    |ok p=>exact qBR h (qEU e m)
theorem qKI{k:Tm}{i:Nat}{X Y:Sx}{n v:Int}{r:Except Rf Nat}(h:X.ask k i n v=some (Y,r))(m:M3 X.ps):M3 Y.ps:=by
 unfold Sx.ask at h
 cases e:X.rooms k i with
 |none=>rw[e]at h;cases h
 |some Zr=>
  obtain⟨Z,o⟩:=Zr
  rw[e]at h
  have m2:=qBR e m
  cases o with
  |error q=>cases h;exact m2
  |ok u=>
   dsimp only at h
   split at h
   ·cases h;exact m2
   ·cases h;exact m2
structure Yd(k:Tm)(sh:Int)(sr:Nat)(X:Sx)(KD:Mp)(n:Nat):Prop where
 d:Kd k sh sr X KD
 lf:X.s.lf=none
 m3:M3 X.ps
 ge:(1+k.ie)*X.s.q.P≤X.s.rmX
 rcn:X.s.rc.length≤300*n
 psn:X.ps.length≤20*n
section
variable{k:Tm}{sh:Int}{sr:Nat}{X:Sx}{KD:Mp}{j:Nat}{n v:Int}
theorem Yd.ask(h:Yd k sh sr X KD j)(ev:k.ev=true)(n0:0≤n)(n1:n≤64)(hl:(∃p,(n,p)∈X.s.q.V)∨(X.s.q.V.length<59∧X.s.q.V.length+1<(X.s.q.B-(1+k.ie))*X.s.q.P)):∃Y qs p,X.ask k 17 n v=some (Y,.ok p)∧AskO k 17 X n v Y qs p∧Who k X Y qs∧qs.length≤X.s.q.B-(1+k.ie)∧Y.s.lf=none∧M3 Y.ps:=by
 rcases qGK (n:=n) (v:=v) h.d.x h.d.wt h.d.ok (q84 h.d.x) n0 n1 hl with⟨Y,qs,p,hZ,a⟩|⟨Y,qs,hZ,a⟩
 ·obtain⟨qs',w⟩:=qGN ev h.d.x h.d.wt h.d.ok h.ge hZ
  have e:qs'=qs:=List.append_cancel_left (w.ps.symm.trans a.ps)
  subst e
  have:=q83 h.d.x h.ge
  rw[kI ev]at this
  exact⟨Y,qs',p,hZ,a,w,mF a.ln this,qBP h.d.x.w h.d.ok hZ h.lf,qKI hZ h.m3⟩
 ·have:=qBP h.d.x.w h.d.ok hZ h.lf
  rw[a.lf]at this
  cases this
theorem qJ9{i:Nat}{Y:Sx}{p:Nat}(x:Ix k X.s)(rd:X.s.rd k=true)(n0:0≤n)(n1:n≤64)(hl:(∃p,(n,p)∈X.s.q.V)∨X.s.q.V.length<59)(h:X.ask k i n v=some (Y,.ok p)):Y.ps=X.ps∧Y.s.cl=X.s.cl∧Y.s.rmX+1=X.s.rmX:=by
 have e:X.rooms k i=some (X,.ok ()):=by
  cases i with
  |zero=>unfold Sx.rooms;rw[rd,kI rfl]
  |succ i=>unfold Sx.rooms;rw[rd,kI rfl]
 unfold Sx.ask at h
 rw[e]at h
 dsimp only at h
 split at h
 ·cases h
 ·rename_i dk
  cases h
  have rd:=mV rd
  rw[gZ,dP]at rd
  exact⟨rfl,rfl,(x.w.put (v:=v) (by omega) n0 n1 hl dk).2⟩
theorem q58{s:XS}{m:Int}(w:WX k s)(b0:0<s.q.B)(hm:m∈s.cl)(le:∀a∈s.cl,m≤a):m=s.lst:=by
 obtain⟨c,hc,e⟩:=q82 w b0
 have hc':c<s.cl.length:=by rw[w.lc];exact hc
 have h1:=le (s.cl.getD c 0) (by rw[kJ,hU hc'];exact gD hc')
 obtain⟨i,hi,rfl⟩:=dM hm
 have h2:=q0S w (c:=i) (by rw[←w.lc];exact hi)
 rw[kJ,hU hi]at h2
 have h2:s.lst≤s.cl[i]:=h2
 omega
end
noncomputable def RwO(c:Nat)(l:List (Int×Int)):Prop:=l.Pairwise λa b=>b.2-a.2≤((c:Int)-1)*(b.1-a.1)
theorem RwO.snoc{c:Nat}{l:List (Int×Int)}{d e:Int×Int}(h:RwO c (l++[d]))(le:e.2-d.2≤((c:Int)-1)*(e.1-d.1)):RwO c (l++[d]++[e]):=by
 unfold RwO at h ⊢
 refine List.pairwise_append.mpr ⟨h,List.pairwise_singleton _ _,λa ha b hb=>?_⟩
 rw[hV.mp hb]
 rcases gO.mp ha with ha|ha
 ·have:=(List.pairwise_append.mp h).2.2 a ha d (hV.mpr rfl)
  rw[show e.1-a.1=(e.1-d.1)+(d.1-a.1) by omega,Int.mul_add]
  omega
 ·rw[hV.mp ha]
  exact le
theorem qGO{B P:Nat}:(newX B P).rmX=B*P:=by
 unfold XS.rmX newX rm clr1
 dsimp only
 have:∀n,((List.range n).map λb=>P-((List.replicate B (0:Int)).getD b 0).toNat).sum=n*P:=λn=>by
  induction n with
  |zero=>simp
  |succ n ih=>
   rw[sP,m7,List.sum_append,ih,wX,List.map_singleton,show(List.replicate B (0:Int)).getD n 0=0 from rep8]
   simp
 exact this B
structure Wk(X Y:Sx)(qs:List Pa)(c:Nat):Prop where
 ps:Y.ps=X.ps++qs
 wh:whoL X.s.q.P X.s.cl qs
 cl:Y.s.cl=addL X.s.cl qs
 le:X.s.lst≤Y.s.lst
 l2:2≤qs.length→Y.s.lst=X.s.lst+1
 lq:qs.length≤c
theorem Wk.nil{X:Sx}{c:Nat}:Wk X X [] c:=⟨by simp,trivial,rfl,gJ _,λz=>by simp at z,mO _⟩
theorem Who.wk{k:Tm}{X Y:Sx}{qs:List Pa}{c:Nat}(w:Who k X Y qs)(h:qs.length≤c):Wk X Y qs c:=⟨w.ps,w.wh,w.cl,w.le,λz=>(w.l2 z).2,h⟩
theorem Wk.forgs{k:Tm}{X Y:Sx}{qs:List Pa}{c:Nat}(w:Wk X Y qs c)(x:Ix k Y.s)(g:List Int):Wk X ⟨Y.s.forgs g,Y.g,Y.ps⟩ qs c:=by
 obtain⟨_,_,_,e,_⟩:=q33 x g
 have el:(Y.s.forgs g).lst=Y.s.lst:=by unfold XS.lst;rw[e]
 exact⟨w.ps,w.wh,e.trans w.cl,by show _≤(Y.s.forgs g).lst;rw[el];exact w.le,λz=>el.trans (w.l2 z),w.lq⟩
theorem Wk.row{X Y:Sx}{qs:List Pa}{c:Nat}(w:Wk X Y qs c)(c1:1≤c){l:List (Int×Int)}{tt:Int}(h:RwO c (l++[(X.s.lst,tt)])):RwO c (l++[(X.s.lst,tt)]++[(Y.s.lst,tt+(if(qs.length:Int)-1>0 then(qs.length:Int)-1 else 0))]):=by
 refine h.snoc ?_
 have:=w.lq
 show tt+ _ -tt≤((c:Int)-1)*(Y.s.lst-X.s.lst)
 by_cases z:2≤qs.length
 ·rw[kI (by omega),w.l2 z,show X.s.lst+1-X.s.lst=1 by omega]
  omega
 ·rw[kF (by omega)]
  have:=pU (show 0≤(c:Int)-1 by omega) (Int.sub_nonneg.mpr w.le)
  omega
theorem qEV{xs:List V}{m:Nat}(h:m≤xs.length):cutV xs (some (m:Int)) none=xs.drop m:=by
 unfold cutV
 have e:HT.sIx xs.length 0 (some (m:Int))=m:=by
  unfold HT.sIx
  simp only
  split<;>omega
 rw[e,show HT.sIx xs.length xs.length none=xs.length from rfl]
 exact List.take_of_length_le (by rw[p6];omega)
theorem qBS{α β:Type}{F:α→β→Prop}:∀(n:Nat) {l₁:List α} {l₂:List β},Paired F l₁ l₂→Paired F (l₁.drop n) (l₂.drop n)
 |0,_,_,h=>h
 |_ +1,_,_,.nil=>.nil
 |n+1,_,_,.cons _ t=>qBS n t
end W1
namespace L2
open PySem PySem.Spec PyProof.Rows
section
variable{prog:Program}{w:World}{A:Around}{E:Value→Shared→Prop}
theorem qBT{s:Shared}{nm:String}{f:Builtin}{us:List Value}{ks:List (Str×Value)}{Q:Value→Shared→Prop}(h1:builtinKind nm=none)(h2:plainId nm=true)(h3:entryFor table nm=some f)(h4:argsOk nm ⟨us,ks⟩)
 (go:wpAny (model prog w) A.in1 (f ⟨us,ks⟩) (λfin s'=>match fin with| .done r=>(match(Except.ok r:Result)with| .ok (.ret v)=>Q v s'| .ok _=>False| .error e=>E e s')| .again c=>c.quiet=true∧codeAny (model prog w) A c (λr s'=>match r with| .ok (.ret v)=>Q v s'| .ok _=>False| .error e=>E e s') s') E s):
 wpAny (model prog w) A (call (.builtin nm) us ks) Q E s:=
 cF (pD h2 h3 (by
  simp only[checkBuiltinCall,h1]
  unfold argsOk at h4
  cases e:Manifest.signature? nm with
  |none=>exact mB go
  |some sg=>
   rw[e]at h4
   replace h4:Bind.checkArgs nm sg ⟨us,ks⟩=pure ():=h4
   simp only[h4]
   exact mB go))
theorem qGP(a d:Value):argsOk "min" ⟨[a],[(Str.ofString "default",d)]⟩:=by
 unfold argsOk
 kernel_rfl
theorem qEW{I B:Addr}{fp wr:List Addr}{n:Nat}{P:Nat→Value→Prop}{St:Nat→Heap→Prop}{R:Result→Shared→Prop}{kw:List (Str×Value)}(val:Nat→Int)(hval:∀i v,P i v→∃t,v=.int (val i) t)
 (W:Walks prog w A.in1 I fp wr n P St) (nB:B∉fp):∀(r j i0:Nat) (s:Shared) (v0:Value) (c:Nat),j+r=n→St j s.heap→P i0 v0→i0<j→(∀i,i<j→val i0≤val i)→
 s.heap.get? B=some { cls:=.type "list",dict:=none,data:=.seq #[v0,v0] c,slots:=#[] }→
 (∀i v h' tk,P i v→i<n→(∀i',i'<n→val i≤val i')→(∀b o,b∉wr→b≠B→s.heap.get? b=some o→h'.get? b=some o)→R (.ok (.ret v)) { s with heap:=h',toks:=tk })→
 codeAny (model prog w) A (.builtin "min.loop" ⟨[.ref I,.none,.ref B],kw⟩) R s:=by
 have wB:B∉wr:=λz=>nB (W.sub _ z)
 have nm:(toString "min"++toString ".loop":String)="min.loop":=by decide
 intro r
 induction r with
 |zero=>
  intro j i0 s v0 c ej st p0 l0 le gB fin
  obtain rfl:j=n:=ej
  refine wM dH (id ?_)
  ·rw[d7 gA _]
   show wpAny _ A.in1 (seqItems? (.ref B) >>= _) _ (λ_ _=>_) _
   refine kB (wV gB rfl ?_)
   show wpAny _ A.in1 (tryCatch (pyNext (.ref I)) _ >>= _) _ (λ_ _=>_) _
   refine kB (dJ (W.done s _ _ st λh1 t1 kp=>?_))
   show wpAny _ A.in1 (updateSeq B (λ_=>#[]) >>= _) _ (λ_ _=>_) _
   refine kB ?_
   exact wN (kp B _ wB gB) rfl (kB (wC (mB (fin i0 v0 _ t1 p0 l0 le λb o b1 b2 e=>(kY _ _ b2.symm).trans (kp b o b1 e)))))
 |succ r ih=>
  intro j i0 s v0 c ej st p0 l0 le gB fin
  refine wM dH (id ?_)
  ·rw[d7 gA _]
   show wpAny _ A.in1 (seqItems? (.ref B) >>= _) _ (λ_ _=>_) _
   refine kB (wV gB rfl ?_)
   show wpAny _ A.in1 (tryCatch (pyNext (.ref I)) _ >>= _) _ (λ_ _=>_) _
   refine kB (dJ (W.item j s _ _ (by omega) st λv1 h1 t1 p1 st1 kp=>?_))
   have gB1:=kp B _ wB gB
   show wpAny _ A.in1 (tryCatch (holding [v1,v1] (richCompare .Lt v1 v0 >>= _)) _ >>= _) _ (λ_ _=>_) _
   refine kB (dJ (gK (kB (CmpOf.ints_lt val hval j i0 v1 v0 _ _ _ p1 p0 (kB (gK (gQ (kB (wC (mB ?_))))))))))
   dsimp only
   by_cases z:val j<val i0
   ·rw[hG z]
    rw[kI rfl]
    refine kB (wN gB1 rfl (kB (wC ?_)))
    rw[nm]
    refine mB ⟨rV gA _,ih (j+1) j _ v1 _ (by omega) (W.frame _ _ _ st1 λb hb o e=>(kY _ _ λy:B=b=>nB (by rw[y];exact hb)).trans e) p1 (by omega) (λi hi=>?_) (dS _ gB1 rfl) λi v h2 t2 a1 a2 a3 a4=>fin i v h2 t2 a1 a2 a3 λb o b1 b2 e=>a4 b o b1 b2 ((kY _ _ b2.symm).trans (kp b o b1 e))⟩
    by_cases y:i=j
    ·rw[y]
     omega
    ·have:=le i (by omega)
     omega
   ·rw[kD z]
    rw[kF (by decide)]
    refine kB (wC ?_)
    rw[nm]
    refine mB ⟨rV gA _,ih (j+1) i0 _ v0 c (by omega) st1 p0 (by omega) (λi hi=>?_) gB1 λi v h2 t2 a1 a2 a3 a4=>fin i v h2 t2 a1 a2 a3 λb o b1 b2 e=>a4 b o b1 b2 (kp b o b1 e)⟩
    by_cases y:i=j
    ·rw[y]
     omega
    ·exact le i (by omega)
theorem qEX{s:Shared}{l:Addr}{xs:Array (Int×Tok)}{d:Value}{Q:Value→Shared→Prop}(hh:A.handled=none)(hl:s.heap.IsList l (intItems xs))(h0:xs.size=0→∀h' tk,(∀b o,s.heap.get? b=some o→h'.get? b=some o)→Q d { s with heap:=h',toks:=tk })
 (h1':∀i v h' tk,(intItems xs)[i]?=some v→i<xs.size→(∀i',i'<xs.size→numAt xs i≤numAt xs i')→(∀b o,s.heap.get? b=some o→h'.get? b=some o)→Q v { s with heap:=h',toks:=tk }):
 wpAny (model prog w) A (call (.builtin "min") [.ref l] [(Str.ofString "default",d)]) Q E s:=by
 have nm:(toString "min"++toString ".loop":String)="min.loop":=by decide
 have zs:(intItems xs).size=xs.size:=by simp[intItems]
 refine qBT PySem.F.kind_min PySem.F.plain_min PySem.F.entry_min (qGP _ _) ?_
 refine kB (m:=Builtin.Builtins.bindParams "min" ["key","default"] 0 ⟨[],[(Str.ofString "default",d)]⟩) (wpAny_of_eq (a:=[none,some d]) rfl ?_)
 refine kB (mB (kB (iter_intList hl λs2 e st hfp ne=>?_)))
 subst e
 refine kB (cD ?_ (mO _))
 rw[nm]
 refine mB ⟨rV gA _,?_⟩
 have W:=Walks.list (prog:=prog) (w:=w) (A:=A.in1) hh s.heap.objs.size l ne (intItems xs)
 have gB:=mI (o:={ cls:=.type "list",data:=.seq #[] }) (s.heap.push { cls:=.type "list_iterator",data:=.fields #[.ref l,.int 0 0] }) rfl
 have nB:(s.heap.push { cls:=.type "list_iterator",data:=.fields #[.ref l,.int 0 0] }).objs.size∉[s.heap.objs.size,l]:=λz=>dZ _ (hfp _ z)
 have old:∀{b:Addr} {o:Obj},s.heap.get? b=some o→b≠s.heap.objs.size∧b≠(s.heap.push { cls:=.type "list_iterator",data:=.fields #[.ref l,.int 0 0] }).objs.size:=fun {b o} e=>⟨mL (kX e),mL (kX (kC _ e))⟩
 refine wM dH (id ?_)
 rw[d7 gA _]
 show wpAny _ A.in1 (seqItems? (.ref (s.heap.push { cls:=.type "list_iterator",data:=.fields #[.ref l,.int 0 0] }).objs.size) >>= _) _ (λ_ _=>_) _
 refine kB (wV gB rfl ?_)
 show wpAny _ A.in1 (tryCatch (pyNext (.ref s.heap.objs.size)) _ >>= _) _ (λ_ _=>_) _
 refine kB (dJ ?_)
 have st0:=W.frame 0 _ (Heap.push (Heap.push s.heap { cls:=.type "list_iterator",data:=.fields #[.ref l,.int 0 0] }) ({ cls:=.type "list",data:=.seq #[] }:Obj)) st λb _ o e=>kC _ e
 have wB:(s.heap.push { cls:=.type "list_iterator",data:=.fields #[.ref l,.int 0 0] }).objs.size∉[s.heap.objs.size]:=λz=>nB (W.sub _ z)
 by_cases z:xs.size=0
 ·refine W.done _ _ _ (by rw[zs,z];exact st0) λh1 t1 kp=>?_
  exact kB (wpAny_rule (mB (h0 z h1 t1 λb o e=>kp b o (by simpa using(old e).1) (kC _ (kC _ e)))))
 ·refine W.item 0 _ _ _ (by rw[zs];omega) st0 λv1 h1 t1 p1 st1 kp=>?_
  have gB1:=kp (s.heap.push { cls:=.type "list_iterator",data:=.fields #[.ref l,.int 0 0] }).objs.size _ wB gB
  show wpAny _ A.in1 (updateSeq (s.heap.push { cls:=.type "list_iterator",data:=.fields #[.ref l,.int 0 0] }).objs.size (λ_=>#[v1,v1]) >>= _) _ (λ_ _=>_) _
  refine kB (wN gB1 rfl ?_)
  rw[nm]
  refine mB ⟨rV gA _,qEW (numAt xs) (λ_ _=>intItems_at) W nB (xs.size-1) 1 0 _ v1 _ (by rw[zs];omega) (W.frame _ _ _ st1 λb hb o e=>(kY _ _ λy:(s.heap.push { cls:=.type "list_iterator",data:=.fields #[.ref l,.int 0 0] }).objs.size=b=>nB (by rw[y];exact hb)).trans e) p1 (by omega) (λi hi=>?_) (dS _ gB1 rfl) λi v h2 t2 a1 a2 a3 a4=>?_⟩
  ·rw[show i=0 by omega]
   exact gJ _
  ·rw[zs]at a2 a3
   exact h1' i v h2 t2 a1 a2 a3 λb o e=>a4 b o (by simpa using(old e).1) (old e).2 ((kY _ _ (old e).2.symm).trans (kp b o (by simpa using(old e).1) (kC _ (kC _ e))))
end
noncomputable def qKJ(K:PySem.W.Frag)(d:Int)(ta:TA):TE:=λσ H Q=>ta σ H λvs H1=>∃(p:Addr) (ns:List Int),vs=[.ref p]∧SqL K H1 p (ns.map V.int)∧(ns=[]→Q (.int d) H1)∧∀M,M∈ns→(∀a∈ns,M≤a)→Q (.int M) H1
theorem qGQ{X:Cx}{e c:Expr}{ta:TA}{p kp pos:Pos}{d:Int}(hc:X.calm=true)(hg:Gl X "min")(hm:X.mg "min"=none)(hd:PE X c (tC (.int d)))(ha:PA X [e] ta)(he:starEach [e] X.env=[(false,eval e X.env)]:=by rfl)(hse:starEach ([]:List Expr) X.env=[]:=by rfl):
 PE X (.Call (.Name "min" p) [e] [⟨some "default",c,kp⟩] pos) (qKJ X.K d ta):=by
 intro pins s σ H Q I h
 refine dC (q1B I hg hm (u:=.builtin "min") (by kernel_rfl) ?_ (by decide) (by decide))
 refine callWith_kw (thn (ha pos pins s σ H _ I h) λus s1 ⟨vs,H1,I1,r1,q1⟩=>?_) (by rw[he,hse];rfl) (by rw[he];rfl)
 have pk:PK X [⟨some "default",c,kp⟩] (q8U (tC (.int d)) tNil):=q7L hd qA9
 refine thn (pk pos pins s1 σ H1 (λxs H2=>xs=[.int d]∧H2=H1) I1 ⟨rfl,rfl⟩) λws s2 hZ=>?_
 obtain⟨xs,H2,I2,r2,ex,eH⟩:=hZ
 subst ex eH
 obtain⟨w,rfl,td,rfl⟩:=q15 r2
 obtain⟨l,ns,ev,hq,h0,h1⟩:=q1
 subst ev
 obtain⟨u,rfl,ru⟩:=q15 r1
 obtain rfl:u=Value.ref l:=ru
 obtain⟨its,rv,pl,hz⟩:=I2.list hq
 have hi:=q3S rv
 obtain⟨xs,e⟩:=hi.allInts.items
 have hns:ns=xs.toList.map (·.1):=by
  rw[←hi.numsOf,←nums_intItems,←e]
 have hl:=pl.isList
 rw[e]at hl
 show wpAny (model X.prog X.w) X.A (call (.builtin "min") [.ref l] [(Str.ofString "default",.int d td)]) _ _ _
 refine qEX (I2.ok.hd hc) hl (λz h' tk kp=>⟨.int d,_,I2.kept kp,⟨_,rfl⟩,h0 ?_⟩) (λi v h' tk hv hi le kp=>?_)
 ·rw[hns,Array.eq_empty_of_size_eq_zero z]
  rfl
 ·obtain⟨t,rfl⟩:=intItems_at hv
  refine⟨.int _,_,I2.kept kp,⟨t,rfl⟩,h1 _ ?_ λa ha=>?_⟩
  ·rw[hns,numAt_eq]
   exact getD_mem (by rw[h9,mQ];omega)
  ·rw[hns]at ha
   obtain⟨j,hj,rfl⟩:=mem_getD ha
   rw[h9,mQ]at hj
   rw[←numAt_eq]
   exact le j hj
end L2
namespace L2
open PySem PySem.W PySem.Spec PyProof.Rows
theorem qGR(a d:Value):argsOk "min" ⟨[a],[(Str.ofString "key",d)]⟩:=by
 unfold argsOk
 kernel_rfl
noncomputable def KeyI(K:PySem.W.Frag)(kf:Nat→List Int)(H:Hp)(zs:List V):Prop:=∀j z,zs[j]?=some z→TupI K H z (kf j)
section
variable{X:Cx}{pins:List (Addr×Obj)}{σ:St}
theorem qGS{A:Around}{H:Hp}{s:Shared}{z1 z2:V}{u1 u2:Value}{k1 k2:List Int}{Q:Value→Shared→Prop}{E:Value→Shared→Prop}(I:Inv X pins σ H s)(hu:A.units+1<cLine)(t1:TupI X.K H z1 k1)(t2:TupI X.K H z2 k2)(r1:RelV z1 u1)(r2:RelV z2 u2)(c:Q (.bool (lx k1 k2)) s):wpAny (model X.prog X.w) A (richCompare .Lt u1 u2) Q E s:=by
 have p1:=q3V I (.cons r1 .nil) (.cons t1 .nil)
 have p2:=q3V I (.cons r2 .nil) (.cons t2 .nil)
 obtain⟨k1',g1,a1,us1,rfl,q1,i1⟩:=Paired.at (i:=0) p1 rfl
 obtain⟨k2',g2,a2,us2,rfl,q2,i2⟩:=Paired.at (i:=0) p2 rfl
 cases g1
 cases g2
 rw[←q9H]at c
 exact HT.lt_tupInts (items:=us1.toArray) (items2:=us2.toArray) q1 q2 (by simpa using i1) (by simpa using i2) (Nat.lt_of_succ_lt hu) c
theorem qGT{R:Result→Shared→Prop}{l f I S:Addr}{us:List V}{kf:Nat→List Int}(hc:X.A.handled=none)(hu:X.A.units+64<cLine)(Pv:Nat→List V→Hp→Prop)
 (hq:∀i zs H',Pv i zs H'→SqL X.K H' l us∧zs.length=i∧KeyI X.K kf H' zs) (nl:l≠I) (nS:S≠I) (nlS:l≠S)
 (hI:∀H',H' I=none→FpOk X pins H' I) (hS:∀H',H' S=none→FpOk X pins H' S)
 (hs:∀i x zs H' pins' s' u,us[i]?=some x→RelV x u→Pv i zs H'→Inv { X with A:=X.A.in1,xe:=λ_ _=>False } pins' σ H' s'→wpAny (model X.prog X.w) X.A.in1 (call (.ref f) [u]) (EP { X with A:=X.A.in1,xe:=λ_ _=>False } pins' σ (λz H''=>Pv (i+1) (zs++[z]) H'')) (λ_ _=>False) s')
 (hR:∀i v zs H' s',i<us.length→RelV (us.getD i .non) v→(∀j,j<us.length→lx (kf j) (kf i)=false)→Pv us.length zs H'→Inv X pins σ H' s'→R (.ok (.ret v)) s'):
 ∀(r j i:Nat) (s:Shared) (H:Hp) (zs:List V) (vb kb:Value) (c:Nat),j+r=us.length→i<j→Inv X pins σ H s→Pv j zs H→H I=none→H S=none→s.heap.IsListIter I l j→s.heap.get? S=some (seqObj "list" #[vb,kb] c)→RelV (us.getD i .non) vb→RelV (zs.getD i .non) kb→(∀j',j'<j→lx (kf j') (kf i)=false)→
  codeAny (model X.prog X.w) X.A (.builtin "min.loop" ⟨[.ref I,.ref f,.ref S],[]⟩) R s:=by
 have nm:(toString "min"++toString ".loop":String)="min.loop":=by decide
 intro r
 induction r with
 |zero=>
  intro j i s H zs vb kb c ej ij J pv n1 n2 it gS rb rk best
  obtain rfl:j=us.length:=ej
  obtain⟨sq,lz,ky⟩:=hq _ _ _ pv
  obtain⟨its,rv,pl,hz⟩:=J.list sq
  have hlen:=rv.length
  have W:=Walks.list (prog:=X.prog) (w:=X.w) (A:=X.A.in1) hc I l nl its.toArray
  refine wM dH (id ?_)
  rw[d7 gA _]
  show wpAny _ X.A.in1 (seqItems? (.ref S) >>= _) _ (λ_ _=>_) _
  refine kB (wV gS rfl ?_)
  show wpAny _ X.A.in1 (tryCatch (pyNext (.ref I)) _ >>= _) _ (λ_ _=>_) _
  refine kB (dJ (W.done s _ _ ⟨by rw[mC,←hlen];exact it,pl.isList⟩ λh1 t1 kp=>?_))
  have J1:Inv X pins σ H { s with heap:=h1,toks:=t1 }:=J.turnedN (fp:=[I]) kp (λb hb=>by rw[hV.mp hb];exact hI _ n1)
  have gS1:=kp S _ (λz=>nS (hV.mp z)) gS
  show wpAny _ X.A.in1 (updateSeq S (λ_=>#[]) >>= _) _ (λ_ _=>_) _
  refine kB (wN gS1 rfl (kB (wC (mB ?_))))
  exact hR i vb zs H _ ij rb best pv (J1.turnedN (fp:=[S]) (λb o hb e=>(kY _ _ (λz=>hb (hV.mpr z.symm))).trans e) (λb hb=>by rw[hV.mp hb];exact hS _ n2))
 |succ r ih=>
  intro j i s H zs vb kb c ej ij J pv n1 n2 it gS rb rk best
  have lt:j<us.length:=by omega
  obtain⟨sq,lz,ky⟩:=hq _ _ _ pv
  obtain⟨its,rv,pl,hz⟩:=J.list sq
  have hlen:=rv.length
  have W:=Walks.list (prog:=X.prog) (w:=X.w) (A:=X.A.in1) hc I l nl its.toArray
  refine wM dH (id ?_)
  rw[d7 gA _]
  show wpAny _ X.A.in1 (seqItems? (.ref S) >>= _) _ (λ_ _=>_) _
  refine kB (wV gS rfl ?_)
  show wpAny _ X.A.in1 (tryCatch (pyNext (.ref I)) _ >>= _) _ (λ_ _=>_) _
  refine kB (dJ (W.item j s _ _ (by rw[mC];omega) ⟨it,pl.isList⟩ λv h1 t1 pv1 st1 kp=>?_))
  have hv:its[j]?=some v:=by simpa using pv1
  obtain⟨x,ex,rx⟩:=rv.atN (j:=j) (by omega)
  obtain rfl:its[j]=v:=(kE.mp hv).2
  have J1:Inv X pins σ H { s with heap:=h1,toks:=t1 }:=J.turnedN (fp:=[I]) kp (λb hb=>by rw[hV.mp hb];exact hI _ n1)
  have gS1:=kp S _ (λz=>nS (hV.mp z)) gS
  obtain⟨oI,gI,hoc,hod⟩:=id st1.1
  have J2:=(J1.near (A':=X.A.in1) rfl rfl λ_ _=>False).pinned (fp:=[I,S]) (λb hb'=>by
   simp only[kL,gY,cC]at hb'
   rcases hb' with rfl|rfl
   ·exact hI _ n1
   ·exact hS _ n2) (λb hb'=>by
   simp only[kL,gY,cC]at hb'
   rcases hb' with rfl|rfl
   ·exact⟨_,gI,λv z=>by rw[hod]at z;cases z⟩
   ·exact⟨_,gS1,λv z=>by cases z⟩)
  show wpAny _ X.A.in1 (tryCatch (holding [its[j]] (call (.ref f) [its[j]])) _ >>= _) _ (λ_ _=>_) _
  refine kB (dJ (gK (dB (hs j x zs H _ _ _ ex rx pv J2) (λu s2 hq2=>?_) λ_ _ z=>z.elim)))
  obtain⟨z,H2,J3,ru,pv2⟩:=hq2
  have pI:=J3.pin (I,oI) (kN _ (kN _ (jT (by simp) gI)))
  have pS:=J3.pin (S,seqObj "list" #[vb,kb] c) (kN _ (kN _ (jT (by simp) gS1)))
  have J4:Inv X pins σ H2 s2:=(J3.unpinned).near (A':=X.A) rfl rfl X.xe
  obtain⟨sq2,lz2,ky2⟩:=hq _ _ _ pv2
  have kz:TupI X.K H2 z (kf j):=ky2 j z (by rw[gP (by omega),lz,Nat.sub_self];rfl)
  have gi:zs[i]?=some (zs.getD i .non):=by rw[kJ,hU (by omega)];rfl
  have ki:TupI X.K H2 (zs.getD i .non) (kf i):=ky2 i _ (by rw[rN (by omega)];exact gi)
  have it2:s2.heap.IsListIter I l (j+1):=⟨oI,pI.1,hoc,hod⟩
  show wpAny _ X.A.in1 (tryCatch (holding [its[j],u] (richCompare .Lt u kb >>= _)) _ >>= _) _ (λ_ _=>_) _
  refine kB (dJ (gK (kB (qGS J4 (by show X.A.units+1+1<cLine;omega) kz ki ru rk ?_))))
  refine kB (gK (gQ (kB (wC (mB ?_)))))
  cases e:lx (kf j) (kf i)with
  |true=>
   simp only[if_true]
   refine kB (wN pS.1 rfl (kB (wC ?_)))
   rw[nm]
   obtain⟨c2,g2⟩:∃c2,(s2.heap.update S (Obj.mapSeq λ_=>#[its[j],u])).get? S=some (seqObj "list" #[its[j],u] c2):=⟨_,wK pS.1 λ_=>#[its[j],u]⟩
   have J5:Inv X pins σ H2 { s2 with heap:=s2.heap.update S (Obj.mapSeq λ_=>#[its[j],u]),toks:=s2.toks }:=
    J4.turnedN (fp:=[S]) (λb o hb e=>(kY _ _ (λz=>hb (hV.mpr z.symm))).trans e) (λb hb=>by rw[hV.mp hb];exact hS _ pS.2.1)
   refine mB ⟨rV gA _,ih (j+1) j _ H2 _ _ u c2 (by omega) (by omega) J5 pv2 pI.2.1 pS.2.1 ⟨oI,(kY _ _ nS).trans pI.1,hoc,hod⟩ g2 ?_ ?_ λj' hj'=>?_⟩
   ·rw[kJ,ex];exact rx
   ·rw[kJ,gP (by omega),lz,Nat.sub_self];exact ru
   ·by_cases y:j'=j
    ·rw[y];exact q31 _
    ·cases g:lx (kf j') (kf j)with
     |false=>rfl
     |true=>
      have:=q0B _ _ _ g e
      rw[best j' (by omega)]at this
      cases this
  |false=>
   simp only[cI,sQ]
   refine kB (wC ?_)
   rw[nm]
   refine mB ⟨rV gA _,ih (j+1) i _ H2 _ vb kb c (by omega) (by omega) J4 pv2 pI.2.1 pS.2.1 it2 pS.1 rb ?_ λj' hj'=>?_⟩
   ·rw[kJ,rN (by omega),gi];exact rk
   ·by_cases y:j'=j
    ·rw[y];exact e
    ·exact best j' (by omega)
end
noncomputable def tML(P:Program)(w:World)(K:PySem.W.Frag)(mg:Str→Option Value)(base:Heap)(cells:List (Str×Addr))(ix:List (Nat×Str))(k:Nat)(x:Str)(tl:TE)(ta:TA):TE:=λσ H Q=>ta σ H λvs H1=>tl σ H1 λfv H2=>∃(f:Addr) (fd:FuncData) (sp:Heap→Sp),fv=.ref f∧
 (∀base',(∀b o,base.get? b=some o→base'.get? b=some o)→q1L cells σ base' ix→FnOk P w K mg base' CX0 k f fd [x] (sp base'))∧jS K fd [x] []∧
 ∃(l:Addr) (us:List V) (kf:Nat→List Int) (Pv:Nat→List V→Hp→Prop),vs=[.ref l]∧0<us.length∧Pv 0 [] H2∧(∀i zs H',Pv i zs H'→SqL K H' l us∧zs.length=i∧KeyI K kf H' zs)∧(∀base' i x zs H',q1L cells σ base' ix→us[i]?=some x→Pv i zs H'→sp base' [x] H' (λz H''=>Pv (i+1) (zs++[z]) H'') E0)∧
 ∀i zs H',i<us.length→(∀j,j<us.length→lx (kf j) (kf i)=false)→Pv us.length zs H'→Q (us.getD i .non) H'
theorem qGU{X:Cx}{k:Nat}{x:Str}{e le:Expr}{tl:TE}{ta:TA}{p kp pos:Pos}(ix:List (Nat×Str))(hix:∀p∈ix,X.N[p.1]?=some p.2∧X.env.scope.names.lookup p.2=some .cell∧X.fn p.2=true)(hc:X.calm=true)(hu:X.A.units+64<cLine)(hr:Room (k+1) X.A)(hg:Gl X "min")(hm:X.mg "min"=none)(hl:PE X le tl)(ha:PA X [e] ta)
 (he:starEach [e] X.env=[(false,eval e X.env)]:=by rfl) (hse:starEach ([]:List Expr) X.env=[]:=by rfl):
 PE X (.Call (.Name "min" p) [e] [⟨some "key",le,kp⟩] pos) (tML X.prog X.w X.K X.mg X.base X.env.cells ix k x tl ta):=by
 intro pins s σ H Q I h
 have nm:(toString "min"++toString ".loop":String)="min.loop":=by decide
 refine dC (q1B I hg hm (u:=.builtin "min") (by kernel_rfl) ?_ (by decide) (by decide))
 refine callWith_kw (thn (ha pos pins s σ H _ I h) λus s1 ⟨vs,H1,I1,r1,q1⟩=>?_) (by rw[he,hse];rfl) (by rw[he];rfl)
 have pk:PK X [⟨some "key",le,kp⟩] (q8U tl tNil):=q7L hl qA9
 refine thn (pk pos pins s1 σ H1 (oneQ _) I1 q1) λws s2 hZ=>?_
 obtain⟨xs,H2,I2,r2,q2⟩:=hZ
 obtain⟨v,rfl,f,fd,sp,rfl,F,hb,q2⟩:=qBJ q2
 obtain⟨w,rfl,rw⟩:=q15 r2
 obtain rfl:w=Value.ref f:=rw
 obtain⟨l,us',kf,Pv,ev,hn,p0,hq,hs,hd⟩:=q2
 subst ev
 obtain⟨u,rfl,ru⟩:=q15 r1
 obtain rfl:u=Value.ref l:=ru
 obtain⟨sq,_,_⟩:=hq _ _ _ p0
 obtain⟨its,rv,pl,hz⟩:=I2.list sq
 have hlen:=rv.length
 have hd0:=I2.ok.hd hc
 have hlt:l<s2.heap.objs.size:=by obtain⟨_,e,_⟩:=pl.isList;exact kX e
 show wpAny (model X.prog X.w) X.A (call (.builtin "min") [.ref l] [(Str.ofString "key",.ref f)]) _ _ _
 refine qBT PySem.F.kind_min PySem.F.plain_min PySem.F.entry_min (qGR _ _) ?_
 refine kB (m:=Builtin.Builtins.bindParams "min" ["key","default"] 0 ⟨[],[(Str.ofString "key",.ref f)]⟩) (wpAny_of_eq (a:=[some (.ref f),none]) rfl ?_)
 refine kB (mB (kB (wpAny_pyIter_list pl.isList ?_)))
 refine kB (cD ?_ (mO _))
 rw[nm]
 refine mB ⟨rV gA _,?_⟩
 have hS:(s2.heap.push { cls:=.type "list_iterator",data:=.fields #[.ref l,.int 0 0] }).objs.size=s2.heap.objs.size+1:=size_push' ..
 have gS:=mI (o:=seqObj "list" #[] 0) (s2.heap.push { cls:=.type "list_iterator",data:=.fields #[.ref l,.int 0 0] }) rfl
 have gI:((s2.heap.push { cls:=.type "list_iterator",data:=.fields #[.ref l,.int 0 0] }).push (seqObj "list" #[] 0)).get? s2.heap.objs.size=some { cls:=.type "list_iterator",data:=.fields #[.ref l,.int 0 0] }:=kC _ (mI _ rfl)
 have I3:Inv X pins σ H2 { s2 with heap:=(s2.heap.push { cls:=.type "list_iterator",data:=.fields #[.ref l,.int 0 0] }).push (seqObj "list" #[] 0),toks:=s2.toks }:=
  I2.kept (t':=s2.toks) λb o e=>kC _ (kC _ e)
 obtain⟨S,eS⟩:∃S:Addr,S=(s2.heap.push { cls:=.type "list_iterator",data:=.fields #[.ref l,.int 0 0] }).objs.size:=⟨_,rfl⟩
 obtain⟨J,eJ⟩:∃J:Addr,J=s2.heap.objs.size:=⟨_,rfl⟩
 have fJ:FpOk X pins H2 J:=by rw[eJ];exact I2.fpOk (kM _) (I2.hok.fresh (kM _))
 have fS:FpOk X pins H2 S:=by rw[eS,hS];exact I2.fpOk (dE _) (I2.hok.fresh (dE _))
 have hJ:∀H',H' J=none→FpOk X pins H' J:=λH' e=>⟨e,fJ.2⟩
 have hS':∀H',H' S=none→FpOk X pins H' S:=λH' e=>⟨e,fS.2⟩
 have nl:l≠J:=by rw[eJ];exact mL hlt
 have nSJ:S≠J:=by rw[eS,eJ,hS];exact rG (dU _)
 have nlS:l≠S:=by rw[eS,hS];exact mL (g8 hlt)
 have hc':X.A.handled=none:=hd0
 rw[←eS]at gS
 show codeAny (model X.prog X.w) X.A (.builtin "min.loop" ⟨[.ref s2.heap.objs.size,.ref f,.ref (s2.heap.push { cls:=.type "list_iterator",data:=.fields #[.ref l,.int 0 0] }).objs.size],[]⟩) _ _
 rw[←eS,←eJ]
 rw[←eJ]at gI
 clear hS eS eJ
 obtain⟨h3,eh⟩:∃h3,h3=(s2.heap.push { cls:=.type "list_iterator",data:=.fields #[.ref l,.int 0 0] }).push (seqObj "list" #[] 0):=⟨_,rfl⟩
 rw[←eh]at gS gI I3
 show codeAny _ _ _ _ { s2 with heap:=(s2.heap.push { cls:=.type "list_iterator",data:=.fields #[.ref l,.int 0 0] }).push (seqObj "list" #[] 0) }
 rw[←eh]
 clear eh
 obtain⟨its,rv,pl,hz⟩:=I3.list sq
 have hlen:=rv.length
 have W:=Walks.list (prog:=X.prog) (w:=X.w) (A:=X.A.in1) hc' J l nl its.toArray
 refine wM dH (id ?_)
 rw[d7 gA _]
 show wpAny _ X.A.in1 (seqItems? (.ref S) >>= _) _ (λ_ _=>_) _
 refine kB (wV gS rfl ?_)
 show wpAny _ X.A.in1 (tryCatch (pyNext (.ref J)) _ >>= _) _ (λ_ _=>_) _
 refine kB (dJ (W.item 0 _ _ _ (by rw[mC];omega) ⟨⟨_,gI,rfl,rfl⟩,pl.isList⟩ λv h1 t1 pv1 st1 kp=>?_))
 have hv:its[0]?=some v:=by simpa using pv1
 obtain⟨x0,ex,rx⟩:=rv.atN (j:=0) (by omega)
 obtain rfl:its[0]=v:=(kE.mp hv).2
 have J1:Inv X pins σ H2 { s2 with heap:=h1,toks:=t1 }:=Inv.turnedN (s:={ s2 with heap:=h3 }) (fp:=[J]) I3 kp (λb hb=>by rw[hV.mp hb];exact fJ)
 have gS1:=kp S _ (λz=>nSJ (hV.mp z)) gS
 obtain⟨oI,gI1,hoc,hod⟩:=id st1.1
 have J2:=(J1.near (A':=X.A.in1) rfl rfl λ_ _=>False).pinned (fp:=[J,S]) (λb hb'=>by
  simp only[kL,gY,cC]at hb'
  rcases hb' with rfl|rfl
  ·exact fJ
  ·exact fS) (λb hb'=>by
  simp only[kL,gY,cC]at hb'
  rcases hb' with rfl|rfl
  ·exact⟨_,gI1,λv z=>by rw[hod]at z;cases z⟩
  ·exact⟨_,gS1,λv z=>by cases z⟩)
 have hs':∀i x zs H' pins' s' u,us'[i]?=some x→RelV x u→Pv i zs H'→Inv { X with A:=X.A.in1,xe:=λ_ _=>False } pins' σ H' s'→wpAny (model X.prog X.w) X.A.in1 (call (.ref f) [u]) (EP { X with A:=X.A.in1,xe:=λ_ _=>False } pins' σ (λz H''=>Pv (i+1) (zs++[z]) H'')) (λ_ _=>False) s':=
  λi x zs H' pins' s' u hx rx pv I'=>qBI (X:={ X with A:=X.A.in1,xe:=λ_ _=>False }) (dvs:=[]) (ds:=[]) (E:=E0) ix hix F hr.in1 hb .nil qK I' (.cons rx .nil) (λbase' up cv=>hs base' i x zs H' cv hx pv)
 show wpAny _ X.A.in1 (tryCatch (holding [its[0]] (call (.ref f) [its[0]])) _ >>= _) _ (λ_ _=>_) _
 refine kB (dJ (gK (dB (hs' 0 x0 [] H2 _ _ _ ex rx p0 J2) (λu s3 hq2=>?_) λ_ _ z=>z.elim)))
 obtain⟨z,H3,J3,ru,pv2⟩:=hq2
 have pI:=J3.pin (J,oI) (kN _ (kN _ (jT (by simp) gI1)))
 have pS:=J3.pin (S,seqObj "list" #[] 0) (kN _ (kN _ (jT (by simp) gS1)))
 have J4:Inv X pins σ H3 s3:=(J3.unpinned).near (A':=X.A) rfl rfl X.xe
 show wpAny _ X.A.in1 (updateSeq S (λ_=>#[its[0],u]) >>= _) _ (λ_ _=>_) _
 refine kB (wN pS.1 rfl ?_)
 rw[nm]
 obtain⟨c2,g2⟩:∃c2,(s3.heap.update S (Obj.mapSeq λ_=>#[its[0],u])).get? S=some (seqObj "list" #[its[0],u] c2):=⟨_,wK pS.1 λ_=>#[its[0],u]⟩
 have J5:Inv X pins σ H3 { s3 with heap:=s3.heap.update S (Obj.mapSeq λ_=>#[its[0],u]),toks:=s3.toks }:=
  J4.turnedN (fp:=[S]) (λb o hb e=>(kY _ _ (λz=>hb (hV.mpr z.symm))).trans e) (λb hb=>by rw[hV.mp hb];exact hS' _ pS.2.1)
 refine mB ⟨rV gA _,qGT hc' hu Pv hq nl nSJ nlS hJ hS' hs' (λi v zs H' s' a1 a2 a3 a4 a5=>?_) (us'.length-1) 1 0 _ H3 _ its[0] u c2 (by omega) (by omega) J5 pv2 pI.2.1 pS.2.1 ⟨oI,(kY _ _ nSJ).trans pI.1,hoc,hod⟩ g2 ?_ ?_ λj' hj'=>?_⟩
 ·exact⟨_,H',a5,a2,hd i zs H' a1 a3 a4⟩
 ·rw[kJ,ex];exact rx
 ·exact ru
 ·obtain rfl:j'=0:=by omega
  exact q31 _
end L2
namespace L2
open PySem
theorem iV{σ:St}{i:Nat}{v:V}{Q:V→Prop}(e:σ[i]?=some (some v))(q:Q v):∃v,σ[i]?=some (some v)∧Q v:=⟨v,e,q⟩
theorem iF{K:PySem.W.Frag}{H:Hp}{f:Str}{a C d:Addr}{fs:List (Str×V)}{v:V}{Q:V→Prop}(o:H a=some (.ins C d fs))(cl:Cls K C)(na:qO K C f)(lk:fs.lookup f=some v)(q:Q v):
 ∃a' C dx fs v,V.ref a=.ref a'∧H a'=some (.ins C dx fs)∧Cls K C∧qO K C f∧fs.lookup f=some v∧Q v:=⟨a,C,d,fs,v,rfl,o,cl,na,lk,q⟩
theorem iM{H:Hp}{m:Str}{a C d:Addr}{fs:List (Str×V)}{q:Prop}(o:H a=some (.ins C d fs))(lk:fs.lookup m=none)(k:q):
 ∃a' dx fs,V.ref a=.ref a'∧H a'=some (.ins C dx fs)∧fs.lookup m=none∧q:=⟨a,d,fs,rfl,o,lk,k⟩
theorem iI{i j:Int}{Q:Int→Int→Prop}(q:Q i j):∃i' j',V.int i=.int i'∧V.int j=.int j'∧Q i' j':=⟨i,j,rfl,rfl,q⟩
theorem iL{K:PySem.W.Frag}{H:Hp}{p:Addr}{xs:List V}{k:Int}{v:V}{Q:V→Prop}(h:SqL K H p xs)(e:atI xs k=some v)(q:Q v):∃p' xs k' v,V.ref p=.ref p'∧V.int k=.int k'∧SqL K H p' xs∧atI xs k'=some v∧Q v:=⟨p,xs,k,v,rfl,rfl,h,e,q⟩
theorem iT{K:PySem.W.Frag}{H:Hp}{p:Addr}{xs:List V}{k:Int}{v:V}{Q:V→Prop}(h:SqT K H p xs)(e:atI xs k=some v)(q:Q v):∃p' xs k' v,V.ref p=.ref p'∧V.int k=.int k'∧SqT K H p' xs∧atI xs k'=some v∧Q v:=⟨p,xs,k,v,rfl,rfl,h,e,q⟩
end L2
namespace L2
open PySem PySem.Spec PyProof.Rows
structure Fn1(K:PySem.W.Frag)(x q:Str)(st:Stmt)(f:Addr)(ps:List Str) where
 fd:FuncData
 F:FunD K x q st .none f fd
 b:jS K fd ps []
noncomputable abbrev Fn1.Ok0{K:PySem.W.Frag}{x q:Str}{st:Stmt}{f:Addr}{ps:List Str}(F:Fn1 K x q st f ps)(P:Program)(w:World)(mg:Str→Option Value)(base:Heap)(k:Nat)(sp:Sp):Prop:=FnOk P w K mg base CX0 k f F.fd ps sp
noncomputable abbrev Fn1.OkE{K:PySem.W.Frag}{x q:Str}{st:Stmt}{f:Addr}{ps:List Str}(F:Fn1 K x q st f ps)(P:Program)(w:World)(mg:Str→Option Value)(base:Heap)(k:Nat)(sp:Sp):Prop:=FnOk P w K mg base (CXe P w) k f F.fd ps sp
noncomputable abbrev FnX(K:PySem.W.Frag)(x q:Str)(st:Stmt)(f:Addr):Prop:=∃fd,FunD K x q st .none f fd
section
variable{K:PySem.W.Frag}{x q:Str}{st:Stmt}{f:Addr}{ps:List Str}
noncomputable def BnX(x q:Str)(st:Stmt)(ps:List Str):Prop:=∀(kV doc pm:Value) (an:Option Addr) (cdv ct:Value) (us:List Value),us.length=ps.length→bindArgs (PySem.W.fnOf x q (yB st) (jP st) (qF st) .none kV doc pm an cdv ct) ⟨us,[]⟩=pure (ps.zip us)
theorem fn1b(h:BnX x q st ps){fd:FuncData}(F:FunD K x q st .none f fd):jS K fd ps []:=by
 obtain⟨oc,od,kV,doc,pm,an,cdv,ct,osl,rfl,lk,hcd⟩:=F.ex
 exact jS.all λus hl=>h kV doc pm an cdv ct us hl
theorem lnx{us:List Value}{n:Nat}(h:us.length=n):us=(List.range n).map (us.getD · .none):=by
 subst h
 refine rH (by simp) λi h1 h2=>?_
 simp[hU h1]
theorem bnx(h:∀kV doc pm an cdv ct (g:Nat→Value),bindArgs (PySem.W.fnOf x q (yB st) (jP st) (qF st) .none kV doc pm an cdv ct) ⟨(List.range ps.length).map g,[]⟩=pure (ps.zip ((List.range ps.length).map g))):BnX x q st ps:=λkV doc pm an cdv ct us hl=>by
 rw[lnx hl]
 exact h ..
noncomputable def fn1 (l:FnX K x q st f) (h:∀kV doc pm an cdv ct (g:Nat→Value),bindArgs (PySem.W.fnOf x q (yB st) (jP st) (qF st) .none kV doc pm an cdv ct) ⟨(List.range ps.length).map g,[]⟩=pure (ps.zip ((List.range ps.length).map g)):=by intros;rfl):Fn1 K x q st f ps:=⟨l.choose,l.choose_spec,fn1b (bnx h) l.choose_spec⟩
theorem FnX.bind1{a:Str}{fd:FuncData}(h:∀kV doc pm an cdv ct u,bindArgs (PySem.W.fnOf x q (yB st) (jP st) (qF st) .none kV doc pm an cdv ct) ⟨[u],[]⟩=pure [(a,u)])(F:FunD K x q st .none f fd)(s:Shared)(v:Value):BindsTo s fd ⟨[v],[]⟩ [(a,v)]:=by
 obtain⟨oc,od,kV,doc,pm,an,cdv,ct,osl,rfl,lk,hcd⟩:=F.ex
 exact .of_eq (h kV doc pm an cdv ct v)
theorem FnX.of{oc:Value}{od an:Option Addr}{osl:Array (Option Value)}{kV doc pm cdv ct:Value}(l:K.lookup f=some ⟨oc,od,.func (PySem.W.fnOf x q (yB st) (jP st) (qF st) .none kV doc pm an cdv ct),osl⟩)(c:PySem.W.codeIn K cdv q=true):FnX K x q st f:=⟨_,FunD.mk' l c⟩
theorem qP{N P:List Str}{sc:Scope}(h:(sc.kind=.function∧sc.isCoroutine=false∧sc.isGenerator=false)∧N.Nodup∧N.take P.length=P∧(∀x∈P,sc.names.lookup x=some .local∨sc.names.lookup x=some .cell)∧∀y∈sc.names,y.2≠ .free):FnScope N P sc:=⟨h.1.1,h.1.2.1,h.1.2.2,h.2.1,h.2.2.1,h.2.2.2.1,h.2.2.2.2⟩
end
noncomputable abbrev GFn(K:PySem.W.Frag)(n:Str)(f:Addr):Prop:=PySem.W.nsIn K mainGlobals n=some (some (.ref f))∧PySem.W.keepIn K (.ref f)=true
theorem sz0:0≤sizeLine:=by decide
theorem sz1:1≤sizeLine:=by decide
theorem sz2:2≤sizeLine:=by decide
theorem sz3:3≤sizeLine:=by decide
theorem sz4:4≤sizeLine:=by decide
theorem sz5:5≤sizeLine:=by decide
end L2
namespace W1
open PySem L2
noncomputable def top(i:Nat):Stmt:=PySem.Challenge.pw_wornpages_k46_whole_who_with_whom.main.body.getD i (.Pass ⟨0,0,0,0⟩)
noncomputable abbrev q34:Stmt:=(top 15)
noncomputable abbrev q1O:Stmt:=(top 16)
noncomputable abbrev q35:Stmt:=(top 17)
noncomputable abbrev q36:Stmt:=(top 18)
noncomputable abbrev q4B:Stmt:=(top 22)
noncomputable abbrev q4C:Stmt:=(top 23)
noncomputable abbrev q1P:Stmt:=(qN (top 25) 0)
noncomputable abbrev q1Q:Stmt:=(qN (top 25) 1)
noncomputable abbrev q1R:Stmt:=(qN (top 25) 2)
noncomputable abbrev zS:Stmt:=(qN (top 25) 3)
noncomputable abbrev zA:Stmt:=(qN (top 25) 4)
noncomputable abbrev uU:Stmt:=(qN (top 25) 6)
noncomputable abbrev q1S:Stmt:=(qN (top 25) 7)
noncomputable abbrev q0T:Stmt:=(qN (top 27) 0)
noncomputable abbrev q0U:Stmt:=(qN (top 27) 1)
noncomputable abbrev jQ:Stmt:=(qN (top 27) 2)
noncomputable abbrev q0V:Stmt:=(qN (top 27) 3)
noncomputable abbrev q0W:Stmt:=(qN (top 27) 4)
noncomputable abbrev zT:Stmt:=(qN (top 27) 6)
noncomputable abbrev v9:Stmt:=(qN (top 27) 8)
noncomputable abbrev q1T:Stmt:=(qN (top 27) 9)
noncomputable abbrev zU:Stmt:=(qN (top 27) 10)
noncomputable abbrev vK:Stmt:=(qN (top 27) 11)
noncomputable abbrev q0X:Stmt:=(qN (top 27) 13)
noncomputable abbrev yY:Stmt:=(qN (top 27) 14)
noncomputable abbrev yZ:Stmt:=(qN (top 27) 15)
noncomputable abbrev q37:Stmt:=(top 29)
noncomputable abbrev q0Y:Stmt:=(qN (top 30) 0)
noncomputable abbrev vL:Stmt:=(qN (top 30) 2)
noncomputable abbrev zV:Stmt:=(qN (top 30) 3)
noncomputable abbrev zW:Stmt:=(qN (top 30) 4)
noncomputable abbrev uV:Stmt:=(qN (top 30) 5)
noncomputable abbrev yJ:Stmt:=(qN (top 30) 6)
noncomputable abbrev yK:Stmt:=(qN (top 30) 9)
noncomputable abbrev zX:Stmt:=(qN (top 30) 10)
noncomputable abbrev yN:Stmt:=(qN (top 30) 11)
noncomputable abbrev zY:Stmt:=(qN (top 30) 12)
noncomputable abbrev uW:Stmt:=(qN (top 30) 13)
noncomputable abbrev uX:Stmt:=(qN (top 30) 14)
noncomputable abbrev uG:Stmt:=(qN (top 30) 15)
noncomputable abbrev uH:Stmt:=(qN (top 30) 16)
noncomputable abbrev q0Z:Stmt:=(qN (top 32) 0)
noncomputable abbrev vA:Stmt:=(qN (top 32) 2)
noncomputable abbrev zB:Stmt:=(qN (top 32) 3)
noncomputable abbrev zZ:Stmt:=(qN (top 32) 4)
noncomputable abbrev qU:Stmt:=(qN (top 32) 5)
noncomputable abbrev q1U:Stmt:=(top 34)
noncomputable abbrev uM:Stmt:=(qN (top 35) 0)
noncomputable abbrev q38:Stmt:=(qN (top 35) 1)
noncomputable abbrev q1V:Stmt:=(qN (top 35) 2)
noncomputable abbrev q1W:Stmt:=(qN (top 35) 3)
noncomputable abbrev zC:Stmt:=(qN (top 35) 6)
noncomputable abbrev zD:Stmt:=(qN (top 35) 7)
noncomputable abbrev q00:Stmt:=(qN (top 35) 8)
noncomputable abbrev uY:Stmt:=(qN (top 35) 10)
noncomputable abbrev uI:Stmt:=(qN (top 35) 11)
noncomputable abbrev uJ:Stmt:=(qN (top 35) 12)
noncomputable abbrev uZ:Stmt:=(qN (top 35) 13)
noncomputable abbrev vM:Stmt:=(qN (top 35) 14)
noncomputable abbrev zE:Stmt:=(qN (top 35) 15)
noncomputable abbrev q01:Stmt:=(top 37)
noncomputable abbrev vB:Stmt:=(top 38)
noncomputable abbrev v3:Stmt:=(qN (top 39) 0)
noncomputable abbrev q02:Stmt:=(qN (top 39) 1)
noncomputable abbrev u6:Stmt:=(qN (top 40) 0)
noncomputable abbrev u7:Stmt:=(qN (top 41) 0)
noncomputable abbrev uK:Stmt:=(qN (top 42) 0)
noncomputable abbrev yW:Stmt:=(qN (top 44) 0)
noncomputable abbrev zF:Stmt:=(qN (top 44) 1)
noncomputable abbrev q03:Stmt:=(top 46)
noncomputable abbrev q1X:Stmt:=(top 47)
noncomputable abbrev q1Y:Stmt:=(top 48)
noncomputable abbrev q39:Stmt:=(top 49)
noncomputable abbrev q3A:Stmt:=(top 50)
noncomputable abbrev q04:Stmt:=(top 51)
noncomputable abbrev q10:Stmt:=(top 52)
noncomputable abbrev q3B:Stmt:=(top 53)
noncomputable abbrev qEY:Stmt:=(top 54)
set_option genInjectivity false in
structure Adr where
 (f_is_whole f_is_within f_is_shape f_is_value f_mark_of f_bits_of f_Book_init f_Book_mark f_Book_note f_Book_forget f_Book_emptied f_Book_live_pages f_Book_held f_Plain_init f_Plain_good f_Plain_free f_Plain_part f_Plain_spot f_Plain_ready f_Plain_set_down f_Plain_lay f_Plain_write f_Plain_give_up f_Plain_held f_Plain_check_sheet f_Plain_check_share f_paper_of f_Store_init f_Store_reserve f_Store_tally f_Store_space f_Store_full_ones f_Store_with_dead_page f_Store_choice_by_rule f_Store_moved f_Store_value_to_move f_Store_wiped f_Store_clear_out f_Store_make_room f_Store_make_ready f_Store_make_rooms f_Even_least f_Even_clearable f_Even_options f_Even_choice f_Even_block_to_change f_limits_of f_Chip_init f_Chip_put f_Chip_wipe f_Chip_read f_Chip_is_dark f_Chip_cleared f_Chip_failed f_Chip_check_page f_Chip_check_block f_Chip_check_power f_Chip_check_deed f_Chip_is_spent f_Chip_do_deed f_is_unbeaten f_first_unbeaten f_Rule_goes_ahead f_Rule_choose f_Fewest_goes_ahead f_Eldest_goes_ahead f_Worth_goes_ahead f_Terms_init f_Terms_closed f_law_cell_at f_law_shape f_law_names f_law_pick f_law_rule f_law_changed f_law_papers f_law_rows f_law C_Book C_Plain C_Even C_Chip C_Rule C_Fewest C_Eldest C_Worth C_Terms C_PowerGone C_NoRoom:Addr)
 tk_MOST_TOLD:Tok
 tk_ROLL:Tok
 tk_NAMES:Tok
 c_Plain_free:Addr
 T_Plain_free:Addr
 c_Even_block_to_change:Addr
 T_Even_block_to_change:Addr
structure Txt(K:W.Frag)(mg:Str→Option Value)(t:Adr):Prop where
 mg_Book:mg "Book"=some (.ref t.C_Book)
 cl_Book:Cls K t.C_Book
 na_Book_blocks:qO K t.C_Book "blocks"
 na_Book_pages:qO K t.C_Book "pages"
 na_Book_stamp:qO K t.C_Book "stamp"
 na_Book_where:qO K t.C_Book "where"
 na_Book_live:qO K t.C_Book "live"
 na_Book_filled:qO K t.C_Book "filled"
 na_Book_born:qO K t.C_Book "born"
 m_Book_mark:Meth K t.C_Book "mark" t.f_Book_mark
 m_Book_note:Meth K t.C_Book "note" t.f_Book_note
 m_Book_forget:Meth K t.C_Book "forget" t.f_Book_forget
 m_Book_emptied:Meth K t.C_Book "emptied" t.f_Book_emptied
 m_Book_live_pages:Meth K t.C_Book "live_pages" t.f_Book_live_pages
 m_Book_held:Meth K t.C_Book "held" t.f_Book_held
 mk_Book:Mk K t.C_Book t.f_Book_init
 mg_Plain:mg "Plain"=some (.ref t.C_Plain)
 mg_Even:mg "Even"=some (.ref t.C_Even)
 cl_Even:Cls K t.C_Even
 na_Even_chip:qO K t.C_Even "chip"
 na_Even_terms:qO K t.C_Even "terms"
 na_Even_book:qO K t.C_Even "book"
 na_Even_rule:qO K t.C_Even "rule"
 na_Even_papers:qO K t.C_Even "papers"
 m_Even_least:Meth K t.C_Even "least" t.f_Even_least
 m_Even_clearable:Meth K t.C_Even "clearable" t.f_Even_clearable
 m_Even_options:Meth K t.C_Even "options" t.f_Even_options
 m_Even_choice:Meth K t.C_Even "choice" t.f_Even_choice
 m_Even_block_to_change:Meth K t.C_Even "block_to_change" t.f_Even_block_to_change
 m_Even_reserve:Meth K t.C_Even "reserve" t.f_Store_reserve
 m_Even_tally:Meth K t.C_Even "tally" t.f_Store_tally
 m_Even_space:Meth K t.C_Even "space" t.f_Store_space
 m_Even_full_ones:Meth K t.C_Even "full_ones" t.f_Store_full_ones
 m_Even_with_dead_page:Meth K t.C_Even "with_dead_page" t.f_Store_with_dead_page
 m_Even_choice_by_rule:Meth K t.C_Even "choice_by_rule" t.f_Store_choice_by_rule
 m_Even_moved:Meth K t.C_Even "moved" t.f_Store_moved
 m_Even_value_to_move:Meth K t.C_Even "value_to_move" t.f_Store_value_to_move
 m_Even_wiped:Meth K t.C_Even "wiped" t.f_Store_wiped
 m_Even_clear_out:Meth K t.C_Even "clear_out" t.f_Store_clear_out
 m_Even_make_room:Meth K t.C_Even "make_room" t.f_Store_make_room
 m_Even_make_ready:Meth K t.C_Even "make_ready" t.f_Store_make_ready
 m_Even_make_rooms:Meth K t.C_Even "make_rooms" t.f_Store_make_rooms
 m_Even_good:Meth K t.C_Even "good" t.f_Plain_good
 m_Even_free:Meth K t.C_Even "free" t.f_Plain_free
 m_Even_part:Meth K t.C_Even "part" t.f_Plain_part
 m_Even_spot:Meth K t.C_Even "spot" t.f_Plain_spot
 m_Even_ready:Meth K t.C_Even "ready" t.f_Plain_ready
 m_Even_set_down:Meth K t.C_Even "set_down" t.f_Plain_set_down
 m_Even_lay:Meth K t.C_Even "lay" t.f_Plain_lay
 m_Even_write:Meth K t.C_Even "write" t.f_Plain_write
 m_Even_give_up:Meth K t.C_Even "give_up" t.f_Plain_give_up
 m_Even_held:Meth K t.C_Even "held" t.f_Plain_held
 m_Even_check_sheet:Meth K t.C_Even "check_sheet" t.f_Plain_check_sheet
 m_Even_check_share:Meth K t.C_Even "check_share" t.f_Plain_check_share
 mk_Even:Mk K t.C_Even t.f_Store_init
 mg_Chip:mg "Chip"=some (.ref t.C_Chip)
 cl_Chip:Cls K t.C_Chip
 na_Chip_blocks:qO K t.C_Chip "blocks"
 na_Chip_pages:qO K t.C_Chip "pages"
 na_Chip_most:qO K t.C_Chip "most"
 na_Chip_limits:qO K t.C_Chip "limits"
 na_Chip_borne:qO K t.C_Chip "borne"
 na_Chip_clearings:qO K t.C_Chip "clearings"
 na_Chip_deed_counts:qO K t.C_Chip "deed_counts"
 na_Chip_broken:qO K t.C_Chip "broken"
 na_Chip_deeds_left:qO K t.C_Chip "deeds_left"
 na_Chip_record:qO K t.C_Chip "record"
 m_Chip_put:Meth K t.C_Chip "put" t.f_Chip_put
 m_Chip_wipe:Meth K t.C_Chip "wipe" t.f_Chip_wipe
 m_Chip_read:Meth K t.C_Chip "read" t.f_Chip_read
 m_Chip_is_dark:Meth K t.C_Chip "is_dark" t.f_Chip_is_dark
 m_Chip_cleared:Meth K t.C_Chip "cleared" t.f_Chip_cleared
 m_Chip_failed:Meth K t.C_Chip "failed" t.f_Chip_failed
 m_Chip_check_page:Meth K t.C_Chip "check_page" t.f_Chip_check_page
 m_Chip_check_block:Meth K t.C_Chip "check_block" t.f_Chip_check_block
 m_Chip_check_power:Meth K t.C_Chip "check_power" t.f_Chip_check_power
 m_Chip_check_deed:Meth K t.C_Chip "check_deed" t.f_Chip_check_deed
 m_Chip_is_spent:Meth K t.C_Chip "is_spent" t.f_Chip_is_spent
 m_Chip_do_deed:Meth K t.C_Chip "do_deed" t.f_Chip_do_deed
 mk_Chip:Mk K t.C_Chip t.f_Chip_init
 mg_Rule:mg "Rule"=some (.ref t.C_Rule)
 cl_Rule:Cls K t.C_Rule
 m_Rule_goes_ahead:Meth K t.C_Rule "goes_ahead" t.f_Rule_goes_ahead
 m_Rule_choose:Meth K t.C_Rule "choose" t.f_Rule_choose
 mk0_Rule:Mk0 K t.C_Rule
 mg_Fewest:mg "Fewest"=some (.ref t.C_Fewest)
 cl_Fewest:Cls K t.C_Fewest
 m_Fewest_goes_ahead:Meth K t.C_Fewest "goes_ahead" t.f_Fewest_goes_ahead
 m_Fewest_choose:Meth K t.C_Fewest "choose" t.f_Rule_choose
 mk0_Fewest:Mk0 K t.C_Fewest
 mg_Eldest:mg "Eldest"=some (.ref t.C_Eldest)
 cl_Eldest:Cls K t.C_Eldest
 m_Eldest_goes_ahead:Meth K t.C_Eldest "goes_ahead" t.f_Eldest_goes_ahead
 m_Eldest_choose:Meth K t.C_Eldest "choose" t.f_Rule_choose
 mk0_Eldest:Mk0 K t.C_Eldest
 mg_Worth:mg "Worth"=some (.ref t.C_Worth)
 cl_Worth:Cls K t.C_Worth
 m_Worth_goes_ahead:Meth K t.C_Worth "goes_ahead" t.f_Worth_goes_ahead
 m_Worth_choose:Meth K t.C_Worth "choose" t.f_Rule_choose
 mk0_Worth:Mk0 K t.C_Worth
 mg_Terms:mg "Terms"=some (.ref t.C_Terms)
 cl_Terms:Cls K t.C_Terms
 na_Terms_blocks:qO K t.C_Terms "blocks"
 na_Terms_pages:qO K t.C_Terms "pages"
 na_Terms_sheets:qO K t.C_Terms "sheets"
 na_Terms_share:qO K t.C_Terms "share"
 na_Terms_ill:qO K t.C_Terms "ill"
 na_Terms_spread:qO K t.C_Terms "spread"
 m_Terms_closed:Meth K t.C_Terms "closed" t.f_Terms_closed
 mk_Terms:Mk K t.C_Terms t.f_Terms_init
 mg_PowerGone:mg "PowerGone"=some (.ref t.C_PowerGone)
 x_PowerGone:XCls K t.C_PowerGone
 mg_NoRoom:mg "NoRoom"=some (.ref t.C_NoRoom)
 x_NoRoom:XCls K t.C_NoRoom
 ci_Plain:ClM K t.C_Plain "__init__" t.f_Plain_init
 cd_Plain_free:W.codeHdIn K t.c_Plain_free t.T_Plain_free=true
 cd_Even_block_to_change:W.codeHdIn K t.c_Even_block_to_change t.T_Even_block_to_change=true
 tne_Plain_free:t.T_Plain_free≠t.T_Even_block_to_change
 mg_is_whole:mg "is_whole"=some (.ref t.f_is_whole)
 kp_is_whole:W.keepIn K (.ref t.f_is_whole)=true
 mg_is_within:mg "is_within"=some (.ref t.f_is_within)
 kp_is_within:W.keepIn K (.ref t.f_is_within)=true
 mg_is_shape:mg "is_shape"=some (.ref t.f_is_shape)
 kp_is_shape:W.keepIn K (.ref t.f_is_shape)=true
 mg_is_value:mg "is_value"=some (.ref t.f_is_value)
 kp_is_value:W.keepIn K (.ref t.f_is_value)=true
 mg_mark_of:mg "mark_of"=some (.ref t.f_mark_of)
 kp_mark_of:W.keepIn K (.ref t.f_mark_of)=true
 mg_bits_of:mg "bits_of"=some (.ref t.f_bits_of)
 kp_bits_of:W.keepIn K (.ref t.f_bits_of)=true
 mg_paper_of:mg "paper_of"=some (.ref t.f_paper_of)
 kp_paper_of:W.keepIn K (.ref t.f_paper_of)=true
 mg_limits_of:mg "limits_of"=some (.ref t.f_limits_of)
 kp_limits_of:W.keepIn K (.ref t.f_limits_of)=true
 mg_is_unbeaten:mg "is_unbeaten"=some (.ref t.f_is_unbeaten)
 kp_is_unbeaten:W.keepIn K (.ref t.f_is_unbeaten)=true
 mg_first_unbeaten:mg "first_unbeaten"=some (.ref t.f_first_unbeaten)
 kp_first_unbeaten:W.keepIn K (.ref t.f_first_unbeaten)=true
 mg_law_cell_at:mg "_law_cell_at"=some (.ref t.f_law_cell_at)
 kp_law_cell_at:W.keepIn K (.ref t.f_law_cell_at)=true
 mg_law_shape:mg "_law_shape"=some (.ref t.f_law_shape)
 kp_law_shape:W.keepIn K (.ref t.f_law_shape)=true
 mg_law_names:mg "_law_names"=some (.ref t.f_law_names)
 kp_law_names:W.keepIn K (.ref t.f_law_names)=true
 mg_law_pick:mg "_law_pick"=some (.ref t.f_law_pick)
 kp_law_pick:W.keepIn K (.ref t.f_law_pick)=true
 mg_law_rule:mg "_law_rule"=some (.ref t.f_law_rule)
 kp_law_rule:W.keepIn K (.ref t.f_law_rule)=true
 mg_law_changed:mg "_law_changed"=some (.ref t.f_law_changed)
 kp_law_changed:W.keepIn K (.ref t.f_law_changed)=true
 mg_law_papers:mg "_law_papers"=some (.ref t.f_law_papers)
 kp_law_papers:W.keepIn K (.ref t.f_law_papers)=true
 mg_law_rows:mg "_law_rows"=some (.ref t.f_law_rows)
 kp_law_rows:W.keepIn K (.ref t.f_law_rows)=true
 mg_MOST_TOLD:mg "MOST_TOLD"=some (.int 1000000 t.tk_MOST_TOLD)
 mg_ROLL:mg "ROLL"=some (.int 64 t.tk_ROLL)
 mg_NAMES:mg "NAMES"=some (.int 128 t.tk_NAMES)
 b_bool:mg "bool"=none
 b_int:mg "int"=none
 b_isinstance:mg "isinstance"=none
 b_len:mg "len"=none
 b_list:mg "list"=none
 b_max:mg "max"=none
 b_min:mg "min"=none
 b_range:mg "range"=none
 b_sorted:mg "sorted"=none
set_option genInjectivity false
structure Fns(K:W.Frag)(t:Adr) where
 is_whole:Fn1 K "is_whole" "is_whole" q34 t.f_is_whole ["thing"]
 is_within:Fn1 K "is_within" "is_within" q1O t.f_is_within ["thing","low","high"]
 is_shape:Fn1 K "is_shape" "is_shape" q35 t.f_is_shape ["blocks","pages"]
 is_value:Fn1 K "is_value" "is_value" q36 t.f_is_value ["thing"]
 mark_of:Fn1 K "mark_of" "mark_of" q4B t.f_mark_of ["stamp","name"]
 bits_of:Fn1 K "bits_of" "bits_of" q4C t.f_bits_of ["sheets"]
 Book_init:Fn1 K "__init__" "Book.__init__" q1P t.f_Book_init ["self","blocks","pages"]
 Book_mark:Fn1 K "mark" "Book.mark" q1Q t.f_Book_mark ["self","name"]
 Book_note:Fn1 K "note" "Book.note" q1R t.f_Book_note ["self","page","name"]
 Book_forget:Fn1 K "forget" "Book.forget" zS t.f_Book_forget ["self","name"]
 Book_emptied:Fn1 K "emptied" "Book.emptied" zA t.f_Book_emptied ["self","block"]
 Book_live_pages:Fn1 K "live_pages" "Book.live_pages" uU t.f_Book_live_pages ["self","block"]
 Book_held:Fn1 K "held" "Book.held" q1S t.f_Book_held ["self"]
 Plain_init:Fn1 K "__init__" "Plain.__init__" q0T t.f_Plain_init ["self","chip","terms"]
 Plain_good:Fn1 K "good" "Plain.good" q0U t.f_Plain_good ["self"]
 fd_Plain_free:FuncData
 F_Plain_free:FunT K "free" "Plain.free" jQ t.c_Plain_free t.f_Plain_free fd_Plain_free
 b_Plain_free:jS K fd_Plain_free ["self"] []
 Plain_part:Fn1 K "part" "Plain.part" q0V t.f_Plain_part ["self"]
 Plain_spot:Fn1 K "spot" "Plain.spot" q0W t.f_Plain_spot ["self"]
 Plain_ready:Fn1 K "ready" "Plain.ready" zT t.f_Plain_ready ["self"]
 Plain_set_down:Fn1 K "set_down" "Plain.set_down" v9 t.f_Plain_set_down ["self","name","value"]
 Plain_lay:Fn1 K "lay" "Plain.lay" q1T t.f_Plain_lay ["self","name","value"]
 Plain_write:Fn1 K "write" "Plain.write" zU t.f_Plain_write ["self","sheet","value"]
 Plain_give_up:Fn1 K "give_up" "Plain.give_up" vK t.f_Plain_give_up ["self","sheets"]
 Plain_held:Fn1 K "held" "Plain.held" q0X t.f_Plain_held ["self"]
 Plain_check_sheet:Fn1 K "check_sheet" "Plain.check_sheet" yY t.f_Plain_check_sheet ["self","sheet"]
 Plain_check_share:Fn1 K "check_share" "Plain.check_share" yZ t.f_Plain_check_share ["self","sheet"]
 paper_of:Fn1 K "paper_of" "paper_of" q37 t.f_paper_of ["why","options","block","moved","wiped"]
 Store_init:Fn1 K "__init__" "Store.__init__" q0Y t.f_Store_init ["self","chip","terms","rule"]
 Store_reserve:Fn1 K "reserve" "Store.reserve" vL t.f_Store_reserve ["self"]
 Store_tally:Fn1 K "tally" "Store.tally" zV t.f_Store_tally ["self","block"]
 Store_space:Fn1 K "space" "Store.space" zW t.f_Store_space ["self"]
 Store_full_ones:Fn1 K "full_ones" "Store.full_ones" uV t.f_Store_full_ones ["self"]
 Store_with_dead_page:Fn1 K "with_dead_page" "Store.with_dead_page" yJ t.f_Store_with_dead_page ["self"]
 Store_choice_by_rule:Fn1 K "choice_by_rule" "Store.choice_by_rule" yK t.f_Store_choice_by_rule ["self","options"]
 Store_moved:Fn1 K "moved" "Store.moved" zX t.f_Store_moved ["self","block"]
 Store_value_to_move:Fn1 K "value_to_move" "Store.value_to_move" yN t.f_Store_value_to_move ["self","page","name"]
 Store_wiped:Fn1 K "wiped" "Store.wiped" zY t.f_Store_wiped ["self","block"]
 Store_clear_out:Fn1 K "clear_out" "Store.clear_out" uW t.f_Store_clear_out ["self","block"]
 Store_make_room:Fn1 K "make_room" "Store.make_room" uX t.f_Store_make_room ["self"]
 Store_make_ready:Fn1 K "make_ready" "Store.make_ready" uG t.f_Store_make_ready ["self"]
 Store_make_rooms:Fn1 K "make_rooms" "Store.make_rooms" uH t.f_Store_make_rooms ["self"]
 Even_least:Fn1 K "least" "Even.least" q0Z t.f_Even_least ["self"]
 Even_clearable:Fn1 K "clearable" "Even.clearable" vA t.f_Even_clearable ["self","tallies"]
 Even_options:Fn1 K "options" "Even.options" zB t.f_Even_options ["self"]
 Even_choice:Fn1 K "choice" "Even.choice" zZ t.f_Even_choice ["self"]
 fd_Even_block_to_change:FuncData
 F_Even_block_to_change:FunT K "block_to_change" "Even.block_to_change" qU t.c_Even_block_to_change t.f_Even_block_to_change fd_Even_block_to_change
 b_Even_block_to_change:jS K fd_Even_block_to_change ["self"] []
 limits_of:Fn1 K "limits_of" "limits_of" q1U t.f_limits_of ["ills","blocks"]
 fd_Chip_init:FuncData
 dv_Chip_init:Value
 F_Chip_init:FunD K "__init__" "Chip.__init__" uM dv_Chip_init t.f_Chip_init fd_Chip_init
 b_Chip_init:jS K fd_Chip_init ["self","blocks","pages","most","ills"] []
 ds_Chip_init_1:List Value
 b_Chip_init_1:jS K fd_Chip_init ["self","blocks","pages","most","ills"] ds_Chip_init_1
 v_Chip_init_1:Vals [.non] ds_Chip_init_1
 ds_Chip_init_2:List Value
 b_Chip_init_2:jS K fd_Chip_init ["self","blocks","pages","most","ills"] ds_Chip_init_2
 v_Chip_init_2:Vals [.int 1000000,.non] ds_Chip_init_2
 Chip_put:Fn1 K "put" "Chip.put" q38 t.f_Chip_put ["self","page","stuff"]
 Chip_wipe:Fn1 K "wipe" "Chip.wipe" q1V t.f_Chip_wipe ["self","block"]
 Chip_read:Fn1 K "read" "Chip.read" q1W t.f_Chip_read ["self","page"]
 Chip_is_dark:Fn1 K "is_dark" "Chip.is_dark" zC t.f_Chip_is_dark ["self"]
 Chip_cleared:Fn1 K "cleared" "Chip.cleared" zD t.f_Chip_cleared ["self","block"]
 Chip_failed:Fn1 K "failed" "Chip.failed" q00 t.f_Chip_failed ["self","block"]
 Chip_check_page:Fn1 K "check_page" "Chip.check_page" uY t.f_Chip_check_page ["self","page"]
 Chip_check_block:Fn1 K "check_block" "Chip.check_block" uI t.f_Chip_check_block ["self","block"]
 Chip_check_power:Fn1 K "check_power" "Chip.check_power" uJ t.f_Chip_check_power ["self"]
 Chip_check_deed:Fn1 K "check_deed" "Chip.check_deed" uZ t.f_Chip_check_deed ["self","block"]
 Chip_is_spent:Fn1 K "is_spent" "Chip.is_spent" vM t.f_Chip_is_spent ["self","block"]
 Chip_do_deed:Fn1 K "do_deed" "Chip.do_deed" zE t.f_Chip_do_deed ["self","word","place","block","fails"]
 is_unbeaten:Fn1 K "is_unbeaten" "is_unbeaten" q01 t.f_is_unbeaten ["rule","tally","tallies","pages","now"]
 first_unbeaten:Fn1 K "first_unbeaten" "first_unbeaten" vB t.f_first_unbeaten ["rule","tallies","pages","now"]
 Rule_goes_ahead:Fn1 K "goes_ahead" "Rule.goes_ahead" v3 t.f_Rule_goes_ahead ["self","one","other","pages","now"]
 Rule_choose:Fn1 K "choose" "Rule.choose" q02 t.f_Rule_choose ["self","tallies","pages","now"]
 Fewest_goes_ahead:Fn1 K "goes_ahead" "Fewest.goes_ahead" u6 t.f_Fewest_goes_ahead ["self","one","other","pages","now"]
 Eldest_goes_ahead:Fn1 K "goes_ahead" "Eldest.goes_ahead" u7 t.f_Eldest_goes_ahead ["self","one","other","pages","now"]
 Worth_goes_ahead:Fn1 K "goes_ahead" "Worth.goes_ahead" uK t.f_Worth_goes_ahead ["self","one","other","pages","now"]
 fd_Terms_init:FuncData
 dv_Terms_init:Value
 F_Terms_init:FunD K "__init__" "Terms.__init__" yW dv_Terms_init t.f_Terms_init fd_Terms_init
 b_Terms_init:jS K fd_Terms_init ["self","blocks","pages","sheets","share","ill","spread"] []
 ds_Terms_init_1:List Value
 b_Terms_init_1:jS K fd_Terms_init ["self","blocks","pages","sheets","share","ill","spread"] ds_Terms_init_1
 v_Terms_init_1:Vals [.int 1000000] ds_Terms_init_1
 ds_Terms_init_2:List Value
 b_Terms_init_2:jS K fd_Terms_init ["self","blocks","pages","sheets","share","ill","spread"] ds_Terms_init_2
 v_Terms_init_2:Vals [.int 0,.int 1000000] ds_Terms_init_2
 Terms_closed:Fn1 K "closed" "Terms.closed" zF t.f_Terms_closed ["self"]
 law_cell_at:Fn1 K "_law_cell_at" "_law_cell_at" q03 t.f_law_cell_at ["_law_script","_law_k"]
 law_shape:Fn1 K "_law_shape" "_law_shape" q1X t.f_law_shape ["_law_script"]
 law_names:Fn1 K "_law_names" "_law_names" q1Y t.f_law_names ["_law_script","_law_share"]
 law_pick:Fn1 K "_law_pick" "_law_pick" q39 t.f_law_pick ["_law_cell","_law_names_here"]
 law_rule:Fn1 K "_law_rule" "_law_rule" q3A t.f_law_rule ["_law_cell"]
 law_changed:Fn1 K "_law_changed" "_law_changed" q04 t.f_law_changed ["_law_paper","_law_counts","_law_pages"]
 law_papers:Fn1 K "_law_papers" "_law_papers" q10 t.f_law_papers ["_law_papers_here","_law_counts","_law_pages","_law_closed"]
 law_rows:Fn1 K "_law_rows" "_law_rows" q3B t.f_law_rows ["_law_rows_here","_law_closed"]
 law:Fn1 K "law" "law" qEY t.f_law ["_law_script"]
structure HkE where
 P:Program
 w:World
 K:W.Frag
 mg:Str→Option Value
 t:Adr
noncomputable def hkB(e:HkE):Prop:=∃(S:Fns e.K e.t) (base:Heap),Txt e.K e.mg e.t∧BmIn base e.mg∧¬S.law.Ok0 e.P e.w e.mg base 18 (q48 e.K [e.t.T_Plain_free,e.t.T_Even_block_to_change])
instance:Nonempty HkE:=⟨⟨PySem.Challenge.pw_wornpages_k46_whole_who_with_whom,⟨λ_ _=>0,{ strHash:=λ_=>0,shareClass:=λ_=>0,mergeTok:=id,idOf:=λ_=>0,idOfShared:=λ_ _=>0,followText:=λ_=>false,idOfImm:=λ_=>0 }⟩,[],λ_=>none,by constructor<;>exact(0:Nat)⟩⟩
@[irreducible] noncomputable def hkE:HkE:=Classical.epsilon hkB
noncomputable def P:Program:=hkE.P
noncomputable def w:World:=hkE.w
noncomputable def K:W.Frag:=hkE.K
noncomputable def mg:Str→Option Value:=hkE.mg
noncomputable def t:Adr:=hkE.t
section
variable{base:Heap}
theorem q9O:FnScope ["thing"] ["thing"] (qF q34):=qP (by decide+kernel)
theorem q85:FnScope ["thing","low","high"] ["thing","low","high"] (qF q1O):=qP (by decide+kernel)
theorem q9P:FnScope ["blocks","pages"] ["blocks","pages"] (qF q35):=qP (by decide+kernel)
theorem q9Q:FnScope ["thing"] ["thing"] (qF q36):=qP (by decide+kernel)
theorem qAR:FnScope ["stamp","name"] ["stamp","name"] (qF q4B):=qP (by decide+kernel)
theorem q11:FnScope ["sheets","bits","sheet"] ["sheets"] (qF q4C):=qP (by decide+kernel)
theorem q86:FnScope ["self","blocks","pages"] ["self","blocks","pages"] (qF q1P):=qP (by decide+kernel)
theorem q87:FnScope ["self","name"] ["self","name"] (qF q1Q):=qP (by decide+kernel)
theorem q3X:FnScope ["self","page","name","block"] ["self","page","name"] (qF q1R):=qP (by decide+kernel)
theorem q1Z:FnScope ["self","name","page"] ["self","name"] (qF zS):=qP (by decide+kernel)
theorem q4P:FnScope ["self","block"] ["self","block"] (qF zA):=qP (by decide+kernel)
theorem q3C:FnScope ["self","block"] ["self","block"] (qF uU):=qP (by decide+kernel)
theorem q88:FnScope ["self"] ["self"] (qF q1S):=qP (by decide+kernel)
theorem q6J:FnScope ["self","chip","terms"] ["self","chip","terms"] (qF q0T):=qP (by decide+kernel)
theorem q6K:FnScope ["self"] ["self"] (qF q0U):=qP (by decide+kernel)
theorem q2W:FnScope ["self","clear"] ["self"] (qF jQ):=qP (by decide+kernel)
theorem q2X:FnScope ["self","block"] ["self"] (qF q0V):=qP (by decide+kernel)
theorem q05:FnScope ["self","part","free"] ["self"] (qF q0W):=qP (by decide+kernel)
theorem q21:FnScope ["self","spare"] ["self"] (qF zT):=qP (by decide+kernel)
theorem zO:FnScope ["self","name","value","page"] ["self","name","value"] (qF v9):=qP (by decide+kernel)
theorem q89:FnScope ["self","name","value"] ["self","name","value"] (qF q1T):=qP (by decide+kernel)
theorem q5W:FnScope ["self","sheet","value"] ["self","sheet","value"] (qF zU):=qP (by decide+kernel)
theorem yH:FnScope ["self","sheets","sheet","held","gone"] ["self","sheets"] (qF vK):=qP (by decide+kernel)
theorem q6L:FnScope ["self"] ["self"] (qF q0X):=qP (by decide+kernel)
theorem q22:FnScope ["self","sheet"] ["self","sheet"] (qF yY):=qP (by decide+kernel)
theorem vH:FnScope ["self","sheet","held"] ["self","sheet"] (qF yZ):=qP (by decide+kernel)
theorem q9R:FnScope ["why","options","block","moved","wiped"] ["why","options","block","moved","wiped"] (qF q37):=qP (by decide+kernel)
theorem q6M:FnScope ["self","chip","terms","rule"] ["self","chip","terms","rule"] (qF q0Y):=qP (by decide+kernel)
theorem q4D:FnScope ["self"] ["self"] (qF vL):=qP (by decide+kernel)
theorem q5X:FnScope ["self","block"] ["self","block"] (qF zV):=qP (by decide+kernel)
theorem q23:FnScope ["self","part"] ["self"] (qF zW):=qP (by decide+kernel)
theorem yL:FnScope ["self","space","full","tallies"] ["self"] (qF uV):=qP (by decide+kernel)
theorem q0F:FnScope ["self"] ["self"] (qF yJ):=qP (by decide+kernel)
theorem q0G:FnScope ["self","options"] ["self","options"] (qF yK):=qP (by decide+kernel)
theorem v4:FnScope ["self","block","moves","page","name"] ["self","block"] (qF zX):=qP (by decide+kernel)
theorem q12:FnScope ["self","page","name"] ["self","page","name"] (qF yN):=qP (by decide+kernel)
theorem q5Y:FnScope ["self","block"] ["self","block"] (qF zY):=qP (by decide+kernel)
theorem q3D:FnScope ["self","block"] ["self","block"] (qF uW):=qP (by decide+kernel)
theorem jZ:FnScope ["self","options","chosen","moved","wiped"] ["self"] (qF uX):=qP (by decide+kernel)
theorem q2N:FnScope ["self"] ["self"] (qF uG):=qP (by decide+kernel)
theorem q2O:FnScope ["self"] ["self"] (qF uH):=qP (by decide+kernel)
theorem q6N:FnScope ["self"] ["self"] (qF q0Z):=qP (by decide+kernel)
theorem zP:FnScope ["self","tallies","bound"] ["self","tallies"] (qF vA):=qP (by decide+kernel)
theorem q4Q:FnScope ["self"] ["self"] (qF zB):=qP (by decide+kernel)
theorem q24:FnScope ["self","options"] ["self"] (qF zZ):=qP (by decide+kernel)
theorem uN:FnScope ["self","tallies"] ["self"] (qF qU):=qP (by decide+kernel)
theorem vR:FnScope ["ills","blocks","limits","block","deeds"] ["ills","blocks"] (qF q1U):=qP (by decide+kernel)
theorem q8A:FnScope ["self","blocks","pages","most","ills"] ["self","blocks","pages","most","ills"] (qF uM):=qP (by decide+kernel)
theorem q4L:FnScope ["self","page","stuff","block"] ["self","page","stuff"] (qF q38):=qP (by decide+kernel)
theorem vS:FnScope ["self","block","fails","first","page"] ["self","block"] (qF q1V):=qP (by decide+kernel)
theorem q8B:FnScope ["self","page"] ["self","page"] (qF q1W):=qP (by decide+kernel)
theorem q4R:FnScope ["self"] ["self"] (qF zC):=qP (by decide+kernel)
theorem q4S:FnScope ["self","block"] ["self","block"] (qF zD):=qP (by decide+kernel)
theorem q5Z:FnScope ["self","block"] ["self","block"] (qF q00):=qP (by decide+kernel)
theorem q3E:FnScope ["self","page"] ["self","page"] (qF uY):=qP (by decide+kernel)
theorem q2P:FnScope ["self","block"] ["self","block"] (qF uI):=qP (by decide+kernel)
theorem q2Q:FnScope ["self"] ["self"] (qF uJ):=qP (by decide+kernel)
theorem q3F:FnScope ["self","block"] ["self","block"] (qF uZ):=qP (by decide+kernel)
theorem q4E:FnScope ["self","block"] ["self","block"] (qF vM):=qP (by decide+kernel)
theorem q4T:FnScope ["self","word","place","block","fails"] ["self","word","place","block","fails"] (qF zE):=qP (by decide+kernel)
theorem q25:FnScope ["rule","tally","tallies","pages","now","other"] ["rule","tally","tallies","pages","now"] (qF q01):=qP (by decide+kernel)
theorem v5:FnScope ["rule","tallies","pages","now","place"] ["rule","tallies","pages","now"] (qF vB):=qP (by decide+kernel)
theorem q3G:FnScope ["self","one","other","pages","now"] ["self","one","other","pages","now"] (qF v3):=qP (by decide+kernel)
theorem q60:FnScope ["self","tallies","pages","now"] ["self","tallies","pages","now"] (qF q02):=qP (by decide+kernel)
theorem q26:FnScope ["self","one","other","pages","now"] ["self","one","other","pages","now"] (qF u6):=qP (by decide+kernel)
theorem q27:FnScope ["self","one","other","pages","now"] ["self","one","other","pages","now"] (qF u7):=qP (by decide+kernel)
theorem u8:FnScope ["self","one","other","pages","now","gain_of_one","gain_of_other"] ["self","one","other","pages","now"] (qF uK):=qP (by decide+kernel)
theorem q6O:FnScope ["self","blocks","pages","sheets","share","ill","spread"] ["self","blocks","pages","sheets","share","ill","spread"] (qF yW):=qP (by decide+kernel)
theorem q4U:FnScope ["self"] ["self"] (qF zF):=qP (by decide+kernel)
theorem q61:FnScope ["_law_script","_law_k"] ["_law_script","_law_k"] (qF q03):=qP (by decide+kernel)
theorem yM:FnScope ["_law_script","_law_pages","_law_closed","_law_ill","_law_share"] ["_law_script"] (qF q1X):=qP (by decide+kernel)
theorem q8C:FnScope ["_law_script","_law_share"] ["_law_script","_law_share"] (qF q1Y):=qP (by decide+kernel)
theorem q9S:FnScope ["_law_cell","_law_names_here"] ["_law_cell","_law_names_here"] (qF q39):=qP (by decide+kernel)
theorem q9T:FnScope ["_law_cell"] ["_law_cell"] (qF q3A):=qP (by decide+kernel)
theorem zG:FnScope ["_law_paper","_law_counts","_law_pages","_law_taker","_law_move"] ["_law_paper","_law_counts","_law_pages"] (qF q04):=qP (by decide+kernel)
theorem vD:FnScope ["_law_papers_here","_law_counts","_law_pages","_law_closed","_law_least","_law_k","_law_paper"] ["_law_papers_here","_law_counts","_law_pages","_law_closed"] (qF q10):=qP (by decide+kernel)
theorem zQ:FnScope ["_law_rows_here","_law_closed","_law_start","_law_end","_law_grown"] ["_law_rows_here","_law_closed"] (qF q3B):=qP (by decide+kernel)
theorem yI:FnScope ["_law_script","_law_blocks","_law_pages","_law_share","_law_ill","_law_spread","_law_closed","_law_chip","_law_terms","_law_store","_law_names_here","_law_name","_law_counts","_law_rows_here","_law_seen","_law_k","_law_cell","_law_sheet","_law_papers_here"] ["_law_script"] (qF qEY):=qP (by decide+kernel)
local macro_rules| `(tactic|walk_at "r")=>`(tactic|repeat (first|with_reducible refine⟨_,rfl,?_⟩|refine⟨_,rfl,?_⟩|refine(iI ?_)))
theorem q9U(T:Txt K mg t)(S:Fns K t):S.is_whole.Ok0 P w mg base 1 qFJ:=by
 refine S.is_whole.F.ok0 q9O λcdv A _ s H vs Q E hr h=>?_
 ·obtain⟨x,rfl,kn,k⟩:=h
  refine⟨_,(qC (qL (q5C (jA q3Q (by rfl) T.b_isinstance (by kernel_rfl) (qA (pv 0) (qA (qAU rfl T.b_int (by kernel_rfl) rfl (v:=.ty "int")) qE))) (q1C (qCS (jA q3Q (by rfl) T.b_isinstance (by kernel_rfl) (qA (pv 0) (qA (qAU rfl T.b_bool (by kernel_rfl) rfl (v:=.ty "bool")) qE)))))))),?_⟩
  try dsimp-beta-proj-iota-zeta-eta only[wishK,cxK]
  obtain⟨ty,q,e1,e2,_⟩:=kn.ty (K:=K)
  refine⟨_,rfl,x,_,_,ty,_,rfl,rfl,.inl q,e1,_,rfl,?_⟩
  have z:=qII x
  cases qi:isI x with
  |true=>
   rw[qi,kI rfl]at z
   refine iteT ?_
   refine⟨_,rfl,x,_,_,ty,_,rfl,rfl,.inl q,e2,_,rfl,?_⟩
   rw[z]
   exact k
  |false=>
   rw[qi]at z
   refine iteF ?_
   have z':false=isW x:=z
   rw[z']
   exact k
theorem jL(T:Txt K mg t)(S:Fns K t):S.is_within.Ok0 P w mg base 2 qDH:=by
 refine S.is_within.F.ok0 q85 λcdv A _ s H vs Q E hr h=>?_
 ·obtain⟨x,lo,hi,rfl,kn,k⟩:=h
  refine⟨_,(qC (qL (q5C (qW (q9U T S).mono hr rfl T.mg_is_whole T.kp_is_whole S.is_whole.b .nil qK (qA (pv 0) qE)) (q1C (qCZ qCX qCX (pv 1) (pv 0) (pv 2)))))),?_⟩
  try dsimp-beta-proj-iota-zeta-eta only[wishK,cxK]
  refine⟨_,rfl,x,rfl,kn,_,rfl,?_⟩
  cases x with
  |int i=>
   refine iteT ?_
   refine⟨_,rfl,_,rfl,iI ⟨_,rfl,?_⟩⟩
   have k':Q (V.bl (decide (lo≤i)&&decide (i≤hi))) H:=k
   by_cases h1:lo≤i
   ·rw[hG h1]at k' ⊢
    refine iteT ?_
    exact⟨_,rfl,iI k'⟩
   ·rw[kD h1]at k' ⊢
    refine iteF ?_
    exact k'
  |_=>exact iteF k
theorem q4M(T:Txt K mg t)(S:Fns K t):S.is_shape.Ok0 P w mg base 3 qFQ:=by
 refine S.is_shape.F.ok0 q9P λcdv A _ s H vs Q E hr h=>?_
 ·obtain⟨x,y,rfl,kx,ky,k⟩:=h
  refine⟨_,(qC (qL (q5C (qW (jL T S).mono hr rfl T.mg_is_within T.kp_is_within S.is_within.b .nil qK (qA (pv 0) (qA qG (qA qG qE)))) (q1C (qW (jL T S).mono hr rfl T.mg_is_within T.kp_is_within S.is_within.b .nil qK (qA (pv 1) (qA qG (qA qG qE)))))))),?_⟩
  try dsimp-beta-proj-iota-zeta-eta only[wishK,cxK]
  refine⟨_,rfl,x,_,_,rfl,kx,_,rfl,?_⟩
  cases q:inB x 2 16 with
  |true=>
   rw[q]at k
   refine iteT ⟨_,rfl,y,_,_,rfl,ky,k⟩
  |false=>
   rw[q]at k
   exact iteF k
structure Gd(m:CM):Prop where
 br:∀b,m.br.getD b false=false
 li:∀b,valV m.lim (Sum.inl b)=none
theorem inBi{v lo hi:Int}(h1:lo≤v)(h2:v≤hi):inB (.int v) lo hi=true:=by
 show(decide (lo≤v)&&decide (v≤hi))=true
 rw[hG h1,hG h2]
 rfl
noncomputable def putC(m:CM)(p:Nat)(st:V):CM:={ m.deed "put" (p:Int) ((p:Int) / m.pg) false with bo:=m.bo.set p st }
noncomputable def wipC(m:CM)(b:Nat):CM:={ m.deed "wipe" (b:Int) (b:Int) false with bo:=clr m.bo ((b:Int)*m.pg).toNat m.pg.toNat,cl:=m.cl.set b (m.cl.getD b 0+1) }
noncomputable def spCP(t:Adr):Sp:=λvs H Q E=>∃c a m,∃p:Int,vs=[.ref c,.int p]∧ChipAt t.C_Chip H c a m∧m.Ok∧0≤p∧p≤m.bl*m.pg-1∧Q .non H
theorem zH(T:Txt K mg t)(S:Fns K t):S.Chip_check_page.Ok0 P w mg base 3 (spCP t):=by
 refine S.Chip_check_page.F.ok0 q3E λcdv A _ s H vs Q E hr h=>?_
 ·obtain⟨c,a,m,p,rfl,hc,ok,p0,p1,q⟩:=h
  refine⟨_,(qC (jE (yX (yE (qW (jL T S).mono hr rfl T.mg_is_within T.kp_is_within S.is_within.b .nil qK (qA (pv 1) (qA qG (qA (qM y9 (qM yS (qJ (pv 0) rfl) (qJ (pv 0) rfl)) qG) qE)))))) (qC jH) qQ)),?_⟩
  try dsimp-beta-proj-iota-zeta-eta only[wishK,cxK]
  have b1:=ok.bl1
  have b2:=ok.bl2
  refine⟨_,rfl,iV rfl (iF hc.ins T.cl_Chip T.na_Chip_blocks rfl (iV rfl (iF hc.ins T.cl_Chip T.na_Chip_pages rfl ?_)))⟩
  refine(iI ⟨.inl ⟨by omega,by omega⟩,iI ⟨.int p,_,_,rfl,.int p,_,rfl,?_⟩⟩)
  rw[inBi p0 p1]
  exact iteF q
noncomputable def spCB(t:Adr):Sp:=λvs H Q E=>∃c a m,∃p:Int,vs=[.ref c,.int p]∧ChipAt t.C_Chip H c a m∧0≤p∧p≤m.bl-1∧Q .non H
theorem u9(T:Txt K mg t)(S:Fns K t):S.Chip_check_block.Ok0 P w mg base 3 (spCB t):=by
 refine S.Chip_check_block.F.ok0 q2P λcdv A _ s H vs Q E hr h=>?_
 ·obtain⟨c,a,m,p,rfl,hc,p0,p1,q⟩:=h
  refine⟨_,(qC (jE (yX (yE (qW (jL T S).mono hr rfl T.mg_is_within T.kp_is_within S.is_within.b .nil qK (qA (pv 1) (qA qG (qA (qM y9 (qJ (pv 0) rfl) qG) qE)))))) (qC jH) qQ)),?_⟩
  try dsimp-beta-proj-iota-zeta-eta only[wishK,cxK]
  refine⟨_,rfl,iV rfl (iF hc.ins T.cl_Chip T.na_Chip_blocks rfl (iI ⟨.int p,_,_,rfl,.int p,_,rfl,?_⟩))⟩
  rw[inBi p0 p1]
  exact iteF q
noncomputable def spID(t:Adr):Sp:=λvs H Q E=>∃c a m,vs=[.ref c]∧ChipAt t.C_Chip H c a m∧Q (.bl (decide (m.lf=some 0))) H
theorem q4V(T:Txt K mg t)(S:Fns K t):S.Chip_is_dark.Ok0 P w mg base 1 (spID t):=by
 refine S.Chip_is_dark.F.ok0 q4R λcdv A _ s H vs Q E hr h=>?_
 ·obtain⟨c,a,m,rfl,hc,q⟩:=h
  refine⟨_,(qC (qL (uC vV (qJ (pv 0) rfl) qG (qT _)))),?_⟩
  try dsimp-beta-proj-iota-zeta-eta only[wishK,cxK]
  refine⟨_,rfl,c,_,a.dx,_,_,rfl,hc.ins,T.cl_Chip,T.na_Chip_deeds_left,rfl,qFP,?_⟩
  rw[lf0]
  exact q
noncomputable def spPW(t:Adr):Sp:=λvs H Q E=>∃c a m,vs=[.ref c]∧ChipAt t.C_Chip H c a m∧(if m.lf=some 0 then E (.ref t.C_PowerGone) none H else Q .non H)
theorem vO(T:Txt K mg t)(S:Fns K t):S.Chip_check_power.OkE P w mg base 2 (spPW t):=by
 refine S.Chip_check_power.F.okE q2Q (λvs H Q E h=>?_) (λcdv A outer s H vs Q E hr h=>?_)
 ·repeat obtain⟨_,h⟩:=h
  all_goals subst_vars;rfl
 ·obtain⟨c,a,m,rfl,hc,q⟩:=h
  refine⟨_,(qC (jE (yE (j9 (pv 0) T.cl_Chip T.m_Chip_is_dark (q4V T S).mono hr S.Chip_is_dark.b .nil qK)) (qC (q96 jF rfl rfl T.mg_PowerGone T.x_PowerGone (qA q1A qE))) qQ)),?_⟩
  try dsimp-beta-proj-iota-zeta-eta only[wishK,cxK]
  refine(iV rfl (iM hc.ins rfl ⟨c,a,m,rfl,hc,_,rfl,?_⟩))
  by_cases z:m.lf=some 0
  ·rw[kI z]at q
   rw[hG z]
   exact iteT ⟨sz1,q⟩
  ·rw[kF z]at q
   rw[kD z]
   exact iteF q
noncomputable def spCD(t:Adr):Sp:=λvs H Q E=>∃c a m b,vs=[.ref c,.int b]∧ChipAt t.C_Chip H c a m∧m.Ok∧Gd m∧0≤b∧b<m.bl∧(if m.lf=some 0 then E (.ref t.C_PowerGone) none H else Q .non H)
theorem zI(T:Txt K mg t)(S:Fns K t):S.Chip_check_deed.OkE P w mg base 3 (spCD t):=by
 refine S.Chip_check_deed.F.okE q3F (λvs H Q E h=>?_) (λcdv A outer s H vs Q E hr h=>?_)
 ·repeat obtain⟨_,h⟩:=h
  all_goals subst_vars;rfl
 ·obtain⟨c,a,m,b,rfl,hc,ok,g,b0,b1,q⟩:=h
  refine⟨_,(qB (j8 (uL jF (pv 0) T.cl_Chip T.m_Chip_check_power (vO T S).mono hr S.Chip_check_power.b .nil)) (qC (jE (yE (qS jB (qJ (pv 0) rfl) (pv 1) (λ_ _=>rfl))) (qC jH) qQ))),?_⟩
  try dsimp-beta-proj-iota-zeta-eta only[wishK,cxK]
  have nb:=ok.nbr
  refine(iV rfl (iM hc.ins rfl ⟨c,a,m,rfl,hc,?_⟩))
  split
  ·rename_i z
   rw[kI z]at q
   exact q
  ·rename_i z
   rw[kF z]at q
   refine(iV rfl (iF hc.ins T.cl_Chip T.na_Chip_broken rfl ⟨_,rfl,iL (k:=b) (v:=_) (SqL.of hc.br) (getB b0 (by omega)) ⟨_,rfl,?_⟩⟩))
   rw[g.br]
   exact iteF q
noncomputable def spIS(t:Adr):Sp:=λvs H Q E=>∃c a m b,vs=[.ref c,.int b]∧ChipAt t.C_Chip H c a m∧Gd m∧Q (.bl false) H
theorem q0H(T:Txt K mg t)(S:Fns K t):S.Chip_is_spent.Ok0 P w mg base 1 (spIS t):=by
 refine S.Chip_is_spent.F.ok0 q4E λcdv A _ s H vs Q E hr h=>?_
 ·obtain⟨c,a,m,b,rfl,hc,g,q⟩:=h
  have hu:=q79 hr
  refine⟨_,(qC (qL (q5C (qHL (qDE hu (pv 1) (qJ (pv 0) rfl))) (q1C (uC qB0 (qS jB (qJ (pv 0) rfl) (pv 1) (λ_ _=>rfl)) (qFH hu (qJ (pv 0) rfl) (pv 1) (λ_ _=>rfl)) (qT _)))))),?_⟩
  try dsimp-beta-proj-iota-zeta-eta only[wishK,cxK]
  refine⟨_,rfl,iV rfl (iF hc.ins T.cl_Chip T.na_Chip_limits rfl ⟨a.li,_,rfl,DGet.k (k:=Sum.inl b) hc.li,_,rfl,?_⟩)⟩
  rw[g.li]
  exact iteF q
noncomputable def spDD(t:Adr):Sp:=λvs H Q E=>∃c a m w pl b,vs=[.ref c,.str w,.int pl,.int b,.bl false]∧ChipAt t.C_Chip H c a m∧m.Ok∧m.rc.length<1000000∧0≤b∧b<m.bl∧
 ∀H',ChipAt t.C_Chip H' c a (m.deed w pl b false)→Keep (foot c a) H H'→Q .non H'
theorem q18(T:Txt K mg t)(S:Fns K t):S.Chip_do_deed.Ok0 P w mg base 3 (spDD t):=by
 refine S.Chip_do_deed.F.ok0 q4T λcdv A _ s H vs Q E hr h=>?_
 ·obtain⟨c,a,m,w,pl,b,rfl,hc,ok,hr1,b0,b1,q⟩:=h
  refine⟨_,(q2F (jE (qR q4Z (qJ (pv 0) rfl) vJ (qT _)) (qC (q6Z (pv 0) qG qHU)) qQ) (qB (q3L (qJ (pv 0) rfl) (pv 3) q1G qG q5D yU) (qB (j8 (qB3 wA rW rX vT (qJ (pv 0) rfl) (qA (uD (qA (pv 1) (qA (pv 2) (qA (qCS (pv 4)) qE)))) qE q1I))) (qC (jE (yE (pv 4)) (qB jH (qC jH)) qQ))))),?_⟩
  try dsimp-beta-proj-iota-zeta-eta only[wishK,cxK]
  have nd:=ok.ndc
  refine⟨λσ' H1=>σ'=[some (.ref c),some (.str w),some (.int pl),some (.int b),some (.bl false)]∧ChipAt t.C_Chip H1 c a { m with lf:=m.lf.map (· - 1) }∧Keep (foot c a) H H1,?_,?_⟩
  ·refine⟨_,rfl,c,_,a.dx,_,_,rfl,hc.ins,T.cl_Chip,T.na_Chip_deeds_left,rfl,rfl,_,rfl,?_⟩
   cases hl:m.lf with
   |none=>
    refine iteF ⟨rfl,?_,Keep.refl⟩
    show ChipAt t.C_Chip H c a { m with lf:=none }
    rw[←hl]
    exact hc
   |some i=>
    refine iteT ?_
    refine⟨_,rfl,c,_,a.dx,_,_,rfl,hc.ins,T.cl_Chip,T.na_Chip_deeds_left,(by unfold chF;rw[hl];rfl),iI ⟨a.dx,_,hc.ins,by show 10<1000;decide,?_⟩⟩
    refine⟨rfl,hc.setLf (some (i-1)),Keep.upd hc.ins (λ_ z=>by cases z) (by simp[foot])⟩
  rintro _ H1 ⟨rfl,hc1,k1⟩
  refine(iV rfl (iF hc1.ins T.cl_Chip T.na_Chip_deed_counts rfl ⟨_,rfl,iL (k:=b) (v:=_) (SqL.of hc1.dc) (getI b0 (by show b<(m.dc.length:Int);omega)) (iI ⟨a.dc,_,b,b.toNat,rfl,rfl,hc1.dc,by rw[h9];exact ixOk b0 (by show b<(m.dc.length:Int);omega),?_⟩)⟩))
  rw[←List.map_set]
  have hc2:=hc1.setDc (m.dc.set b.toNat (m.dc.getD b.toNat 0+1))
  have k2:Keep (foot c a) H (upd H1 a.dc (.lst ((m.dc.set b.toNat (m.dc.getD b.toNat 0+1)).map V.int))):=k1.trans (Keep.upd hc1.dc (λ_ z=>by cases z) (by simp[foot]))
  generalize upd H1 a.dc (.lst ((m.dc.set b.toNat (m.dc.getD b.toNat 0+1)).map V.int))=H2 at hc2 k2 ⊢
  obtain⟨rs,er,pr⟩:=hc2.rc
  have ln:rs.length≤1000000:=by
   rw[pr.len]
   exact pP hr1
  refine(iV rfl (iF hc2.ins T.cl_Chip T.na_Chip_record rfl ⟨.inl ⟨rfl,_,SqL.of er⟩,_,rfl,_,rfl,_,rfl,_,rfl,sz3,λp H3 np sm hp=>?_⟩))
  have er3:=sm _ _ er
  refine⟨a.rc,rs,_,rfl,rfl,er3,cG ln (by decide),?_⟩
  exact⟨_,rfl,_,rfl,iteF (q _ ((hc2.same sm).addRc (d:=(w,pl,!false)) er3 hp) ((k2.trans (Keep.same sm)).trans (Keep.upd (o:=.lst (rs++[.ref p])) er3 (λ_ z=>by cases z) (by simp[foot]))))⟩
noncomputable def qKK(t:Adr):Sp:=λvs H Q E=>∃c a m,∃p:Nat,∃st,vs=[.ref c,.int (p:Int),st]∧ChipAt t.C_Chip H c a m∧m.Ok∧m.rc.length<1000000∧Gd m∧(p:Int)≤m.bl*m.pg-1∧m.bo.getD p .non=.non∧(m.lf=some 0→E (.ref t.C_PowerGone) none H)∧(m.lf≠some 0→∀H',ChipAt t.C_Chip H' c a (putC m p st)→Keep (foot c a) H H'→Q .non H')
theorem q9V(T:Txt K mg t)(S:Fns K t):S.Chip_put.OkE P w mg base 4 (qKK t):=by
 refine S.Chip_put.F.okE q4L (λvs H Q E h=>?_) (λcdv A outer s H vs Q E hr h=>?_)
 ·repeat obtain⟨_,h⟩:=h
  all_goals subst_vars;rfl
 ·obtain⟨c,a,m,p,st,rfl,hc,ok,hr1,g,p1,hw,dk,q⟩:=h
  refine⟨_,(qB (j8 (qY (pv 0) T.cl_Chip T.m_Chip_check_page (zH T S).mono hr S.Chip_check_page.b .nil qK (qA (pv 1) qE))) (qB (qV (i:=3) q4L.nd rfl (Or.inl rfl) (qM uQ (pv 1) (qJ (pv 0) rfl))) (qB (j8 (jV jF (pv 0) T.cl_Chip T.m_Chip_check_deed (zI T S).mono hr S.Chip_check_deed.b .nil (qA (pv 3) qE))) (qB (jE (qR q4Z (qS jB (qJ (pv 0) rfl) (pv 1) (λ_ _=>rfl)) vJ (qT _)) (qC jH) qQ) (qB (j8 (qY (pv 0) T.cl_Chip T.m_Chip_do_deed (q18 T S).mono hr S.Chip_do_deed.b .nil qK (qA q1A (qA (pv 1) (qA (pv 3) (qA (qY (pv 0) T.cl_Chip T.m_Chip_is_spent (q0H T S).mono hr S.Chip_is_spent.b .nil qK (qA (pv 3) qE)) qE)))))) (qC (q2Z (pv 2) (q40 (qJ (pv 0) rfl) (pv 1) yU)))))))),?_⟩
  try dsimp-beta-proj-iota-zeta-eta only[wishK,cxK]
  have pg1:=ok.pg1
  have pg2:=ok.pg2
  have nbo:=ok.nbo
  have p0:(0:Int)≤p:=by omega
  obtain⟨b0,b1⟩:=qIM ok p0 p1
  refine(iV rfl (iM hc.ins rfl ⟨_,rfl,c,a,m,p,rfl,hc,ok,p0,p1,?_⟩))
  refine⟨_,rfl,iV rfl (iF hc.ins T.cl_Chip T.na_Chip_pages rfl (iI ⟨⟨by omega,by omega⟩,?_⟩))⟩
  refine(iV rfl (iM hc.ins rfl ⟨_,rfl,c,a,m,_,rfl,hc,ok,g,b0,b1,?_⟩))
  by_cases z:m.lf=some 0
  ·rw[kI z]
   exact dk z
  rw[kF z]
  have q:=q z
  refine(iV rfl (iF hc.ins T.cl_Chip T.na_Chip_borne rfl ⟨_,rfl,iL (k:=p) (v:=_) (SqL.of hc.bo) (getV p0 (by omega)) ⟨rfl,_,rfl,?_⟩⟩))
  rw[mK,hG hw]
  refine iteF ?_
  refine(iV rfl (iM hc.ins rfl ⟨_,rfl,_,rfl,iV rfl (iM hc.ins rfl ⟨_,rfl,c,a,m,_,rfl,hc,g,?_⟩)⟩))
  refine⟨c,a,m,"put",p,_,rfl,hc,ok,hr1,b0,b1,λH' hc' k'=>?_⟩
  refine⟨_,rfl,iV rfl (iF hc'.ins T.cl_Chip T.na_Chip_borne rfl ⟨_,rfl,a.bo,_,p,p,rfl,rfl,hc'.bo,ixOk p0 (by show(p:Int)<(m.bo.length:Int);omega),?_⟩)⟩
  exact q _ (hc'.setBo (m.bo.set p st)) (k'.trans (Keep.upd hc'.bo (λ_ z=>by cases z) (by simp[foot])))
noncomputable def qJA(t:Adr):Sp:=λvs H Q E=>∃c a m,∃p:Int,vs=[.ref c,.int p]∧ChipAt t.C_Chip H c a m∧m.Ok∧0≤p∧p≤m.bl*m.pg-1∧(m.lf=some 0→E (.ref t.C_PowerGone) none H)∧(m.lf≠some 0→Q (m.bo.getD p.toNat .non) H)
theorem q8D(T:Txt K mg t)(S:Fns K t):S.Chip_read.OkE P w mg base 4 (qJA t):=by
 refine S.Chip_read.F.okE q8B (λvs H Q E h=>?_) (λcdv A outer s H vs Q E hr h=>?_)
 ·repeat obtain⟨_,h⟩:=h
  all_goals subst_vars;rfl
 ·obtain⟨c,a,m,p,rfl,hc,ok,p0,p1,dk,q⟩:=h
  refine⟨_,(qB (j8 (qY (pv 0) T.cl_Chip T.m_Chip_check_page (zH T S).mono hr S.Chip_check_page.b .nil qK (qA (pv 1) qE))) (qB (j8 (uL jF (pv 0) T.cl_Chip T.m_Chip_check_power (vO T S).mono hr S.Chip_check_power.b .nil)) (qC (qL (qS jB (qJ (pv 0) rfl) (pv 1) (λ_ _=>rfl)))))),?_⟩
  try dsimp-beta-proj-iota-zeta-eta only[wishK,cxK]
  have nbo:=ok.nbo
  refine(iV rfl (iM hc.ins rfl ⟨_,rfl,c,a,m,p,rfl,hc,ok,p0,p1,iV rfl (iM hc.ins rfl ⟨c,a,m,rfl,hc,?_⟩)⟩))
  by_cases z:m.lf=some 0
  ·rw[kI z]
   exact dk z
  rw[kF z]
  exact(iV rfl (iF hc.ins T.cl_Chip T.na_Chip_borne rfl ⟨_,rfl,iL (k:=p) (v:=_) (SqL.of hc.bo) (getV p0 (by omega)) (q z)⟩))
noncomputable def spCl(t:Adr):Sp:=λvs H Q E=>∃c a m b,vs=[.ref c,.int b]∧ChipAt t.C_Chip H c a m∧m.Ok∧0≤b∧b≤m.bl-1∧Q (.int (m.cl.getD b.toNat 0)) H
theorem uF(T:Txt K mg t)(S:Fns K t):S.Chip_cleared.Ok0 P w mg base 4 (spCl t):=by
 refine S.Chip_cleared.F.ok0 q4S λcdv A _ s H vs Q E hr h=>?_
 ·obtain⟨c,a,m,b,rfl,hc,ok,b0,b1,q⟩:=h
  refine⟨_,(qB (j8 (qY (pv 0) T.cl_Chip T.m_Chip_check_block (u9 T S).mono hr S.Chip_check_block.b .nil qK (qA (pv 1) qE))) (qC (qL (qS jB (qJ (pv 0) rfl) (pv 1) (λ_ _=>rfl))))),?_⟩
  try dsimp-beta-proj-iota-zeta-eta only[wishK,cxK]
  have n:=ok.ncl
  exact(iV rfl (iM hc.ins rfl ⟨_,rfl,c,a,m,b,rfl,hc,b0,b1,iV rfl (iF hc.ins T.cl_Chip T.na_Chip_clearings rfl ⟨_,rfl,iL (k:=b) (v:=_) (SqL.of hc.cl) (getI b0 (by omega)) q⟩)⟩))
noncomputable def spFa(t:Adr):Sp:=λvs H Q E=>∃c a m b,vs=[.ref c,.int b]∧ChipAt t.C_Chip H c a m∧m.Ok∧0≤b∧b≤m.bl-1∧Q (.bl (m.br.getD b.toNat false)) H
theorem q62(T:Txt K mg t)(S:Fns K t):S.Chip_failed.Ok0 P w mg base 4 (spFa t):=by
 refine S.Chip_failed.F.ok0 q5Z λcdv A _ s H vs Q E hr h=>?_
 ·obtain⟨c,a,m,b,rfl,hc,ok,b0,b1,q⟩:=h
  refine⟨_,(qB (j8 (qY (pv 0) T.cl_Chip T.m_Chip_check_block (u9 T S).mono hr S.Chip_check_block.b .nil qK (qA (pv 1) qE))) (qC (qL (qS jB (qJ (pv 0) rfl) (pv 1) (λ_ _=>rfl))))),?_⟩
  try dsimp-beta-proj-iota-zeta-eta only[wishK,cxK]
  have n:=ok.nbr
  exact(iV rfl (iM hc.ins rfl ⟨_,rfl,c,a,m,b,rfl,hc,b0,b1,iV rfl (iF hc.ins T.cl_Chip T.na_Chip_broken rfl ⟨_,rfl,iL (k:=b) (v:=_) (SqL.of hc.br) (getB b0 (by omega)) q⟩)⟩))
noncomputable def qJB(t:Adr):Sp:=λvs H Q E=>∃c a m,∃b:Nat,vs=[.ref c,.int (b:Int)]∧ChipAt t.C_Chip H c a m∧m.Ok∧m.rc.length<1000000∧Gd m∧(b:Int)≤m.bl-1∧m.cl.getD b 0<m.mo∧(m.lf=some 0→E (.ref t.C_PowerGone) none H)∧(m.lf≠some 0→∀H',ChipAt t.C_Chip H' c a (wipC m b)→Keep (foot c a) H H'→Q .non H')
theorem q8E(T:Txt K mg t)(S:Fns K t):S.Chip_wipe.OkE P w mg base 4 (qJB t):=by
 refine S.Chip_wipe.F.okE vS (λvs H Q E h=>?_) (λcdv A outer s H vs Q E hr h=>?_)
 ·repeat obtain⟨_,h⟩:=h
  all_goals subst_vars;rfl
 ·obtain⟨c,a,m,b,rfl,hc,ok,hr1,g,b1,hm,dk,q⟩:=h
  refine⟨_,(qB (j8 (qY (pv 0) T.cl_Chip T.m_Chip_check_block (u9 T S).mono hr S.Chip_check_block.b .nil qK (qA (pv 1) qE))) (qB (j8 (jV jF (pv 0) T.cl_Chip T.m_Chip_check_deed (zI T S).mono hr S.Chip_check_deed.b .nil (qA (pv 1) qE))) (qB (qV (i:=2) vS.nd rfl (Or.inl rfl) (qCR (qY (pv 0) T.cl_Chip T.m_Chip_is_spent (q0H T S).mono hr S.Chip_is_spent.b .nil qK (qA (pv 1) qE)) (q1C (uC qB0 (qS jB (qJ (pv 0) rfl) (pv 1) (λ_ _=>rfl)) (qJ (pv 0) rfl) (qT _))))) (qB (j8 (qY (pv 0) T.cl_Chip T.m_Chip_do_deed (q18 T S).mono hr S.Chip_do_deed.b .nil qK (qA q1A (qA (pv 1) (qA (pv 1) (qA (pv 2) qE)))))) (qB (qV (i:=3) vS.nd rfl (Or.inl rfl) (qM yS (pv 1) (qJ (pv 0) rfl))) (qB (uO wS rfl (q41 rfl T.b_range (qA (pv 3) (qA (qM yC (pv 3) (qJ (pv 0) rfl)) qE))) (qX (i:=4) vS.nd rfl (Or.inl rfl)) (qC (q2Z vJ (q40 (qJ (pv 0) rfl) (pv 4) yU)))) (qC (q3L (qJ (pv 0) rfl) (pv 1) q1G qG q5D yU)))))))),?_⟩
  try dsimp-beta-proj-iota-zeta-eta only[wishK,cxK]
  have b0:(0:Int)≤b:=by omega
  have pg1:=ok.pg1
  have pg2:=ok.pg2
  have bl1:=ok.bl2
  have nbo:=ok.nbo
  have ncl:=ok.ncl
  refine(iV rfl (iM hc.ins rfl ⟨_,rfl,c,a,m,b,rfl,hc,b0,b1,?_⟩))
  refine(iV rfl (iM hc.ins rfl ⟨_,rfl,c,a,m,b,rfl,hc,ok,g,b0,by omega,?_⟩))
  by_cases z:m.lf=some 0
  ·rw[kI z]
   exact dk z
  rw[kF z]
  have q:=q z
  refine(iV rfl (iM hc.ins rfl ⟨_,rfl,c,a,m,b,rfl,hc,g,_,rfl,iteF ?_⟩))
  refine(iV rfl (iF hc.ins T.cl_Chip T.na_Chip_clearings rfl ⟨_,rfl,iL (k:=b) (v:=_) (SqL.of hc.cl) (getI b0 (by omega)) (iV rfl (iF hc.ins T.cl_Chip T.na_Chip_most rfl (iI ?_)))⟩))
  show q2T 2 (V.bl (decide (m.mo≤m.cl.getD b 0))) _ _ _
  rw[kD (by omega)]
  refine(iV rfl (iM hc.ins rfl ⟨_,rfl,_,rfl,_,rfl,c,a,m,"wipe",b,b,rfl,hc,ok,hr1,b0,by omega,λH' hc' k'=>?_⟩))
  have bp:b*m.pg+m.pg≤m.bl*m.pg:=by
   have:=c8 (show(b:Int)+1≤m.bl by omega) (show 0≤m.pg by omega)
   rw[Int.add_mul,Int.one_mul]at this
   exact this
  have bq:0≤b*m.pg:=pU b0 (by omega)
  have bmax:m.bl*m.pg≤256:=by
   have:=Int.mul_le_mul bl1 pg2 (by omega) (by decide)
   omega
  refine⟨_,rfl,_,rfl,c,_,a.dx,_,.int m.pg,rfl,hc'.ins,T.cl_Chip,T.na_Chip_pages,rfl,iI ⟨.inl ⟨by omega,by omega⟩,?_⟩⟩
  refine⟨_,rfl,_,rfl,_,rfl,c,_,a.dx,_,.int m.pg,rfl,hc'.ins,T.cl_Chip,T.na_Chip_pages,rfl,iI ⟨_,_,rfl,⟨by omega,by omega,by omega,by omega⟩,?_⟩⟩
  refine q0A (λi σ' H1=>∃y,σ'=[some (.ref c),some (.int b),some (.bl false),some (.int (b*m.pg)),y]∧ChipAt t.C_Chip H1 c a { m.deed "wipe" b b false with bo:=clr m.bo (b*m.pg).toNat i }∧Keep (foot c a) H H1) ⟨_,rfl,hc',k'⟩ (λi σ' H1 hi hp=>?_) (λσ' H1 hp=>?_)
  ·obtain⟨y,rfl,h1,k1⟩:=hp
   have hi':(i:Int)<m.pg:=by
    have:i<(b*m.pg+m.pg-b*m.pg).toNat:=hi
    omega
   refine(iV rfl (iF h1.ins T.cl_Chip T.na_Chip_borne rfl ⟨_,rfl,a.bo,_,_,(b*m.pg+i).toNat,rfl,rfl,h1.bo,ixOk (by omega) (by rw[q52];omega),?_⟩))
   have e:(b*m.pg+(i:Int)).toNat=(b*m.pg).toNat+i:=by omega
   rw[e]
   exact⟨_,rfl,h1.setBo _,k1.trans (Keep.upd h1.bo (λ_ z=>by cases z) (by simp[foot]))⟩
  ·obtain⟨y,rfl,h1,k1⟩:=hp
   have e:(b*m.pg+m.pg-b*m.pg).toNat=m.pg.toNat:=by omega
   rw[e]at h1
   refine(iV rfl (iF h1.ins T.cl_Chip T.na_Chip_clearings rfl ⟨_,rfl,iL (k:=b) (v:=_) (SqL.of h1.cl) (getI b0 (by show(b:Int)<(m.cl.length:Int);omega)) (iI ⟨a.cl,_,b,b,rfl,rfl,h1.cl,by rw[h9];exact ixOk b0 (by show(b:Int)<(m.cl.length:Int);omega),?_⟩)⟩))
   rw[←List.map_set]
   exact q _ (h1.setCl _) (k1.trans (Keep.upd h1.cl (λ_ z=>by cases z) (by simp[foot])))
noncomputable def qKL(K:W.Frag):Sp:=λvs H Q E=>∃l bl,vs=[.ref l,.int bl]∧SqL K H l []∧NewO H (.dK []) Q
theorem q8F(T:Txt K mg t)(S:Fns K t):S.limits_of.Ok0 P w mg base 3 (qKL K):=by
 refine S.limits_of.F.ok0 vR λcdv A _ s H vs Q E hr h=>?_
 ·obtain⟨l,bl,rfl,sq,q⟩:=h
  refine⟨_,(qB (qV (i:=2) vR.nd rfl (Or.inl rfl) q93) (qB (uO g4 rfl (y8 (pv 0)) (qA4 rfl (uA (qX (i:=3) vR.nd rfl (Or.inl rfl)) (uA (qX (i:=4) vR.nd rfl (Or.inl rfl)) q4Y))) (qB jH (qB jH (qB jH (qC jH))))) (qC (qL (pv 2))))),?_⟩
  try dsimp-beta-proj-iota-zeta-eta only[wishK,cxK]
  refine λp np=>?_
  have s0:Same H (upd H p (.dK [])):=Same.upd np
  refine⟨_,rfl,l,rfl,⟨[],s0.seq sq⟩,uP (K:=K) (xs:=[]) (λ_ σ' H1=>(∃y z,σ'=[some (.ref l),some (.int bl),some (.ref p),y,z])∧H1=upd H p (.dK [])) ⟨⟨_,_,rfl⟩,rfl⟩ (λi σ' H1 _ hp=>by rw[hp.2];exact s0.seq sq) (λi x σ' H1 hx _=>by simp at hx) (λσ' H1 hp=>?_)⟩
  obtain⟨⟨y,z,rfl⟩,rfl⟩:=hp
  exact⟨_,rfl,q p _ np s0 qI⟩
structure Wm(C x dx:Addr)(H G:Hp)(fs:List (Str×V))(os:List (Addr×HO)):Prop where
 i:G x=some (.ins C dx fs)
 u:Up x H G
 o:∀p∈os,G p.1=some p.2∧H p.1=none∧p.1≠x
 n:(os.map (·.1)).Nodup
section
variable{C x dx:Addr}{H G B:Hp}{fs fs':List (Str×V)}{os:List (Addr×HO)}
theorem Wm.same(h:Wm C x dx H G fs os)(s:Same G B):Wm C x dx H B fs os:=⟨s _ _ h.i,λb o n e=>s _ _ (h.u b o n e),λp hp=>⟨s _ _ (h.o p hp).1,(h.o p hp).2⟩,h.n⟩
theorem Wm.add(h:Wm C x dx H G fs os){a:Addr}{o:HO}(na:G a=none)(s:Same G B)(e:B a=some o):Wm C x dx H B fs (os++[(a,o)]):=by
 have ax:a≠x:=λz=>by rw[z,h.i]at na;cases na
 have w:=h.same s
 refine⟨w.i,w.u,λp hp=>?_,?_⟩
 ·rcases gO.mp hp with hp|hp
  ·exact w.o p hp
  ·rw[hV.mp hp]
   exact⟨e,Up.free h.u ax na,ax⟩
 ·rw[m7]
  refine wR.mpr ⟨h.n,by simp,λb hb c hc=>?_⟩
  obtain⟨p,hp,rfl⟩:=kZ.mp hb
  obtain rfl:c=a:=by simpa using hc
  exact qH (h.o p hp).1 na
theorem Wm.set(h:Wm C x dx H G fs os):Wm C x dx H (upd G x (.ins C dx fs')) fs' os:=⟨qI,λb o n e=>by rw[qD n];exact h.u b o n e,λp hp=>⟨by rw[qD (h.o p hp).2.2];exact(h.o p hp).1,(h.o p hp).2⟩,h.n⟩
theorem Wm.fr(h:Wm C x dx H G fs os)(a:Addr)(ha:a∈os.map (·.1)):H a=none:=by
 obtain⟨p,hp,rfl⟩:=kZ.mp ha
 exact(h.o p hp).2.1
theorem Wm.put(h:Wm C x dx H G fs os)(f:Str)(v:V):Wm C x dx H (upd G x (.ins C dx (putF f v fs))) (putF f v fs) os:=h.set
end
noncomputable def spMk(t:Adr):Sp:=λvs H Q E=>∃x dx,∃b p m:Int,vs=[.ref x,.int b,.int p,.int m,.non]∧H x=some (.ins t.C_Chip dx [])∧2≤b∧b≤16∧1≤p∧p≤16∧0≤m∧m≤1000000∧
 ∀a H',ChipAt t.C_Chip H' x a (CM.new b p m [])→(∀b∈[a.li,a.bo,a.cl,a.dc,a.br,a.rc],H b=none)→Up x H H'→Q .non H'
theorem q8G(T:Txt K mg t)(S:Fns K t):FnOk P w K mg base (CX0) 4 t.f_Chip_init S.fd_Chip_init ["self","blocks","pages","most","ills"] (spMk t):=by
 refine S.F_Chip_init.ok0 q8A λcdv A _ s H vs Q E hr h=>?_
 ·obtain⟨x,dx,b,p,m,rfl,hx,b1,b2,p1,p2,m1,m2,q⟩:=h
  refine⟨_,(qB (jE (yX (yE (qW (q4M T S).mono hr rfl T.mg_is_shape T.kp_is_shape S.is_shape.b .nil qK (qA (pv 1) (qA (pv 2) qE))))) (qC jH) qQ) (qB (jE (yX (yE (qW (jL T S).mono hr rfl T.mg_is_within T.kp_is_within S.is_within.b .nil qK (qA (pv 3) (qA qG (qA (q2E rfl T.mg_MOST_TOLD ⟨_,rfl⟩ (v:=.int 1000000)) qE)))))) (qC jH) qQ) (qB (jN (pv 0) (pv 1) rfl) (qB (jN (pv 0) (pv 2) rfl) (qB (jN (pv 0) (pv 3) rfl) (qB (jN (pv 0) (qW (q8F T S).mono hr rfl T.mg_limits_of T.kp_limits_of S.limits_of.b .nil qK (qA (qCT (qR qA6 (pv 4) vJ (qT _)) (jX qE) (pv 4)) (qA (pv 1) qE))) rfl) (qB (jN (pv 0) (qM zM (jX (qA vJ qE)) (qM yS (pv 1) (pv 2))) rfl) (qB (jN (pv 0) (qM zM (jX (qA qG qE)) (pv 1)) rfl) (qB (jN (pv 0) (qM zM (jX (qA qG qE)) (pv 1)) rfl) (qB (jN (pv 0) (qM zM (jX (qA zK qE)) (pv 1)) rfl) (qB (jN (pv 0) vJ rfl) (qC (jN (pv 0) (jX qE) rfl))))))))))))),?_⟩
  try dsimp-beta-proj-iota-zeta-eta only[wishK,cxK]
  refine⟨_,rfl,_,rfl,.int b,.int p,rfl,.int b,.int p,_,rfl,?_⟩
  rw[inBi b1 b2,inBi p1 p2]
  refine iteF ?_
  refine⟨_,rfl,.int m,_,_,rfl,.int m,_,rfl,?_⟩
  rw[inBi m1 m2]
  refine iteF ?_
  have bp:b*p≤256:=Int.mul_le_mul b2 p2 (by omega) (by decide)
  have bp0:0≤b*p:=pU (by omega) (by omega)
  refine⟨_,rfl,_,rfl,x,_,dx,_,rfl,hx,T.cl_Chip,T.na_Chip_blocks,by simp,?_⟩
  have w1:Wm t.C_Chip x dx H (upd H x (.ins t.C_Chip dx (putF "blocks" (.int b) []))) (putF "blocks" (.int b) []) []:=⟨qI,Up.of (Same.refl H),by simp,by simp⟩
  refine⟨_,rfl,_,rfl,x,_,dx,_,rfl,w1.i,T.cl_Chip,T.na_Chip_pages,by show 1<1000;decide,?_⟩
  have w2:=w1.put "pages" (.int p)
  refine⟨_,rfl,_,rfl,x,_,dx,_,rfl,w2.i,T.cl_Chip,T.na_Chip_most,by show 2<1000;decide,?_⟩
  have w3:=w2.put "most" (.int m)
  refine⟨_,rfl,rfl,_,rfl,iteT ⟨sz0,λl0 H2 n0 s0 e0=>?_⟩⟩
  refine⟨_,rfl,l0,b,rfl,SqL.of e0,λli H3 n1 s1 e1=>?_⟩
  have w4:=(w3.same s0).add n1 s1 e1
  refine⟨_,rfl,x,_,dx,_,rfl,w4.i,T.cl_Chip,T.na_Chip_limits,by show 3<1000;decide,?_⟩
  have w4:=w4.put "limits" (.ref li)
  refine⟨sz1,λwa A1 n1 s1 e1=>⟨_,rfl,_,rfl,iI ⟨.inl ⟨by omega,by omega⟩,wa,_,_,rfl,rfl,e1,by omega,by omega,λbo B1 m1 r1 hbo=>?_⟩⟩⟩
  have w5:=(w4.same s1).add m1 r1 hbo
  refine⟨_,rfl,x,_,dx,_,rfl,w5.i,T.cl_Chip,T.na_Chip_borne,by show 4<1000;decide,?_⟩
  have w5:=w5.put "borne" (.ref bo)
  refine⟨sz1,λwa A2 n2 s2 e2=>⟨_,rfl,wa,_,_,rfl,rfl,e2,by omega,by omega,λcl B2 m2 r2 hcl=>?_⟩⟩
  have w6:=(w5.same s2).add m2 r2 hcl
  refine⟨_,rfl,x,_,dx,_,rfl,w6.i,T.cl_Chip,T.na_Chip_clearings,by show 5<1000;decide,?_⟩
  have w6:=w6.put "clearings" (.ref cl)
  refine⟨sz1,λwa A3 n3 s3 e3=>⟨_,rfl,wa,_,_,rfl,rfl,e3,by omega,by omega,λdc B3 m3 r3 hdc=>?_⟩⟩
  have w7:=(w6.same s3).add m3 r3 hdc
  refine⟨_,rfl,x,_,dx,_,rfl,w7.i,T.cl_Chip,T.na_Chip_deed_counts,by show 6<1000;decide,?_⟩
  have w7:=w7.put "deed_counts" (.ref dc)
  refine⟨sz1,λwa A4 n4 s4 e4=>⟨_,rfl,wa,_,_,rfl,rfl,e4,by omega,by omega,λbr B4 m4 r4 hbr=>?_⟩⟩
  have w8:=(w7.same s4).add m4 r4 hbr
  refine⟨_,rfl,x,_,dx,_,rfl,w8.i,T.cl_Chip,T.na_Chip_broken,by show 7<1000;decide,?_⟩
  have w8:=w8.put "broken" (.ref br)
  refine⟨_,rfl,x,_,dx,_,rfl,w8.i,T.cl_Chip,T.na_Chip_deeds_left,by show 8<1000;decide,?_⟩
  have w9:=w8.put "deeds_left" .non
  refine⟨sz0,λrc B5 m5 r5 hrc=>?_⟩
  have w:=w9.add m5 r5 hrc
  refine⟨_,rfl,x,_,dx,_,rfl,w.i,T.cl_Chip,T.na_Chip_record,by show 9<1000;decide,?_⟩
  have w:=w.set (fs':=chF ⟨dx,li,bo,cl,dc,br,rc⟩ (CM.new b p m []))
  refine q ⟨dx,li,bo,cl,dc,br,rc⟩ _ ⟨w.i,(w.o (li,.dK []) (by simp)).1,(w.o (bo,.lst (List.replicate (b*p).toNat .non)) (by simp)).1,?_,?_,?_,⟨[],(w.o (rc,.lst []) (by simp)).1,.nil⟩,(m9.mp (show(li::[bo,cl,dc,br,rc]).Nodup from w.n)).2⟩ (λb' hb'=>w.fr b' hb') w.u
  ·show _=some (HO.lst ((List.replicate b.toNat (0:Int)).map V.int))
   rw[wG]
   exact(w.o (cl,.lst (List.replicate b.toNat (.int 0))) (by simp)).1
  ·show _=some (HO.lst ((List.replicate b.toNat (0:Int)).map V.int))
   rw[wG]
   exact(w.o (dc,.lst (List.replicate b.toNat (.int 0))) (by simp)).1
  ·show _=some (HO.lst ((List.replicate b.toNat false).map V.bl))
   rw[wG]
   exact(w.o (br,.lst (List.replicate b.toNat (.bl false))) (by simp)).1
theorem jR(T:Txt K mg t)(S:Fns K t):S.law_cell_at.Ok0 P w mg base 1 (qIJ K):=by
 refine S.law_cell_at.F.ok0 q61 λcdv A _ s H vs Q E hr h=>?_
 ·obtain⟨a,ns,k,rfl,hS,h0,q⟩:=h
  refine⟨_,(qB (jE (qR q3M (pv 1) (jA qZ (by rfl) T.b_len gH (qA (pv 0) qE)) (qT _)) (qC (qL (qS jB (pv 0) (pv 1) (λ_ _=>rfl)))) qQ) (qC (qL qG))),?_⟩
  try dsimp-beta-proj-iota-zeta-eta only[wishK,cxK]
  refine⟨_,rfl,_,rfl,a,_,rfl,.inl hS,_,_,rfl,rfl,_,rfl,?_⟩
  rw[h9]
  by_cases h1:k<(ns.length:Int)
  ·rw[hG h1]
   refine iteT ?_
   exact⟨_,rfl,_,rfl,a,_,k,_,rfl,rfl,hS,qCB h0 h1,q⟩
  ·rw[kD h1]
   refine iteF ?_
   have e:=qAC h0 h1
   rw[e]at q
   exact q
theorem qKM{H:Hp}{bl pg mo:Int}{Q:Addr→Hp→Prop}{E:XK}(b1:2≤bl)(b2:bl≤16)(p1:1≤pg)(p2:pg≤16)(m1:0≤mo)(m2:mo≤1000000)
 (q:∀x a H',ChipAt t.C_Chip H' x a (CM.new bl pg mo [])→Same H H'→(∀b∈a.li::foot x a,H b=none)→Q x H') (x dx:Addr) (nx:H x=none) (ndx:H dx=none) (ne:dx≠x):
 spMk t [.ref x,.int bl,.int pg,.int mo,.non] (upd (upd H dx (.own x)) x (.ins t.C_Chip dx [])) (λv H2=>v=.non∧Q x H2) E:=by
 have s0:Same H (upd (upd H dx (.own x)) x (.ins t.C_Chip dx [])):=λb o e=>by rw[qD (qH e nx),qD (qH e ndx)];exact e
 refine⟨x,dx,bl,pg,mo,rfl,qI,b1,b2,p1,p2,m1,m2,λa H' hc fr u=>⟨rfl,q x a H' hc (λb o e=>u b o (qH e nx) (s0 b o e)) λb hb=>?_⟩⟩
 have hb:b=x∨b∈[a.li,a.bo,a.cl,a.dc,a.br,a.rc]:=by
  simp[foot]at hb ⊢
  rcases hb with rfl|rfl|rfl|rfl|rfl|rfl|rfl<;>simp
 rcases hb with rfl|hb
 ·exact nx
 ·exact s0.free (fr _ hb)
noncomputable def qKN(t:Adr):Sp:=λvs H Q E=>∃x dx fs b e,vs=[.ref x]∧H x=some (.ins t.C_Terms dx fs)∧fs.lookup (Str.ofString "blocks")=some (.int b)∧fs.lookup (Str.ofString "ill")=some (.int e)∧Q (.int (b-1-e)) H
theorem q4W(T:Txt K mg t)(S:Fns K t):S.Terms_closed.Ok0 P w mg base 1 (qKN t):=by
 refine S.Terms_closed.F.ok0 q4U λcdv A _ s H vs Q E hr h=>?_
 ·obtain⟨x,dx,fs,b,e,rfl,hx,l1,l2,q⟩:=h
  refine⟨_,(qC (qL (qM y9 (qM y9 (qJ (pv 0) rfl) qG) (qJ (pv 0) rfl)))),?_⟩
  try dsimp-beta-proj-iota-zeta-eta only[wishK,cxK]
  exact(iV rfl (iF hx T.cl_Terms T.na_Terms_blocks l1 (iI (iV rfl (iF hx T.cl_Terms T.na_Terms_ill l2 (iI q))))))
noncomputable def teF(r0 r1 r2 r3 r4 r5:V):List (Str×V):=[("blocks",r0),("pages",r1),("sheets",r2),("share",r3),("ill",r4),("spread",r5)]
noncomputable def spTm(t:Adr):Sp:=λvs H Q E=>∃x dx,∃b p s r e d:Int,vs=[.ref x,.int b,.int p,.int s,.int r,.int e,.int d]∧H x=some (.ins t.C_Terms dx [])∧2≤b∧b≤16∧1≤p∧p≤16∧1≤s∧s≤64∧1≤r∧r≤(b-1-e)*p-2∧0≤e∧e≤b-2∧1≤d∧d≤1000000∧
 ∀H',H' x=some (.ins t.C_Terms dx (teF (.int b) (.int p) (.int s) (.int r) (.int e) (.int d)))→Up x H H'→Q .non H'
theorem q6P(T:Txt K mg t)(S:Fns K t):FnOk P w K mg base (CX0) 4 t.f_Terms_init S.fd_Terms_init ["self","blocks","pages","sheets","share","ill","spread"] (spTm t):=by
 refine S.F_Terms_init.ok0 q6O λcdv A _ s H vs Q E hr h=>?_
 ·obtain⟨x,dx,b,p,s',r,e,d,rfl,hx,b1,b2,p1,p2,s1,s2,r1,r2,e1,e2,d1,d2,q⟩:=h
  refine⟨_,(qB (jE (yX (yE (qW (q4M T S).mono hr rfl T.mg_is_shape T.kp_is_shape S.is_shape.b .nil qK (qA (pv 1) (qA (pv 2) qE))))) (qC jH) qQ) (qB (jE (yX (yE (qW (jL T S).mono hr rfl T.mg_is_within T.kp_is_within S.is_within.b .nil qK (qA (pv 3) (qA qG (qA qG qE)))))) (qC jH) qQ) (qB (jE (yX (yE (qW (jL T S).mono hr rfl T.mg_is_within T.kp_is_within S.is_within.b .nil qK (qA (pv 5) (qA qG (qA (qM y9 (pv 1) qG) qE)))))) (qC jH) qQ) (qB (jE (yX (yE (qW (jL T S).mono hr rfl T.mg_is_within T.kp_is_within S.is_within.b .nil qK (qA (pv 6) (qA qG (qA (q2E rfl T.mg_MOST_TOLD ⟨_,rfl⟩ (v:=.int 1000000)) qE)))))) (qC jH) qQ) (qB (jN (pv 0) (pv 1) rfl) (qB (jN (pv 0) (pv 2) rfl) (qB (jN (pv 0) (pv 3) rfl) (qB (jN (pv 0) (pv 4) rfl) (qB (jN (pv 0) (pv 5) rfl) (qB (jN (pv 0) (pv 6) rfl) (qC (jE (yX (yE (qW (jL T S).mono hr rfl T.mg_is_within T.kp_is_within S.is_within.b .nil qK (qA (pv 4) (qA qG (qA (qM y9 (qM yS (j9 (pv 0) T.cl_Terms T.m_Terms_closed (q4W T S).mono hr S.Terms_closed.b .nil qK) (pv 2)) qG) qE)))))) (qC jH) qQ)))))))))))),?_⟩
  try dsimp-beta-proj-iota-zeta-eta only[wishK,cxK]
  refine⟨_,rfl,_,rfl,.int b,.int p,rfl,.int b,.int p,_,rfl,?_⟩
  rw[inBi b1 b2,inBi p1 p2]
  refine iteF ⟨_,rfl,.int s',_,_,rfl,.int s',_,rfl,?_⟩
  rw[inBi s1 s2]
  refine iteF ⟨_,rfl,_,rfl,iI ⟨.int e,_,_,rfl,.int e,_,rfl,?_⟩⟩
  rw[inBi e1 e2]
  refine iteF ⟨_,rfl,.int d,_,_,rfl,.int d,_,rfl,?_⟩
  rw[inBi d1 d2]
  refine iteF ⟨_,rfl,_,rfl,x,_,dx,_,rfl,hx,T.cl_Terms,T.na_Terms_blocks,by simp,?_⟩
  have w1:Wm t.C_Terms x dx H (upd H x (.ins t.C_Terms dx (putF "blocks" (.int b) []))) (putF "blocks" (.int b) []) []:=⟨qI,Up.of (Same.refl H),by simp,by simp⟩
  refine⟨_,rfl,_,rfl,x,_,dx,_,rfl,w1.i,T.cl_Terms,T.na_Terms_pages,by show 1<1000;decide,?_⟩
  have w2:=w1.put "pages" (.int p)
  refine⟨_,rfl,_,rfl,x,_,dx,_,rfl,w2.i,T.cl_Terms,T.na_Terms_sheets,by show 2<1000;decide,?_⟩
  have w3:=w2.put "sheets" (.int s')
  refine⟨_,rfl,_,rfl,x,_,dx,_,rfl,w3.i,T.cl_Terms,T.na_Terms_share,by show 3<1000;decide,?_⟩
  have w4:=w3.put "share" (.int r)
  refine⟨_,rfl,_,rfl,x,_,dx,_,rfl,w4.i,T.cl_Terms,T.na_Terms_ill,by show 4<1000;decide,?_⟩
  have w5:=w4.put "ill" (.int e)
  refine⟨_,rfl,_,rfl,x,_,dx,_,rfl,w5.i,T.cl_Terms,T.na_Terms_spread,by show 5<1000;decide,?_⟩
  have w:=w5.put "spread" (.int d)
  refine⟨_,rfl,_,rfl,x,dx,_,rfl,w.i,rfl,x,dx,_,b,e,rfl,w.i,rfl,rfl,_,rfl,iI ⟨.inr ⟨by omega,by omega⟩,iI ⟨.int r,_,_,rfl,.int r,_,rfl,?_⟩⟩⟩
  rw[inBi r1 r2]
  exact iteF (q _ w.i w.u)
theorem qKO{H:Hp}{b p s r e d:Int}{Q:Addr→Hp→Prop}{E:XK}(b1:2≤b)(b2:b≤16)(p1:1≤p)(p2:p≤16)(s1:1≤s)(s2:s≤64)(r1:1≤r)(r2:r≤(b-1-e)*p-2)(e1:0≤e)(e2:e≤b-2)(d1:1≤d)(d2:d≤1000000)
 (q:∀x dx H',Same H H'→H' x=some (.ins t.C_Terms dx (teF (.int b) (.int p) (.int s) (.int r) (.int e) (.int d)))→Q x H') (x dx:Addr) (nx:H x=none) (ndx:H dx=none) (ne:dx≠x):
 spTm t [.ref x,.int b,.int p,.int s,.int r,.int e,.int d] (upd (upd H dx (.own x)) x (.ins t.C_Terms dx [])) (λv H2=>v=.non∧Q x H2) E:=by
 have s0:Same H (upd (upd H dx (.own x)) x (.ins t.C_Terms dx [])):=λb o e=>by rw[qD (qH e nx),qD (qH e ndx)];exact e
 exact⟨x,dx,b,p,s,r,e,d,rfl,qI,b1,b2,p1,p2,s1,s2,r1,r2,e1,e2,d1,d2,λH' h u=>⟨rfl,q x dx H' (λb o e=>u b o (qH e nx) (s0 b o e)) h⟩⟩
noncomputable def qKP:Sp:=λvs H Q _=>∃s n,vs=[.int s,.int n]∧Q (.int (s*128+n)) H
theorem qAS(T:Txt K mg t)(S:Fns K t):S.mark_of.Ok0 P w mg base 1 qKP:=by
 refine S.mark_of.F.ok0 qAR λcdv A _ s H vs Q E hr h=>?_
 ·obtain⟨s',n,rfl,q⟩:=h
  refine⟨_,(qC (qL (qM yC (qM yS (pv 0) (q2E rfl T.mg_NAMES ⟨_,rfl⟩ (v:=.int 128))) (pv 1)))),?_⟩
  try dsimp-beta-proj-iota-zeta-eta only[wishK,cxK]
  exact⟨_,rfl,iI ⟨.inr ⟨by decide,by decide⟩,_,rfl,iI q⟩⟩
structure BkA where
 bk:Addr
 dx:Addr
 wv:Addr
 lv:Addr
 fi:Addr
 bo:Addr
structure BkAt(t:Adr)(H:Hp)(a:BkA)(m:QM):Prop where
 o:H a.bk=some (.ins t.C_Book a.dx [("blocks",.int (m.B:Int)),("pages",.int (m.P:Int)),("stamp",.int m.nx),("where",.ref a.wv),("live",.ref a.lv),("filled",.ref a.fi),("born",.ref a.bo)])
 w:H a.wv=some (.dK (dI m.V))
 l:H a.lv=some (.lst (m.lv.map V.int))
 f:H a.fi=some (.lst (m.fi.map V.int))
 b:H a.bo=some (.lst (m.bo.map V.int))
structure Dst(a:BkA):Prop where
 lf:a.lv≠a.fi
 lb:a.lv≠a.bo
 fb:a.fi≠a.bo
theorem BkAt.same{t:Adr}{H H':Hp}{a:BkA}{m:QM}(h:BkAt t H a m)(s:Same H H'):BkAt t H' a m:=⟨s _ _ h.o,s _ _ h.w,s _ _ h.l,s _ _ h.f,s _ _ h.b⟩
theorem BkAt.keep{t:Adr}{H H':Hp}{a:BkA}{m:QM}{F:List Addr}(h:BkAt t H a m)(k:Keep F H H')(n:∀b∈[a.bk,a.wv,a.lv,a.fi,a.bo],b∉F):BkAt t H' a m:=
 ⟨k.k _ _ (n _ (by simp)) h.o,k.k _ _ (n _ (by simp)) h.w,k.k _ _ (n _ (by simp)) h.l,k.k _ _ (n _ (by simp)) h.f,k.k _ _ (n _ (by simp)) h.b⟩
noncomputable def bk0(B P:Nat):QM:=⟨P,B,1,[],List.replicate B 0,List.replicate B 0,List.replicate B 0⟩
noncomputable def qKQ(t:Adr):Sp:=λvs H Q _=>∃x dx B P,vs=[.ref x,.int (B:Nat),.int (P:Nat)]∧B≤16∧H x=some (.ins t.C_Book dx [])∧
 ∀(a:BkA) H',a.bk=x→a.dx=dx→BkAt t H' a (bk0 B P)→Dst a→(∀b∈[a.wv,a.lv,a.fi,a.bo],H b=none)→(∀b o,b≠x→H b=some o→H' b=some o)→Q .non H'
theorem q8H(T:Txt K mg t)(S:Fns K t):S.Book_init.Ok0 P w mg base 1 (qKQ t):=by
 refine S.Book_init.F.ok0 q86 λcdv A _ s H vs Q E hr h=>?_
 ·obtain⟨x,dx,B,P,rfl,hB,hx,q⟩:=h
  refine⟨_,(qB (jN (pv 0) (pv 1) rfl) (qB (jN (pv 0) (pv 2) rfl) (qB (jN (pv 0) qG rfl) (qB (jN (pv 0) q93 rfl) (qB (jN (pv 0) (qM zM (jX (qA qG qE)) (pv 1)) rfl) (qB (jN (pv 0) (qM zM (jX (qA qG qE)) (pv 1)) rfl) (qC (jN (pv 0) (qM zM (jX (qA qG qE)) (pv 1)) rfl)))))))),?_⟩
  try dsimp-beta-proj-iota-zeta-eta only[wishK,cxK]
  refine⟨_,rfl,_,rfl,x,_,dx,_,rfl,hx,T.cl_Book,T.na_Book_blocks,by decide,?_⟩
  refine⟨_,rfl,_,rfl,x,_,dx,_,rfl,qI,T.cl_Book,T.na_Book_pages,by show 1<1000;decide,?_⟩
  refine⟨_,rfl,x,_,dx,_,rfl,qI,T.cl_Book,T.na_Book_stamp,by show 2<1000;decide,?_⟩
  rw[q7I,q7I]
  have w1:Wm t.C_Book x dx H (upd H x (.ins t.C_Book dx (putF "stamp" (.int 1) (putF "pages" (.int (P:Int)) (putF "blocks" (.int (B:Int)) []))))) (putF "stamp" (.int 1) (putF "pages" (.int (P:Int)) (putF "blocks" (.int (B:Int)) []))) []:=⟨qI,Up.of (Same.refl H),by simp,by simp⟩
  have rep:∀n:Nat,List.replicate n (V.int 0)=(List.replicate n (0:Int)).map V.int:=λn=>by rw[wG]
  have eB:((B:Int)).toNat=B:=by omega
  refine λwv nwv=>?_
  have w2:=w1.add nwv (Same.upd (o:=.dK []) nwv) qI
  refine⟨_,rfl,x,_,dx,_,rfl,w2.i,T.cl_Book,T.na_Book_where,by show 3<1000;decide,?_⟩
  have w2:=w2.put "where" (.ref wv)
  refine⟨sz1,λwa A3 n3 s3 e3=>⟨_,rfl,wa,_,_,rfl,rfl,e3,by omega,by omega,λlv B3 m3 r3 hlv=>?_⟩⟩
  rw[eB,rep]at hlv
  have w3:=(w2.same s3).add m3 r3 hlv
  refine⟨_,rfl,x,_,dx,_,rfl,w3.i,T.cl_Book,T.na_Book_live,by show 4<1000;decide,?_⟩
  have w3:=w3.put "live" (.ref lv)
  refine⟨sz1,λwa A4 n4 s4 e4=>⟨_,rfl,wa,_,_,rfl,rfl,e4,by omega,by omega,λfi B4 m4 r4 hfi=>?_⟩⟩
  rw[eB,rep]at hfi
  have w4:=(w3.same s4).add m4 r4 hfi
  refine⟨_,rfl,x,_,dx,_,rfl,w4.i,T.cl_Book,T.na_Book_filled,by show 5<1000;decide,?_⟩
  have w4:=w4.put "filled" (.ref fi)
  refine⟨sz1,λwa A5 n5 s5 e5=>⟨_,rfl,wa,_,_,rfl,rfl,e5,by omega,by omega,λbo B5 m5 r5 hbo=>?_⟩⟩
  rw[eB,rep]at hbo
  have w5:=(w4.same s5).add m5 r5 hbo
  refine⟨_,rfl,x,_,dx,_,rfl,w5.i,T.cl_Book,T.na_Book_born,by show 6<1000;decide,?_⟩
  have w5:=w5.put "born" (.ref bo)
  have nd:[wv,lv,fi,bo].Nodup:=w5.n
  simp only[m9,kL,gY,not_or,cC]at nd
  exact q ⟨x,dx,wv,lv,fi,bo⟩ _ rfl rfl ⟨w5.i,(w5.o (wv,.dK []) (by simp)).1,(w5.o (lv,.lst ((List.replicate B (0:Int)).map V.int)) (by simp)).1,(w5.o (fi,.lst ((List.replicate B (0:Int)).map V.int)) (by simp)).1,(w5.o (bo,.lst ((List.replicate B (0:Int)).map V.int)) (by simp)).1⟩ ⟨nd.2.1.1,nd.2.1.2,nd.2.2.1⟩ (λb' hb'=>w5.fr b' hb') w5.u
noncomputable def qJC(t:Adr):Sp:=λvs H Q _=>∃a,∃m:QM,∃n,vs=[.ref a.bk,.int n]∧BkAt t H a m∧Q (.int (m.nx*128+n)) H
theorem q8I(T:Txt K mg t)(S:Fns K t):S.Book_mark.Ok0 P w mg base 2 (qJC t):=by
 refine S.Book_mark.F.ok0 q87 λcdv A _ s H vs Q E hr h=>?_
 ·obtain⟨a,m,n,rfl,hb,q⟩:=h
  refine⟨_,(qC (qL (qW (qAS T S).mono hr rfl T.mg_mark_of T.kp_mark_of S.mark_of.b .nil qK (qA (qJ (pv 0) rfl) (qA (pv 1) qE))))),?_⟩
  try dsimp-beta-proj-iota-zeta-eta only[wishK,cxK]
  exact(iV rfl (iF hb.o T.cl_Book T.na_Book_stamp rfl ⟨_,rfl,_,_,rfl,q⟩))
noncomputable def spFg(t:Adr):Sp:=λvs H Q _=>∃a,∃m:QM,∃n,vs=[.ref a.bk,.int n]∧BkAt t H a m∧m.Ok∧Dst a∧∀H',BkAt t H' a (m.forget n)→Keep [a.wv,a.lv] H H'→Q .non H'
theorem q28(T:Txt K mg t)(S:Fns K t):S.Book_forget.Ok0 P w mg base 1 (spFg t):=by
 refine S.Book_forget.F.ok0 q1Z λcdv A _ s H vs Q E hr h=>?_
 ·obtain⟨a,m,n,rfl,hb,ok,ds,q⟩:=h
  have hu:=q79 hr
  have p1:=ok.p1
  have p2:=ok.p2
  have ob:a.bk≠a.wv:=jU hb.o hb.w (by intro z;cases z)
  have ol:a.bk≠a.lv:=jU hb.o hb.l (by intro z;cases z)
  have wl:a.wv≠a.lv:=jU hb.w hb.l (by intro z;cases z)
  have wf:a.fi≠a.wv:=jU hb.f hb.w (by intro z;cases z)
  have wb:a.bo≠a.wv:=jU hb.b hb.w (by intro z;cases z)
  refine⟨_,(qC (jE (qHM (qDE hu (pv 1) (qJ (pv 0) rfl))) (qB (qV (i:=2) q1Z.nd rfl (Or.inl rfl) (qDG (qJ (pv 0) rfl) (pv 1) ⟨rfl,rfl,rfl,rfl⟩)) (qC (q3L (qJ (pv 0) rfl) (qM uQ (pv 2) (qJ (pv 0) rfl)) q1G qG qHP yU))) qQ)),?_⟩
  try dsimp-beta-proj-iota-zeta-eta only[wishK,cxK]
  refine⟨_,rfl,iV rfl (iF hb.o T.cl_Book T.na_Book_where rfl ⟨a.wv,_,rfl,DGet.k (k:=Sum.inl n) hb.w,_,rfl,?_⟩)⟩
  rcases QM.find_V (m:=m) (n:=n)with⟨p,hp,ef⟩|⟨hn,ef⟩
  ·have hv:(n,p)∈m.V:=hp
   rw[q7Y ok.nd hv]
   refine iteT ?_
   refine(iV rfl (iF hb.o T.cl_Book T.na_Book_where rfl ⟨a.wv,rfl,.inl ⟨_,.inl hb.w⟩,_,rfl,_,Sum.inl n,_,hb.w,rfl,q7Y ok.nd hv,?_⟩))
   rw[qE4]
   have k1:Keep [a.wv,a.lv] H (upd H a.wv (.dK (dI (jJ m.V n)))):=Keep.upd hb.w (λ_ z=>by cases z) (by simp)
   have w1:(upd H a.wv (.dK (dI (jJ m.V n)))) a.wv=some (.dK (dI (jJ m.V n))):=qI
   have u1:∀b o,b≠a.wv→H b=some o→(upd H a.wv (.dK (dI (jJ m.V n)))) b=some o:=λb o nb e=>by
    rw[qD nb]
    exact e
   generalize upd H a.wv (.dK (dI (jJ m.V n)))=H1 at k1 w1 u1 ⊢
   obtain⟨c,hc,ec⟩:=ok.blk _ hp
   have ec:p / (m.P:Int)=(c:Int):=ec
   have hcl:c<m.lv.length:=by rw[ok.ll];exact hc
   have l1:=u1 _ _ wl.symm hb.l
   refine(iV rfl (iF (u1 _ _ ob hb.o) T.cl_Book T.na_Book_live rfl ⟨_,rfl,iV rfl (iF (u1 _ _ ob hb.o) T.cl_Book T.na_Book_pages rfl (iI ⟨⟨by omega,by omega⟩,iL (k:=_) (v:=_) (SqL.of l1) (by rw[ec];exact atV hcl) (iI ⟨a.lv,_,_,c,rfl,rfl,l1,(by rw[ec];exact q32 (by rw[h9];exact hcl)),?_⟩)⟩))⟩))
   rw[setV]
   have el:(m.forget n).lv=m.lv.set c (m.lv.getD c 0-1):=by
    show BM.lvF m.P m.V m.lv n=_
    unfold BM.lvF
    rw[ef]
    show m.lv.set (p / (m.P:Int)).toNat (m.lv.getD (p / (m.P:Int)).toNat 0-1)=_
    rw[ec,show((c:Int)).toNat=c by omega]
   refine q _ ⟨?_,?_,?_,?_,?_⟩ (k1.trans (Keep.upd l1 (λ_ z=>by cases z) (by simp)))
   ·rw[qD ol]
    exact u1 _ _ ob hb.o
   ·rw[qD wl]
    exact w1
   ·rw[el]
    exact qI
   ·rw[qD ds.lf.symm]
    exact u1 _ _ wf hb.f
   ·rw[qD ds.lb.symm]
    exact u1 _ _ wb hb.b
  ·rw[q5R (λz=>by
    obtain⟨r,hr',e⟩:=kZ.mp z
    exact hn r hr' e)]
   refine iteF ?_
   have el:(m.forget n).lv=m.lv:=by
    show BM.lvF m.P m.V m.lv n=_
    unfold BM.lvF
    rw[ef]
   have eV:(m.forget n).V=m.V:=qG1 λr hr'=>hn r hr'
   exact q H ⟨hb.o,by rw[eV];exact hb.w,by rw[el];exact hb.l,hb.f,hb.b⟩ Keep.refl
theorem q63{V:Mp}:(dI V).length=V.length:=by unfold dI;rw[h9]
noncomputable def spNt(t:Adr):Sp:=λvs H Q _=>∃a,∃m:QM,∃b f n,vs=[.ref a.bk,.int ((b*m.P+f:Nat):Int),.int n]∧BkAt t H a m∧m.Ok∧Dst a∧b<m.B∧f<m.P∧m.fi.getD b 0=(f:Int)∧∀H',BkAt t H' a (m.put b f n)→Keep [a.bk,a.wv,a.lv,a.fi,a.bo] H H'→Q .non H'
theorem q8J(T:Txt K mg t)(S:Fns K t):S.Book_note.Ok0 P w mg base 2 (spNt t):=by
 refine S.Book_note.F.ok0 q3X λcdv A _ s H vs Q E hr h=>?_
 ·obtain⟨a,m,b,f,n,rfl,hb,ok,ds,hB,hf,ef,q⟩:=h
  have hu:=q79 hr
  have p1:=ok.p1
  have p2:=ok.p2
  have ob:a.bk≠a.wv:=jU hb.o hb.w (by intro z;cases z)
  have ol:a.bk≠a.lv:=jU hb.o hb.l (by intro z;cases z)
  have of':a.bk≠a.fi:=jU hb.o hb.f (by intro z;cases z)
  have oo:a.bk≠a.bo:=jU hb.o hb.b (by intro z;cases z)
  have wl:a.wv≠a.lv:=jU hb.w hb.l (by intro z;cases z)
  have wf:a.fi≠a.wv:=jU hb.f hb.w (by intro z;cases z)
  have wb:a.bo≠a.wv:=jU hb.b hb.w (by intro z;cases z)
  have eb:((b*m.P+f:Nat):Int) / (m.P:Int)=(b:Int):=by rw[←g5,yD hf]
  refine⟨_,(qB (qV (i:=3) q3X.nd rfl (Or.inl rfl) (qM uQ (pv 1) (qJ (pv 0) rfl))) (qB (j8 (qY (pv 0) T.cl_Book T.m_Book_forget (q28 T S).mono hr S.Book_forget.b .nil qK (qA (pv 2) qE))) (qB (qFI hu (qJ (pv 0) rfl) (pv 2) (pv 1) rfl) (qB (q3L (qJ (pv 0) rfl) (pv 3) q1G qG q5D yU) (q2F (jE (qR vV (qS jB (qJ (pv 0) rfl) (pv 3) (λ_ _=>rfl)) qG (qT _)) (qC (q2Z (qJ (pv 0) rfl) (q40 (qJ (pv 0) rfl) (pv 3) yU))) qQ) (qB (q3L (qJ (pv 0) rfl) (pv 3) q1G qG q5D yU) (qC (q6Z (pv 0) qG qHT)))))))),?_⟩
  try dsimp-beta-proj-iota-zeta-eta only[wishK,cxK]
  refine⟨_,rfl,iV rfl (iF hb.o T.cl_Book T.na_Book_pages rfl (iI ⟨⟨by omega,by omega⟩,?_⟩))⟩
  try dsimp only
  rw[eb]
  refine(iV rfl (iM hb.o rfl ⟨_,rfl,a,m,n,rfl,hb,ok,ds,λH1 hb1 k1=>?_⟩))
  have k1:Keep [a.bk,a.wv,a.lv,a.fi,a.bo] H H1:=k1.mono (by intro x hx;simp at hx ⊢;rcases hx with rfl|rfl<;>simp)
  have lnV:(jJ m.V n).length≤65:=mF (mE _ _) ok.lenV
  have w0:H1 a.wv=some (.dK (dI (jJ m.V n))):=hb1.w
  refine⟨_,rfl,_,rfl,a.bk,_,a.dx,_,_,rfl,hb1.o,T.cl_Book,T.na_Book_where,rfl,_,rfl,a.wv,_,rfl,.inl ⟨_,Sum.inl n,w0,rfl,(by rw[q63];have:(65:Nat)<sizeLine:=by decide
                                                                                                                           omega),rfl⟩,?_⟩
  rw[qG2,qCH]
  have k2:Keep [a.bk,a.wv,a.lv,a.fi,a.bo] H1 (upd H1 a.wv (.dK (dI (jJ m.V n++[(n,((b*m.P+f:Nat):Int))])))):=Keep.upd w0 (λ_ z=>by cases z) (by simp)
  have w2:(upd H1 a.wv (.dK (dI (jJ m.V n++[(n,((b*m.P+f:Nat):Int))])))) a.wv=some (.dK (dI (jJ m.V n++[(n,((b*m.P+f:Nat):Int))]))):=qI
  have u2:∀x o,x≠a.wv→H1 x=some o→(upd H1 a.wv (.dK (dI (jJ m.V n++[(n,((b*m.P+f:Nat):Int))])))) x=some o:=λx o nb e=>by
   rw[qD nb]
   exact e
  generalize upd H1 a.wv (.dK (dI (jJ m.V n++[(n,((b*m.P+f:Nat):Int))])))=H2 at k2 w2 u2 ⊢
  have o2:=u2 _ _ ob hb1.o
  have l2:H2 a.lv=some (.lst ((BM.lvF m.P m.V m.lv n).map V.int)):=u2 _ _ wl.symm hb1.l
  have f2:H2 a.fi=some (.lst (m.fi.map V.int)):=u2 _ _ wf hb1.f
  have b2:H2 a.bo=some (.lst (m.bo.map V.int)):=u2 _ _ wb hb1.b
  have hbl:b<(BM.lvF m.P m.V m.lv n).length:=by rw[show(BM.lvF m.P m.V m.lv n).length=m.B from(ok.forget n).ll];exact hB
  have hbf:b<m.fi.length:=by rw[ok.lf];exact hB
  have hbo:b<m.bo.length:=by rw[ok.lo];exact hB
  refine(iV rfl (iF o2 T.cl_Book T.na_Book_live rfl ⟨_,rfl,iL (k:=_) (v:=_) (SqL.of l2) (atV hbl) (iI ⟨a.lv,_,_,b,rfl,rfl,l2,q32 (by rw[h9];exact hbl),?_⟩)⟩))
  rw[setV]
  have k3:Keep [a.bk,a.wv,a.lv,a.fi,a.bo] H2 (upd H2 a.lv (.lst (((BM.lvF m.P m.V m.lv n).set b ((BM.lvF m.P m.V m.lv n).getD b 0+1)).map V.int))):=Keep.upd l2 (λ_ z=>by cases z) (by simp)
  have l3:(upd H2 a.lv (.lst (((BM.lvF m.P m.V m.lv n).set b ((BM.lvF m.P m.V m.lv n).getD b 0+1)).map V.int))) a.lv=some (.lst (((BM.lvF m.P m.V m.lv n).set b ((BM.lvF m.P m.V m.lv n).getD b 0+1)).map V.int)):=qI
  have u3:∀x o,x≠a.lv→H2 x=some o→(upd H2 a.lv (.lst (((BM.lvF m.P m.V m.lv n).set b ((BM.lvF m.P m.V m.lv n).getD b 0+1)).map V.int))) x=some o:=λx o nb e=>by
   rw[qD nb]
   exact e
  generalize upd H2 a.lv (.lst (((BM.lvF m.P m.V m.lv n).set b ((BM.lvF m.P m.V m.lv n).getD b 0+1)).map V.int))=H3 at k3 l3 u3 ⊢
  have o3:=u3 _ _ ol o2
  have w3:=u3 _ _ wl w2
  have f3:=u3 _ _ ds.lf.symm f2
  have b3:=u3 _ _ ds.lb.symm b2
  refine⟨λσ' H'=>σ'=[some (.ref a.bk),some (.int ((b*m.P+f:Nat):Int)),some (.int n),some (.int (b:Int))]∧Keep [a.bk,a.wv,a.lv,a.fi,a.bo] H3 H'∧H' a.bo=some (.lst ((m.put b f n).bo.map V.int))∧∀x o,x≠a.bo→H3 x=some o→H' x=some o,?_,?_⟩
  ·refine(iV rfl (iF o3 T.cl_Book T.na_Book_filled rfl ⟨_,rfl,iL (k:=_) (v:=_) (SqL.of f3) (atV hbf) ⟨rfl,_,rfl,?_⟩⟩))
   rw[v7]
   by_cases z:m.fi.getD b 0=0
   ·rw[hG z]
    refine iteT ?_
    refine(iV rfl (iF o3 T.cl_Book T.na_Book_stamp rfl (iV rfl (iF o3 T.cl_Book T.na_Book_born rfl ⟨_,rfl,a.bo,_,_,b,rfl,rfl,b3,q32 (by rw[h9];exact hbo),?_⟩))))
    rw[setV]
    refine⟨rfl,Keep.upd b3 (λ_ z=>by cases z) (by simp),?_,λx o nb e=>by rw[qD nb];exact e⟩
    rw[qI]
    show _=some (HO.lst ((if m.fi.getD b 0=0 then m.bo.set b m.nx else m.bo).map V.int))
    rw[kI z]
    rfl
   ·rw[kD z]
    refine iteF ⟨rfl,Keep.refl,?_,λx o _ e=>e⟩
    show _=some (HO.lst ((if m.fi.getD b 0=0 then m.bo.set b m.nx else m.bo).map V.int))
    rw[kF z]
    exact b3
  rintro σ' H4 ⟨rfl,k4,b4,u4⟩
  have o4:=u4 _ _ oo o3
  have w4:=u4 _ _ wb.symm w3
  have l4:=u4 _ _ ds.lb l3
  have f4:=u4 _ _ ds.fb f3
  refine(iV rfl (iF o4 T.cl_Book T.na_Book_filled rfl ⟨_,rfl,iL (k:=_) (v:=_) (SqL.of f4) (atV hbf) (iI ⟨a.fi,_,_,b,rfl,rfl,f4,q32 (by rw[h9];exact hbf),?_⟩)⟩))
  rw[setV]
  have k5:Keep [a.bk,a.wv,a.lv,a.fi,a.bo] H4 (upd H4 a.fi (.lst ((m.fi.set b (m.fi.getD b 0+1)).map V.int))):=Keep.upd f4 (λ_ z=>by cases z) (by simp)
  have f5:(upd H4 a.fi (.lst ((m.fi.set b (m.fi.getD b 0+1)).map V.int))) a.fi=some (.lst ((m.fi.set b (m.fi.getD b 0+1)).map V.int)):=qI
  have u5:∀x o,x≠a.fi→H4 x=some o→(upd H4 a.fi (.lst ((m.fi.set b (m.fi.getD b 0+1)).map V.int))) x=some o:=λx o nb e=>by
   rw[qD nb]
   exact e
  generalize upd H4 a.fi (.lst ((m.fi.set b (m.fi.getD b 0+1)).map V.int))=H5 at k5 f5 u5 ⊢
  have o5:=u5 _ _ of' o4
  refine⟨_,rfl,a.bk,_,a.dx,_,_,rfl,o5,T.cl_Book,T.na_Book_stamp,rfl,_,_,rfl,rfl,a.dx,_,o5,by show 7<1000;decide,?_⟩
  refine q _ ⟨?_,?_,?_,?_,?_⟩ ((((k1.trans k2).trans k3).trans k4).trans (k5.trans (Keep.upd o5 (λ_ z=>by cases z) (by simp))))
  ·exact qI
  ·rw[qD ob.symm]
   exact u5 _ _ wf.symm w4
  ·rw[qD ol.symm]
   exact u5 _ _ ds.lf l4
  ·rw[qD of'.symm]
   exact f5
  ·rw[qD oo.symm]
   exact u5 _ _ ds.fb.symm b4
noncomputable def lamE:Expr:=match((jP jQ).getLast?:Option Stmt)with
 |some (Stmt.Return (some (Expr.Call _ _ (k::_) _)) _)=>k.value
 |_=>Expr.Name "" ⟨0,0,0,0⟩
noncomputable abbrev lamA:Arguments:=match lamE with
 | .Lambda a _ _ _=>a
 |_=>yB jQ
noncomputable abbrev lamB:Expr:=match lamE with
 | .Lambda _ b _ _=>b
 |_=>lamE
noncomputable abbrev qEZ:Scope:=match lamE with
 | .Lambda _ _ s _=>s
 |_=>qF jQ
noncomputable abbrev lamP:Pos:=match lamE with
 | .Lambda _ _ _ p=>p
 |_=>⟨0,0,0,0⟩
noncomputable abbrev lamQ:Str:=(PyProof.Rows.envOfC "Plain.free" (qF jQ) 0 0 .none).qual++"<lambda>"
noncomputable abbrev q64(clos:List (Str×Addr))(pm ct:Value)(c:Addr):FuncData:=W.kla_fn "<lambda>" lamQ lamA lamB qEZ clos pm (.ref c) ct
noncomputable def tri(c:Addr):Array Value:=#[rawInt lamP.line,rawInt lamP.col,.ref c]
noncomputable def lbE:Expr:=match((jP qU).getLast?:Option Stmt)with
 |some (Stmt.Return (some (Expr.Subscript (Expr.Call _ _ (k::_) _) _ _)) _)=>k.value
 |_=>Expr.Name "" ⟨0,0,0,0⟩
noncomputable abbrev lbA:Arguments:=match lbE with
 | .Lambda a _ _ _=>a
 |_=>yB qU
noncomputable abbrev lbB:Expr:=match lbE with
 | .Lambda _ b _ _=>b
 |_=>lbE
noncomputable abbrev lbSc:Scope:=match lbE with
 | .Lambda _ _ s _=>s
 |_=>qF qU
noncomputable abbrev lbP:Pos:=match lbE with
 | .Lambda _ _ _ p=>p
 |_=>⟨0,0,0,0⟩
noncomputable abbrev lbQ:Str:=(PyProof.Rows.envOfC "Even.block_to_change" (qF qU) 0 0 .none).qual++"<lambda>"
noncomputable abbrev lbFd(pm ct:Value)(c:Addr):FuncData:=W.kla_fn "<lambda>" lbQ lbA lbB lbSc [] pm (.ref c) ct
noncomputable def triB(c:Addr):Array Value:=#[rawInt lbP.line,rawInt lbP.col,.ref c]
noncomputable def TbB(t:Adr)(H:Hp):Prop:=∃ps,H t.T_Even_block_to_change=some (.tbl ps)∧(ps=#[]∨∃c,ps=triB c∧H c=some (cdO c lbQ))
noncomputable def TbF(t:Adr)(H:Hp):Prop:=∃ps,H t.T_Plain_free=some (.tbl ps)∧(ps=#[]∨∃c,ps=tri c∧H c=some (cdO c lamQ))∧TbB t H
noncomputable def Tex(o:HO):Prop:=(∃ps,o=.tbl ps)∨∃p,o=.ext p
theorem TbB.gen{t:Adr}{H H':Hp}(h:TbB t H)(k:∀b o,Tex o→H b=some o→H' b=some o):TbB t H':=by
 obtain⟨ps,hT,h⟩:=h
 refine⟨ps,k _ _ (.inl ⟨_,rfl⟩) hT,?_⟩
 rcases h with h|⟨c,h,a⟩
 ·exact .inl h
 ·exact .inr ⟨c,h,k _ _ (.inr ⟨_,rfl⟩) a⟩
theorem TbF.gen{t:Adr}{H H':Hp}(h:TbF t H)(k:∀b o,Tex o→H b=some o→H' b=some o):TbF t H':=by
 obtain⟨ps,hT,h,hB⟩:=h
 refine⟨ps,k _ _ (.inl ⟨_,rfl⟩) hT,?_,hB.gen k⟩
 rcases h with h|⟨c,h,a⟩
 ·exact .inl h
 ·exact .inr ⟨c,h,k _ _ (.inr ⟨_,rfl⟩) a⟩
theorem TbF.same{t:Adr}{H H':Hp}(s:Same H H')(h:TbF t H):TbF t H':=h.gen λ_ _ _ e=>s _ _ e
theorem yO{H:Hp}{b c:Addr}{o o':HO}(x:Tex o)(e:H b=some o)(e':H c=some o')(n:¬Tex o'):b≠c:=λz=>by
 rw[z,e']at e
 exact n (by rw[kQ e];exact x)
theorem q2M{C d:Addr}{fs:List (Str×V)}:¬Tex (.ins C d fs):=λz=>by rcases z with⟨_,z⟩|⟨_,z⟩<;>cases z
theorem vE{xs:List V}:¬Tex (.lst xs):=λz=>by rcases z with⟨_,z⟩|⟨_,z⟩<;>cases z
structure Sto where
 s:Addr
 sd:Addr
 tm:Addr
 td:Addr
 c:Addr
 a:CA
 k:BkA
 ru:V
 pa:V
noncomputable def bf(k:BkA):List Addr:=[k.bk,k.wv,k.lv,k.fi,k.bo]
noncomputable def sf(x:Sto):List Addr:=foot x.c x.a++bf x.k
structure Fit(m:CM)(q:QM):Prop where
 ok:m.Ok
 oq:q.Ok
 eB:m.bl=(q.B:Int)
 eP:m.pg=(q.P:Int)
structure StAt(t:Adr)(H:Hp)(x:Sto)(r2 r3 r4 r5:V)(m:CM)(q:QM):Prop where
 o:H x.s=some (.ins t.C_Even x.sd [("chip",.ref x.c),("terms",.ref x.tm),("book",.ref x.k.bk),("rule",x.ru),("papers",x.pa)])
 te:H x.tm=some (.ins t.C_Terms x.td (teF (.int m.bl) (.int m.pg) r2 r3 r4 r5))
 ch:ChipAt t.C_Chip H x.c x.a m
 bk:BkAt t H x.k q
 tb:TbF t H
 ds:Dst x.k
 d1:∀b∈x.a.li::foot x.c x.a,b∉bf x.k
 d2:∀b∈[x.s,x.tm],b∉sf x
section
variable{H H':Hp}{x:Sto}{r2 r3 r4 r5:V}{m:CM}{q:QM}
theorem StAt.same(h:StAt t H x r2 r3 r4 r5 m q)(s:Same H H'):StAt t H' x r2 r3 r4 r5 m q:=⟨s _ _ h.o,s _ _ h.te,h.ch.same s,h.bk.same s,h.tb.same s,h.ds,h.d1,h.d2⟩
theorem TbF.ne(h:TbF t H){b:Addr}{o:HO}(e:H b=some o)(n:∀ps,o≠ .tbl ps):b≠t.T_Plain_free:=λz=>by
 obtain⟨ps,hT,_⟩:=h
 rw[z,hT]at e
 exact n ps (kQ e).symm
theorem StAt.nT(h:StAt t H x r2 r3 r4 r5 m q):∀b∈[x.s,x.tm]++(x.a.li::sf x),b∉[t.T_Plain_free]:=by
 intro b hb z
 have z:b=t.T_Plain_free:=by simpa using z
 have ne:∀{b:Addr} {o:HO},H b=some o→(∀ps,o≠ .tbl ps)→b≠t.T_Plain_free:=λe n=>h.tb.ne e n
 obtain⟨rs,er,_⟩:=h.ch.rc
 have hb:b=x.s∨b=x.tm∨b=x.a.li∨b=x.c∨b=x.a.bo∨b=x.a.cl∨b=x.a.dc∨b=x.a.br∨b=x.a.rc∨b=x.k.bk∨b=x.k.wv∨b=x.k.lv∨b=x.k.fi∨b=x.k.bo:=by simpa[sf,bf,foot]using hb
 rcases hb with y|y|y|y|y|y|y|y|y|y|y|y|y|y<;>rw[y]at z
 ·exact ne h.o (λ_ z=>by cases z) z
 ·exact ne h.te (λ_ z=>by cases z) z
 ·exact ne h.ch.li (λ_ z=>by cases z) z
 ·exact ne h.ch.ins (λ_ z=>by cases z) z
 ·exact ne h.ch.bo (λ_ z=>by cases z) z
 ·exact ne h.ch.cl (λ_ z=>by cases z) z
 ·exact ne h.ch.dc (λ_ z=>by cases z) z
 ·exact ne h.ch.br (λ_ z=>by cases z) z
 ·exact ne er (λ_ z=>by cases z) z
 ·exact ne h.bk.o (λ_ z=>by cases z) z
 ·exact ne h.bk.w (λ_ z=>by cases z) z
 ·exact ne h.bk.l (λ_ z=>by cases z) z
 ·exact ne h.bk.f (λ_ z=>by cases z) z
 ·exact ne h.bk.b (λ_ z=>by cases z) z
theorem StAt.nX(h:StAt t H x r2 r3 r4 r5 m q){b:Addr}{o:HO}(e:H b=some o)(to:Tex o):b∉[x.s,x.tm]++(x.a.li::sf x):=λhb=>by
 obtain⟨rs,er,_⟩:=h.ch.rc
 have hb:b=x.s∨b=x.tm∨b=x.a.li∨b=x.c∨b=x.a.bo∨b=x.a.cl∨b=x.a.dc∨b=x.a.br∨b=x.a.rc∨b=x.k.bk∨b=x.k.wv∨b=x.k.lv∨b=x.k.fi∨b=x.k.bo:=by simpa[sf,bf,foot]using hb
 rcases hb with y|y|y|y|y|y|y|y|y|y|y|y|y|y
 ·exact yO to e h.o q2M y
 ·exact yO to e h.te q2M y
 ·exact yO to e h.ch.li (λz=>by rcases z with⟨_,z⟩|⟨_,z⟩<;>cases z) y
 ·exact yO to e h.ch.ins q2M y
 ·exact yO to e h.ch.bo vE y
 ·exact yO to e h.ch.cl vE y
 ·exact yO to e h.ch.dc vE y
 ·exact yO to e h.ch.br vE y
 ·exact yO to e er vE y
 ·exact yO to e h.bk.o q2M y
 ·exact yO to e h.bk.w (λz=>by rcases z with⟨_,z⟩|⟨_,z⟩<;>cases z) y
 ·exact yO to e h.bk.l vE y
 ·exact yO to e h.bk.f vE y
 ·exact yO to e h.bk.b vE y
theorem StAt.keep(h:StAt t H x r2 r3 r4 r5 m q){F:List Addr}(k:Keep F H H')(n:∀b∈[x.s,x.tm]++(x.a.li::sf x),b∉F)(tb:TbF t H'):StAt t H' x r2 r3 r4 r5 m q:=
 ⟨k.k _ _ (n _ (by simp)) h.o,k.k _ _ (n _ (by simp)) h.te,h.ch.keep k (λb hb=>n b (by
  rcases kL.mp hb with rfl|hb
  ·simp
  ·simp[sf,hb])),h.bk.keep k (λb hb=>n b (by
  have hb:b∈bf x.k:=hb
  simp[sf,hb])),tb,h.ds,h.d1,h.d2⟩
theorem StAt.kT(h:StAt t H x r2 r3 r4 r5 m q)(k:Keep [t.T_Plain_free] H H')(tb:TbF t H'):StAt t H' x r2 r3 r4 r5 m q:=h.keep k h.nT tb
end
noncomputable def spGd(t:Adr):Sp:=λvs H Q _=>∃x r2 r3 r4 r5 m q,vs=[.ref x.s]∧StAt t H x r2 r3 r4 r5 m q∧Fit m q∧NewO H (.lst ((uB q.B m.br).map vn)) Q
theorem vF(T:Txt K mg t)(S:Fns K t):S.Plain_good.Ok0 P w mg base 5 (spGd t):=by
 refine S.Plain_good.F.ok0 q6K λcdv A _ s H vs Q E hr h=>?_
 ·obtain⟨x,r2,r3,r4,r5,m,q,rfl,hs,ft,k⟩:=h
  have b2:=ft.oq.b2
  have eB:=ft.eB
  refine⟨_,(qC (qL (uS ["self","block"] [0] rfl (q09 rfl T.b_range (qA (qJ (qJ (pv 0) rfl) rfl) qE)) (λ_ _ _ _ _=>(qX (i:=1) (show List.Nodup (["self","block"]:List Str)from by decide) rfl (Or.inl rfl))) (λ_ _ _ _ _=>(vC (yX (yE (qY (uT (K:=K) rfl (pv 0) rfl) T.cl_Chip T.m_Chip_failed (q62 T S).mono hr S.Chip_failed.b .nil qK (qA (pv 1) qE)))))) (λ_ _ _ _ _=>(pv 1)) (by kernel_rfl) (yG (by decide))))),?_⟩
  try dsimp-beta-proj-iota-zeta-eta only[wishK,cxK]
  refine(iV rfl (iF hs.o T.cl_Even T.na_Even_terms rfl (iF hs.te T.cl_Terms T.na_Terms_blocks rfl ⟨m.bl,rfl,by omega,by omega,λD H2 nD s2 hD=>?_⟩)))
  refine q47 (D:=D) (λi H3=>Same H H3∧H3 D=some (.lst (((List.range i).filter λb=>!(m.br.getD b false)).map vn))) ⟨s2,hD⟩ (λi H3 hi hp=>?_) (λH3 hp=>?_)
  ·obtain⟨sm,hd⟩:=hp
   have hi:i<q.B:=by omega
   have h3:=hs.same sm
   refine(iV rfl (iF h3.o T.cl_Even T.na_Even_chip rfl (iM h3.ch.ins rfl ⟨_,rfl,x.c,x.a,m,_,rfl,h3.ch,ft.ok,by omega,by omega,?_⟩)))
   rw[show(0+(i:Int)).toNat=i by omega,Int.zero_add]
   refine⟨_,rfl,?_⟩
   rw[sP,gW,m7]
   cases z:m.br.getD i false with
   |true=>
    refine iteF ⟨sm,?_⟩
    rw[hd,gC,z]
    simp
   |false=>
    refine iteT ?_
    refine⟨_,rfl,_,hd,?_,λb o e=>?_,?_⟩
    ·rw[h9]
     have:((List.range i).filter λb=>!(m.br.getD b false)).length≤i:=mF (mE _ _) (by rw[mZ];exact kM _)
     have:(16:Nat)<sizeLine:=by decide
     omega
    ·rw[qD (qH e nD)]
     exact sm _ _ e
    ·rw[qI,gC,z]
     rfl
  ·obtain⟨sm,hd⟩:=hp
   rw[show m.bl.toNat=q.B by omega]at hd
   exact k D H3 nD sm hd
noncomputable def spLm(t:Adr)(x:Sto)(g c:Addr)(fd:FuncData):Sp:=λvs H Q _=>∃r2 r3 r4 r5,∃m:CM,∃q:QM,∃b:Nat,vs=[.int (b:Int)]∧StAt t H x r2 r3 r4 r5 m q∧Fit m q∧b<q.B∧H g=some (fnO g fd)∧H c=some (cdO c lamQ)∧∀tp H',H tp=none→Same H H'→H' tp=some (.tup [.int (m.cl.getD b 0),.int (b:Int)])→Q (.ref tp) H'
theorem qJD(T:Txt K mg t)(S:Fns K t){g c ca:Addr}{pm ct:Value}{x:Sto}(hc:base.IsCell ca (some (.ref x.s))):
 FnOk P w K mg base CX0 5 g (q64 [("self",ca)] pm ct c) ["block"] (spLm t x g c (q64 [("self",ca)] pm ct c)):=by
 refine qG4 (k:=4) (x0:="block") (fvs:=[.ref x.s]) (qCJ (u:=.ref x.s) rfl rfl rfl (by decide+kernel) (by decide+kernel) (by decide+kernel) rfl hc) (λvs H Q E h=>?_) (λvs H Q E h=>?_) (λA outer s H v0 Q E hr h=>?_)
 ·repeat obtain⟨_,h⟩:=h
  all_goals subst_vars;rfl
 ·obtain⟨r2,r3,r4,r5,m,q,b,rfl,_,_,_,a,d,_⟩:=h
  exact⟨a,d⟩
 ·obtain⟨r2,r3,r4,r5,m,q,b,e,hs,ft,hb,_,_,k⟩:=h
  obtain rfl:v0=.int (b:Int):=by simpa using e
  have eB:=ft.eB
  refine⟨_,uD (qA (qY (qJ (pv 1) rfl) T.cl_Chip T.m_Chip_cleared (uF T S).mono hr S.Chip_cleared.b .nil qK (qA (pv 0) qE)) (qA (pv 0) qE)),?_⟩
  refine(iV rfl (iF hs.o T.cl_Even T.na_Even_chip rfl (iM hs.ch.ins rfl ⟨_,rfl,x.c,x.a,m,_,rfl,hs.ch,ft.ok,by omega,by omega,?_⟩)))
  rw[mK]
  exact⟨_,rfl,sz2,k⟩
theorem qCN{clos:List (Str×Addr)}{c:Addr}{pm ct:Value}:jS K (q64 clos pm ct c) ["block"] []:=jS.all λus hl=>match us,hl with| [_],_=>rfl
theorem qGV(T:Txt K mg t){H:Hp}(h:TbF t H):∃ps,H t.T_Plain_free=some (.tbl ps)∧TriplesOk ps.toList∧
 ((codeAmong lamP ps.toList=none∧∀c H',H' t.T_Plain_free=some (.tbl (ps++tri c))→H' c=some (cdO c lamQ)→(∀b o,b≠t.T_Plain_free→H b=some o→H' b=some o)→TbF t H')∨∃c,codeAmong lamP ps.toList=some (.ref c)∧H c=some (cdO c lamQ)):=by
 obtain⟨ps,hT,h,hB⟩:=h
 rcases h with rfl|⟨c,rfl,a⟩
 ·refine⟨_,hT,trivial,.inl ⟨rfl,λc H' e1 e2 k=>⟨_,e1,.inr ⟨c,rfl,e2⟩,?_⟩⟩⟩
  obtain⟨ps',hT',h'⟩:=hB
  refine⟨ps',k _ _ (T.tne_Plain_free.symm) hT',?_⟩
  rcases h' with h'|⟨c',h',a'⟩
  ·exact .inl h'
  ·exact .inr ⟨c',h',k _ _ (λz=>by rw[z,hT]at a';cases a') a'⟩
 ·exact⟨_,hT,trivial,.inr ⟨c,rfl,a⟩⟩
theorem q7H(T:Txt K mg t)(S:Fns K t){cells:List (Str×Addr)}{σ:St}{H4:Hp}{D f c':Addr}{x:Sto}{r2 r3 r4 r5:V}{m:CM}{q:QM}{clos:List (Str×Addr)}{pm ct:Value}{Q:VK}(hσ:σ[0]?=some (some (.ref x.s)))(hcl:∀ca,cells.lookup ("self":Str)=some ca→clos=[(("self":Str),ca)])
 (hs:StAt t H4 x r2 r3 r4 r5 m q) (ft:Fit m q) (hD:H4 D=some (.lst ((yV q.B m.br q.fi).map vn))) (hf:H4 f=some (fnO f (q64 clos pm ct c'))) (hc:H4 c'=some (cdO c' lamQ)) (k:∀l p H',FreeIs q.B m.br m.cl q.fi l→H4 p=none→Same H4 H'→H' p=some (.lst (l.map vn))→Q (.ref p) H'):
 ∃(f':Addr) (fd:FuncData) (sp:Heap→Sp),V.ref f=.ref f'∧(∀base',(∀b o,base.get? b=some o→base'.get? b=some o)→q1L cells σ base' [(0,"self")]→FnOk P w K mg base' CX0 5 f' fd ["block"] (sp base'))∧jS K fd ["block"] []∧
  ∃(l:Addr) (us:List V) (Pv:Nat→List V→Hp→Prop),[V.ref D]=[.ref l]∧SqL K H4 l us∧us.length<64∧Pv 0 [] H4∧(∀base' i x zs H',q1L cells σ base' [(0,"self")]→us[i]?=some x→Pv i zs H'→sp base' [x] H' (λz H''=>Pv (i+1) (zs++[z]) H'') E0)∧
  ∀zs H',zs.length=us.length→Pv us.length zs H'→∃kk m,Paired (TupI K H') zs kk∧(∀k∈kk,k.length=m)∧0<m∧∀q:List Nat,q.Perm (List.range us.length)→(q.map λi=>kk.getD i []).Pairwise (λa b=>lx b a=false)→NewO H' (.lst (q.map λi=>us.getD i .non)) Q:=by
 have b2:=ft.oq.b2
 have ln:=qCL (B:=q.B) (br:=m.br) (fi:=q.fi)
 refine⟨f,q64 clos pm ct c',λ_=>spLm t x f c' (q64 clos pm ct c'),rfl,λbase' _ cv=>?_,qCN,D,_,λi zs H'=>Same H4 H'∧Paired (TupD H') zs (((yV q.B m.br q.fi).take i).map (keyN m.cl)),rfl,SqL.of hD,by rw[h9];omega,⟨Same.refl H4,.nil⟩,λbase' i y zs H' _ hy hp=>?_,λzs H' lz hp=>?_⟩
 ·obtain⟨ca,u,hk,ru,hcell⟩:=cv (0,"self") (hV.mpr rfl) (.ref x.s) hσ
  obtain rfl:u=Value.ref x.s:=ru
  rw[hcl ca hk]
  exact qJD T S hcell
 ·obtain⟨sm,pr⟩:=hp
  rw[mD]at hy
  obtain⟨b,hb,rfl⟩:=mH.mp hy
  have mb:=q7C.mp (m8 hb)
  refine⟨r2,r3,r4,r5,m,q,b,rfl,hs.same sm,ft,mb.1.1,sm _ _ hf,sm _ _ hc,λtp H5 ntp s5 e5=>⟨sm.trans s5,?_⟩⟩
  rw[q7D (f:=keyN m.cl) hb]
  exact L2.Paired.snoc (vX pr s5) ⟨tp,rfl,e5⟩
 ·obtain⟨sm,pr⟩:=hp
  rw[h9,gE]at pr
  refine⟨_,2,qBG pr,λk hk=>?_,by decide,λq' p1 p2 p H5 np s5 e5=>?_⟩
  ·obtain⟨b,_,rfl⟩:=kZ.mp hk
   rfl
  ·rw[h9]at p1
   have hin:∀i∈q',i<(yV q.B m.br q.fi).length:=λi hi=>mM.mp (p1.mem_iff.mp hi)
   rw[q5U (e:=0) hin]at e5
   exact k _ p H5 (qG7 p1 p2) (Same.free sm np) (sm.trans s5) e5
noncomputable def spFr(t:Adr):Sp:=λvs H Q _=>∃x r2 r3 r4 r5 m q,vs=[.ref x.s]∧StAt t H x r2 r3 r4 r5 m q∧Fit m q∧∀l p H',FreeIs q.B m.br m.cl q.fi l→H p=none→Keep [t.T_Plain_free] H H'→TbF t H'→H' p=some (.lst (l.map vn))→Q (.ref p) H'
theorem q06(T:Txt K mg t)(S:Fns K t)(B:BmIn base mg):FnOk P w K mg base (CX0) 8 t.f_Plain_free S.fd_Plain_free ["self"] (spFr t):=by
 refine S.F_Plain_free.ok0 q2W λA _ s H vs Q E hr h=>?_
 ·obtain⟨x,r2,r3,r4,r5,m,q,rfl,hs,ft,k⟩:=h
  have b2:=ft.oq.b2
  have eB:=ft.eB
  refine⟨_,(qB (q5N (i:=1) ["self","block"] [0] rfl (y8 (j9 (pv 0) T.cl_Even T.m_Even_good (vF T S).mono hr S.Plain_good.b .nil qK)) (λ_ _ _ _ _=>(qX (i:=1) (show List.Nodup (["self","block"]:List Str)from by decide) rfl (Or.inl rfl))) (λ_ _ _ _ _=>(vC (qR vV (qS (q9C (K:=K) rfl) (uT (K:=K) rfl (uT (K:=K) rfl (pv 0) rfl) rfl) (pv 1) (λ_ _=>rfl)) qG (qT _)))) (λ_ _ _ _ _=>(pv 1)) (by kernel_rfl) (yG (by decide)) q2W.nd rfl (Or.inl rfl)) (qC (qL (qAL (k:=5) (x:="block") [(0,"self")] (by intro p hp;simp only[kL,gY,cC]at hp;rcases hp with rfl<;>exact⟨rfl,by kernel_rfl,rfl⟩) hr (by rfl) T.b_sorted (qBH rfl T.cd_Plain_free B (qG5 (by kernel_rfl)) rfl) (qA (pv 1) qE))))),?_⟩
  try dsimp-beta-proj-iota-zeta-eta only[wishK,cxK]
  refine(iV rfl (iM hs.o rfl ⟨x,r2,r3,r4,r5,m,q,rfl,hs,ft,λp H1 n1 s1 h1=>?_⟩))
  refine⟨p,rfl,⟨_,SqL.of h1⟩,λD H2 nD s2 hD=>?_⟩
  refine vW (K:=K) (xs:=(uB q.B m.br).map vn) (D:=D) (λi H3=>Same H1 H3∧H3 D=some (.lst ((((uB q.B m.br).take i).filter λb=>decide (q.fi.getD b 0=0)).map vn))) ⟨s2,hD⟩ (λi H3 hp=>SqL.of (hp.1 _ _ h1)) (λi y H3 hy hp=>?_) (λH3 hp=>?_)
  ·obtain⟨sm,hd⟩:=hp
   have h3:=(hs.same s1).same sm
   rw[mD]at hy
   obtain⟨b,hb,rfl⟩:=mH.mp hy
   have hi:=(kE.mp hb).1
   have mb:=q0C.mp (m8 hb)
   refine(iV rfl (iF h3.o T.cl_Even T.na_Even_book rfl (iF h3.bk.o T.cl_Book T.na_Book_filled rfl ⟨_,rfl,iL (k:=_) (v:=_) (SqL.of h3.bk.f) (atV (by rw[ft.oq.lf];exact mb.1)) ⟨rfl,_,rfl,?_⟩⟩)))
   rw[v7,←mW hi,gW,m7]
   obtain rfl:(uB q.B m.br)[i]=b:=(kE.mp hb).2
   by_cases z:q.fi.getD (uB q.B m.br)[i] 0=0
   ·rw[hG z]
    refine iteT ?_
    refine⟨_,rfl,_,hd,?_,λb o e=>?_,?_⟩
    ·rw[h9]
     have l1:(((uB q.B m.br).take i).filter λb=>decide (q.fi.getD b 0=0)).length≤q.B:=mF (mE _ _) (mF (by rw[gL];omega) (q1M (B:=q.B) (br:=m.br)))
     have:(16:Nat)<sizeLine:=by decide
     omega
    ·rw[qD (qH e nD)]
     exact sm _ _ e
    ·rw[qI,gC,hG z]
     rfl
   ·rw[kD z]
    refine iteF ⟨sm,?_⟩
    rw[hd,gC,kD z]
    simp
  ·obtain⟨sm,hd⟩:=hp
   rw[h9,gE]at hd
   have hd:H3 D=some (.lst ((yV q.B m.br q.fi).map vn)):=hd
   have h3:=(hs.same s1).same sm
   refine⟨_,rfl,?_⟩
   obtain⟨ps,hT,ht,hc⟩:=qGV T h3.tb
   have nT:D≠t.T_Plain_free:=h3.tb.ne hd (λ_ z=>by cases z)
   have keep:∀(f c':Addr) (ctv pm:Value) (clos:List (Str×Addr)) (H4:Hp),H4 f=some (fnO f (q64 clos pm ctv c'))→H4 c'=some (cdO c' lamQ)→TbF t H4→(∀b o,b≠t.T_Plain_free→H3 b=some o→H4 b=some o)→Keep [t.T_Plain_free] H3 H4:=λf c' ctv pm clos H4 _ _ tb4 kp=>⟨λb o nb e=>kp b o (λz=>nb (by rw[z];simp)) e,λb xs e=>kp b _ (h3.tb.ne e (λ_ z=>by cases z)) e⟩
   refine⟨ps,hT,ht,?_⟩
   rcases hc with⟨hn,tb⟩|⟨c0,hn,hc0⟩
   ·refine .inl ⟨hn,λf c' ctv H4 nf hf hc' hT4 kp=>?_⟩
    have tb4:=tb c' H4 hT4 hc' kp
    have k4:=keep f c' ctv _ _ H4 hf hc' tb4 kp
    refine q7H T S rfl (λca hk=>q9I (names:=qEZ.names) hk rfl) (h3.kT k4 tb4) ft (kp _ _ nT hd) hf hc' (λl p' H5 hl np s5 e5=>k l p' H5 hl ?_ ?_ (tb4.same s5) e5)
    ·refine Same.free s1 (Same.free sm (k4.none (λz=>?_) np))
     obtain⟨ps',hT',_⟩:=tb4
     rw[hV.mp z,hT']at np
     cases np
    ·exact((Keep.same s1).trans (Keep.same sm)).trans (k4.trans (Keep.same s5))
   ·refine .inr ⟨c0,hn,λf ctv H4 nf hf s4=>?_⟩
    refine q7H T S rfl (λca hk=>q9I (names:=qEZ.names) hk rfl) (h3.same s4) ft (s4 _ _ hd) hf (s4 _ _ hc0) (λl p' H5 hl np s5 e5=>k l p' H5 hl ?_ ?_ ((h3.tb.same s4).same s5) e5)
    ·exact Same.free s1 (Same.free sm (Same.free s4 np))
    ·exact Keep.same (((s1.trans sm).trans s4).trans s5)
noncomputable def spPt(t:Adr):Sp:=λvs H Q _=>∃x r2 r3 r4 r5 m q,vs=[.ref x.s]∧StAt t H x r2 r3 r4 r5 m q∧Fit m q∧∀H',Same H H'→Q (oV (jM q.B q.P m.br q.fi)) H'
theorem qCO{α:Type}{p:α→Bool}{L:List α}{i:Nat}{x:α}(h:L[i]?=some x)(n:(L.take i).find? p=none):(p x=true→L.find? p=some x)∧(p x=false→(L.take (i+1)).find? p=none):=by
 have hi:=(kE.mp h).1
 obtain rfl:L[i]=x:=(kE.mp h).2
 constructor
 ·intro hp
  have e:L=L.take i++L[i]::L.drop (i+1):=by rw[List.getElem_cons_drop,List.take_append_drop]
  conv=>lhs;arg 2;rw[e]
  rw[List.find?_append,n,dN,hp]
  rfl
 ·intro hp
  rw[←mW hi,List.find?_append,n,dN,hp]
  rfl
theorem q07(T:Txt K mg t)(S:Fns K t):S.Plain_part.Ok0 P w mg base 6 (spPt t):=by
 refine S.Plain_part.F.ok0 q2X λcdv A _ s H vs Q E hr h=>?_
 ·obtain⟨x,r2,r3,r4,r5,m,q,rfl,hs,ft,k⟩:=h
  refine⟨_,(qB (uO g4 rfl (y8 (j9 (pv 0) T.cl_Even T.m_Even_good (vF T S).mono hr S.Plain_good.b .nil qK)) (qX (i:=1) q2X.nd rfl (Or.inl rfl)) (qC (jE (qD0 q3M q3M qG (qS jB (qJ (qJ (pv 0) rfl) rfl) (pv 1) (λ_ _=>rfl)) (qJ (qJ (pv 0) rfl) rfl)) (qC (qL (pv 1))) qQ))) (qC (qL vJ))),?_⟩
  try dsimp-beta-proj-iota-zeta-eta only[wishK,cxK]
  refine(iV rfl (iM hs.o rfl ⟨x,r2,r3,r4,r5,m,q,rfl,hs,ft,λp H1 n1 s1 h1=>?_⟩))
  refine⟨p,rfl,⟨_,SqL.of h1⟩,?_⟩
  refine uP (K:=K) (xs:=(uB q.B m.br).map vn) (λi σ' H2=>∃y,σ'=[some (.ref x.s),y]∧Same H1 H2∧((uB q.B m.br).take i).find? (jO q.P q.fi)=none) ⟨_,rfl,Same.refl H1,rfl⟩ (λi σ' H2 hi hp=>?_) (λi y σ' H2 hy hp=>?_) (λσ' H2 hp=>?_)
  ·obtain⟨y,rfl,sm,_⟩:=hp
   exact SqL.of (sm _ _ h1)
  ·obtain⟨y',rfl,sm,hn⟩:=hp
   have h3:=(hs.same s1).same sm
   rw[mD]at hy
   obtain⟨b,hb,rfl⟩:=mH.mp hy
   have mb:=q0C.mp (m8 hb)
   obtain⟨y1,y2⟩:=qCO hb hn
   refine(iV rfl (iF h3.o T.cl_Even T.na_Even_book rfl (iF h3.bk.o T.cl_Book T.na_Book_filled rfl ⟨_,rfl,iL (k:=_) (v:=_) (SqL.of h3.bk.f) (atV (by rw[ft.oq.lf];exact mb.1)) ?_⟩)))
   refine(iI ⟨_,rfl,?_⟩)
   by_cases z1:0<q.fi.getD b 0
   ·rw[hG z1]
    refine iteT ?_
    refine(iV rfl (iF h3.o T.cl_Even T.na_Even_terms rfl (iF h3.te T.cl_Terms T.na_Terms_pages rfl (iI ⟨_,rfl,?_⟩))))
    by_cases z2:q.fi.getD b 0<m.pg
    ·rw[hG z2]
     have z:=k H2 (s1.trans sm)
     unfold jM at z
     rw[y1 (by unfold jO;rw[hG z1,hG (by rw[←ft.eP];exact z2)];rfl)]at z
     exact iteT ⟨_,rfl,z⟩
    ·rw[kD z2]
     exact iteF ⟨_,rfl,sm,y2 (by unfold jO;rw[hG z1,kD (by rw[←ft.eP];exact z2)];rfl)⟩
   ·rw[kD z1]
    exact iteF ⟨_,rfl,iteF ⟨_,rfl,sm,y2 (by unfold jO;rw[kD z1];rfl)⟩⟩
  ·obtain⟨y',rfl,sm,hn⟩:=hp
   rw[h9,gE]at hn
   have z:=k H2 (s1.trans sm)
   unfold jM at z
   rw[hn]at z
   exact z
noncomputable def spSp(t:Adr):Sp:=λvs H Q _=>∃x r2 r3 r4 r5 m q,vs=[.ref x.s]∧StAt t H x r2 r3 r4 r5 m q∧Fit m q∧∀l H',FreeIs q.B m.br m.cl q.fi l→Keep [t.T_Plain_free] H H'→TbF t H'→Q (pgV q.P q.fi (q17 q.B q.P m.br q.fi l)) H'
theorem q6Q(T:Txt K mg t)(S:Fns K t)(B:BmIn base mg):S.Plain_spot.Ok0 P w mg base 9 (spSp t):=by
 refine S.Plain_spot.F.ok0 q05 λcdv A _ s H vs Q E hr h=>?_
 ·obtain⟨x,r2,r3,r4,r5,m,q,rfl,hs,ft,k⟩:=h
  refine⟨_,(qB (qV (i:=1) q05.nd rfl (Or.inl rfl) (j9 (pv 0) T.cl_Even T.m_Even_part (q07 T S).mono hr S.Plain_part.b .nil qK)) (qB (jE (qR q4Z (pv 1) vJ (qT _)) (qC (qL (qM yC (qM yS (pv 1) (qJ (qJ (pv 0) rfl) rfl)) (qS jB (qJ (qJ (pv 0) rfl) rfl) (pv 1) (λ_ _=>rfl))))) qQ) (qB (qV (i:=2) q05.nd rfl (Or.inl rfl) (j9 (pv 0) T.cl_Even T.m_Even_free (q06 T S B).mono hr S.b_Plain_free .nil qK)) (qB (jE (qR (q7R hr.units) (pv 2) (jX qE) (qT _)) (qC (qL vJ)) qQ) (qC (qL (qM yS (qS jB (pv 2) qG (λ_ _=>rfl)) (qJ (qJ (pv 0) rfl) rfl)))))))),?_⟩
  try dsimp-beta-proj-iota-zeta-eta only[wishK,cxK]
  refine(iV rfl (iM hs.o rfl ⟨x,r2,r3,r4,r5,m,q,rfl,hs,ft,λH1 s1=>?_⟩))
  have h1:=hs.same s1
  have b2:=ft.oq.b2
  have p2:=ft.oq.p2
  have eP:=ft.eP
  cases hpn:jM q.B q.P m.br q.fi with
  |some b=>
   have hb:=vY hpn
   refine⟨_,rfl,rfl,_,rfl,iteT ?_⟩
   refine⟨_,rfl,iV rfl (iF h1.o T.cl_Even T.na_Even_terms rfl (iF h1.te T.cl_Terms T.na_Terms_pages rfl (iI ⟨.inl ⟨by omega,by omega⟩,?_⟩)))⟩
   refine(iV rfl (iF h1.o T.cl_Even T.na_Even_book rfl (iF h1.bk.o T.cl_Book T.na_Book_filled rfl ⟨_,rfl,iL (k:=_) (v:=_) (SqL.of h1.bk.f) (atV (by rw[ft.oq.lf];exact hb.1)) (iI ?_)⟩)))
   obtain⟨l,hl⟩:=FreeIs.ex q.B m.br m.cl q.fi
   have kk:=k l H1 hl (Keep.same s1) h1.tb
   unfold q17 at kk
   rw[hpn]at kk
   have e:pgV q.P q.fi (some b)=V.int ((b:Int)*m.pg+q.fi.getD b 0):=by
    rw[eP]
    rfl
   have kk:Q (pgV q.P q.fi (some b)) H1:=kk
   rw[e]at kk
   exact kk
  |none=>
   refine⟨_,rfl,rfl,_,rfl,iteF ?_⟩
   refine(iV rfl (iM h1.o rfl ⟨x,r2,r3,r4,r5,m,q,rfl,h1,ft,λl p H2 hl np k2 tb2 h2=>?_⟩))
   have h2':=h1.kT k2 tb2
   refine⟨_,rfl,sz0,λe H3 n3 s3 h3=>⟨p,_,e,rfl,rfl,SqL.of (s3 _ _ h2),SqL.of h3,_,rfl,?_⟩⟩
   have h3':=h2'.same s3
   have kk:=k l H3 hl (((Keep.same s1).trans k2).trans (Keep.same s3)) (tb2.same s3)
   unfold q17 at kk
   rw[hpn]at kk
   cases l with
   |nil=>
    refine iteT ?_
    exact kk
   |cons b r=>
    refine iteF ?_
    have hb:=hl.mem (kW (a:=b) (l:=r))
    refine⟨_,rfl,iL (k:=0) (v:=.int (b:Int)) (SqL.of (s3 _ _ h2)) (yP (j:=0) rfl) (iV rfl (iF h3'.o T.cl_Even T.na_Even_terms rfl (iF h3'.te T.cl_Terms T.na_Terms_pages rfl (iI ⟨.inl ⟨by omega,by omega⟩,?_⟩))))⟩
    have e:pgV q.P q.fi ((b::r).head?)=V.int ((b:Int)*m.pg):=by
     show V.int ((b:Int)*(q.P:Int)+q.fi.getD b 0)=_
     rw[hb.2.2,eP,Int.add_zero]
    have kk:Q (pgV q.P q.fi ((b::r).head?)) H3:=kk
    rw[e]at kk
    exact kk
noncomputable def qBU(t:Adr):Sp:=λvs H Q E=>∃x r2 r3 r4 r5 m q n v,vs=[.ref x.s,.int n,.int v]∧StAt t H x r2 r3 r4 r5 m q∧Fit m q∧Gd m∧m.rc.length<1000000∧∀l,FreeIs q.B m.br m.cl q.fi l→∃b f:Nat,q17 q.B q.P m.br q.fi l=some b∧q.fi.getD b 0=(f:Int)∧m.bo.getD (b*q.P+f) .non=.non∧(m.lf=some 0→∀H',Keep (t.T_Plain_free::sf x) H H'→StAt t H' x r2 r3 r4 r5 m q→E (.ref t.C_PowerGone) none H')∧
 (m.lf≠some 0→∀tp H',H' tp=some (.tup [.int (q.nx*128+n),.int v])→Keep (t.T_Plain_free::sf x) H H'→StAt t H' x r2 r3 r4 r5 (putC m (b*q.P+f) (.ref tp)) (q.put b f n)→Q (.int ((b*q.P+f:Nat):Int)) H')
theorem StAt.put{H H':Hp}{x:Sto}{r2 r3 r4 r5:V}{m m':CM}{q:QM}(h:StAt t H x r2 r3 r4 r5 m q)(hc:ChipAt t.C_Chip H' x.c x.a m')(k:Keep (foot x.c x.a) H H')(e1:m'.bl=m.bl)(e2:m'.pg=m.pg):StAt t H' x r2 r3 r4 r5 m' q:=by
 have nf:∀b∈bf x.k,b∉foot x.c x.a:=λb hb z=>h.d1 b (hX _ z) hb
 have n2:∀b∈[x.s,x.tm],b∉foot x.c x.a:=λb hb z=>h.d2 b hb (by unfold sf;exact dD _ z)
 refine⟨k.k _ _ (n2 _ (by simp)) h.o,by rw[e1,e2];exact k.k _ _ (n2 _ (by simp)) h.te,hc,h.bk.keep k nf,h.tb.gen λb o to e=>k.k _ _ (λz=>h.nX e to (kN _ (hX _ (by unfold sf;exact dD _ z)))) e,h.ds,h.d1,h.d2⟩
theorem StAt.note{H H':Hp}{x:Sto}{r2 r3 r4 r5:V}{m:CM}{q q':QM}(h:StAt t H x r2 r3 r4 r5 m q)(hb:BkAt t H' x.k q')(k:Keep (bf x.k) H H'):StAt t H' x r2 r3 r4 r5 m q':=by
 have n2:∀b∈[x.s,x.tm],b∉bf x.k:=λb hb z=>h.d2 b hb (by unfold sf;exact kN _ z)
 refine⟨k.k _ _ (n2 _ (by simp)) h.o,k.k _ _ (n2 _ (by simp)) h.te,h.ch.keep k h.d1,hb,h.tb.gen λb o to e=>k.k _ _ (λz=>h.nX e to (kN _ (hX _ (by unfold sf;exact kN _ z)))) e,h.ds,h.d1,h.d2⟩
theorem q3Y(T:Txt K mg t)(S:Fns K t)(B:BmIn base mg):S.Plain_set_down.OkE P w mg base 10 (qBU t):=by
 refine S.Plain_set_down.F.okE zO (λvs H Q E h=>?_) (λcdv A outer s H vs Q E hr h=>?_)
 ·repeat obtain⟨_,h⟩:=h
  all_goals subst_vars;rfl
 ·obtain⟨x,r2,r3,r4,r5,m,q,n,v,rfl,hs,ft,gd,hrc,k⟩:=h
  refine⟨_,(qB (qV (i:=3) zO.nd rfl (Or.inl rfl) (j9 (pv 0) T.cl_Even T.m_Even_spot (q6Q T S B).mono hr S.Plain_spot.b .nil qK)) (qB (jE (qR qA6 (pv 3) vJ (qT _)) (qC jH) qQ) (qB (j8 (jV jF (qJ (pv 0) rfl) T.cl_Chip T.m_Chip_put (q9V T S).mono hr S.Chip_put.b .nil (qA (pv 3) (qA (uD (qA (qY (qJ (pv 0) rfl) T.cl_Book T.m_Book_mark (q8I T S).mono hr S.Book_mark.b .nil qK (qA (pv 1) qE)) (qA (pv 2) qE))) qE q1I)))) (qB (j8 (qY (qJ (pv 0) rfl) T.cl_Book T.m_Book_note (q8J T S).mono hr S.Book_note.b .nil qK (qA (pv 3) (qA (pv 1) qE)))) (qC (qL (pv 3))))))),?_⟩
  try dsimp-beta-proj-iota-zeta-eta only[wishK,cxK]
  refine(iV rfl (iM hs.o rfl ⟨x,r2,r3,r4,r5,m,q,rfl,hs,ft,λl H1 hl k1 tb1=>?_⟩))
  have hs1:=hs.kT k1 tb1
  obtain⟨b,f,hsp,ef,hn,dk,kk⟩:=k l hl
  rw[hsp]
  obtain⟨hB,hbr,f0,f1⟩:=q9J hl ft.oq.p1 hsp
  have hf:f<q.P:=by omega
  have epg:pgV q.P q.fi (some b)=V.int ((b*q.P+f:Nat):Int):=by
   show V.int ((b:Int)*(q.P:Int)+q.fi.getD b 0)=_
   rw[ef,sL,dO]
  rw[epg]
  refine⟨_,rfl,rfl,_,rfl,iteF ?_⟩
  refine(iV rfl (iF hs1.o T.cl_Even T.na_Even_chip rfl (iM hs1.ch.ins rfl ⟨_,rfl,?_⟩)))
  refine(iV rfl (iF hs1.o T.cl_Even T.na_Even_book rfl (iM hs1.bk.o rfl ⟨_,rfl,x.k,q,n,rfl,hs1.bk,_,rfl,sz2,λtp H2 n2 s2 e2=>?_⟩)))
  have hs2:=hs1.same s2
  have hpg:((b*q.P+f:Nat):Int)≤m.bl*m.pg-1:=by
   rw[ft.eB,ft.eP,←dO]
   have:b*q.P+f<q.B*q.P:=(Nat.div_lt_iff_lt_mul (by omega)).mp (by rw[yD hf];exact hB)
   omega
  refine⟨x.c,x.a,m,_,.ref tp,rfl,hs2.ch,ft.ok,hrc,gd,hpg,hn,λz=>dk z H2 ((k1.mono (by simp)).trans (Keep.same s2)) hs2,λz H3 hc3 k3=>?_⟩
  have hs3:=hs2.put hc3 k3 rfl rfl
  refine(iV rfl (iF hs3.o T.cl_Even T.na_Even_book rfl (iM hs3.bk.o rfl ⟨_,rfl,_,rfl,x.k,q,b,f,n,rfl,hs3.bk,ft.oq,hs3.ds,hB,hf,ef,λH4 hb4 k4=>⟨_,rfl,?_⟩⟩)))
  exact kk z tp H4 (k4.tp _ _ (k3.tp _ _ e2)) ((((k1.mono (by simp)).trans (Keep.same s2)).trans (k3.mono (λb hb=>by unfold sf;exact hX _ (dD _ hb)))).trans (k4.mono (λb hb=>by unfold sf;exact hX _ (kN _ hb)))) (hs3.note hb4 k4)
theorem q13(T:Txt K mg t)(S:Fns K t)(B:BmIn base mg):S.Plain_lay.OkE P w mg base 11 (qBU t):=by
 refine S.Plain_lay.F.okE q89 (λvs H Q E h=>?_) (λcdv A outer s H vs Q E hr h=>?_)
 ·repeat obtain⟨_,h⟩:=h
  all_goals subst_vars;rfl
 ·obtain⟨x,r2,r3,r4,r5,m,q,n,v,rfl,hs,k⟩:=h
  refine⟨_,(qC (qL (jV jF (pv 0) T.cl_Even T.m_Even_set_down (q3Y T S B).mono hr S.Plain_set_down.b .nil (qA (pv 1) (qA (pv 2) qE))))),?_⟩
  try dsimp-beta-proj-iota-zeta-eta only[wishK,cxK]
  exact(iV rfl (iM hs.o rfl ⟨_,rfl,_,rfl,x,r2,r3,r4,r5,m,q,n,v,rfl,hs,k⟩))
theorem bor(a b:Nat):Builtin.bitOr (a:Int) (b:Int)=((a|||b:Nat):Int):=by
 have e:∀c:Nat,Builtin.bitNot (Builtin.bitNot (c:Int))=(c:Int):=λc=>by unfold Builtin.bitNot;omega
 have n:∀c:Nat,decide (0≤Builtin.bitNot (c:Int))=false:=λc=>kD (by unfold Builtin.bitNot;omega)
 unfold Builtin.bitOr Builtin.bitAnd
 rw[n a,n b]
 show Builtin.bitNot (Builtin.bitNot (((Builtin.bitNot (Builtin.bitNot (a:Int))).toNat|||(Builtin.bitNot (Builtin.bitNot (b:Int))).toNat:Nat):Int))=_
 rw[e,e a,e b,mK,mK]
noncomputable abbrev vN(ks:List Nat):List V:=ks.map λ(k:Nat)=>V.int (k:Int)
noncomputable def spBo(K:W.Frag):Sp:=λvs H Q _=>∃l ss,vs=[.ref l]∧SqL K H l (vN ss)∧(∀s∈ss,s<64)∧Q (.int ((orB ss 0:Nat):Int)) H
theorem q9W(s:Nat):∀(l:List Nat) (b:Nat),orB (l++[s]) b=orB l b|||2 ^ s
 | [],b=>rfl
 |x::r,b=>q9W s r _
theorem q65(T:Txt K mg t)(S:Fns K t):S.bits_of.Ok0 P w mg base 1 (spBo K):=by
 refine S.bits_of.F.ok0 q11 λcdv A _ s H vs Q E hr h=>?_
 ·obtain⟨l,ss,rfl,hl,hs,q⟩:=h
  refine⟨_,(qB (qV (i:=1) q11.nd rfl (Or.inl rfl) qG) (qB (uO g4 rfl (y8 (pv 0)) (qX (i:=2) q11.nd rfl (Or.inl rfl)) (qC (qV (i:=1) q11.nd rfl (Or.inl rfl) (qM qJW (pv 1) (qM qHR qG (pv 2)))))) (qC (qL (pv 1))))),?_⟩
  try dsimp-beta-proj-iota-zeta-eta only[wishK,cxK]
  refine⟨_,rfl,l,rfl,⟨_,hl⟩,?_⟩
  refine uP (K:=K) (xs:=vN ss) (λi σ' H2=>∃y,σ'=[some (.ref l),some (.int ((orB (ss.take i) 0:Nat):Int)),y]∧H2=H) ⟨_,rfl,rfl⟩ (λi σ' H2 hi hp=>?_) (λi x σ' H2 hx hp=>?_) (λσ' H2 hp=>?_)
  ·obtain⟨y,rfl,rfl⟩:=hp
   exact hl
  ·obtain⟨y,rfl,rfl⟩:=hp
   rw[mD]at hx
   obtain⟨n,hn,rfl⟩:=mH.mp hx
   obtain⟨hi,rfl⟩:=kE.mp hn
   have:=hs _ (gD hi)
   refine⟨_,rfl,_,rfl,iI ⟨⟨by omega,by omega,by decide⟩,iI ?_⟩⟩
   have e:(1:Int)*2 ^ ((ss[i]:Nat):Int).toNat=((2 ^ ss[i]:Nat):Int):=by
    rw[Int.one_mul,mK]
    exact(Int.natCast_pow 2 _).symm
   try dsimp only
   rw[e,bor]
   refine⟨some (.int ((ss[i]:Nat):Int)),?_,rfl⟩
   rw[←mW hi,q9W]
   rfl
  ·obtain⟨y,rfl,rfl⟩:=hp
   rw[show(vN ss).length=ss.length by simp[vN],gE]
   exact⟨_,rfl,q⟩
noncomputable def hdN(W:Mp):List Int:=(W.map (·.1)).filter λn=>decide (n≠64)
noncomputable def spHe(t:Adr):Sp:=λvs H Q _=>∃a,∃m:QM,vs=[.ref a.bk]∧BkAt t H a m∧m.Ok∧(hdN m.V).length<64∧∀l ns H',Same H H'→H l=none→H' l=some (.lst (List.map V.int ns))→ns.Perm (hdN m.V)→ns.Pairwise (·≤·)→Q (.ref l) H'
theorem q8K(T:Txt K mg t)(S:Fns K t):S.Book_held.Ok0 P w mg base 1 (spHe t):=by
 refine S.Book_held.F.ok0 q88 λcdv A _ s H vs Q E hr h=>?_
 ·obtain⟨a,m,rfl,hb,ok,hl64,q⟩:=h
  have hu:=q79 hr
  have lV:m.V.length≤65:=ok.lenV
  refine⟨_,(qC (qL (jA q7S (by rfl) T.b_sorted (by kernel_rfl) (qA (qB9 (uS ["name"] [] rfl (qFT (qJ (pv 0) rfl)) (λ_ _ _ _ _=>(qX (i:=0) (show List.Nodup (["name"]:List Str)from by decide) rfl (Or.inl rfl))) (λ_ _ _ _ _=>(vC (qR q2U (pv 0) (q2E rfl T.mg_ROLL ⟨_,rfl⟩ (v:=.int 64)) (qT _)))) (λ_ _ _ _ _=>(pv 0)) (by kernel_rfl) (yG (by decide)))) qE)))),?_⟩
  try dsimp-beta-proj-iota-zeta-eta only[wishK,cxK]
  refine⟨a.wv,_,hb.w,iV rfl (iF hb.o T.cl_Book T.na_Book_where rfl ⟨a.wv,_,rfl,hb.w,λo D H2 nD s2 hD=>?_⟩)⟩
  have kk:∀x u,x≠a.wv→H x=some u→H2 x=some u:=λx u nx e=>s2 _ _ (by rw[qD nx];exact e)
  have fz:H2 a.wv=some (.frz o (.dK (dI m.V))):=s2 _ _ qI
  have Dw:D≠a.wv:=λz=>by rw[z,fz]at hD;cases hD
  have nDH:H D=none:=by
   rw[qD Dw]at nD
   exact nD
  refine qE6 (D:=D) (λi H3=>H3 a.wv=some (.frz o (.dK (dI m.V)))∧(∀x u,x≠a.wv→H x=some u→H3 x=some u)∧H3 D=some (.lst ((hdN (m.V.take i)).map V.int))) ⟨fz,kk,hD⟩ (λi H3 hp=>hp.1) (λi kv H3 hk hp=>?_) (λH3 hp=>?_)
  ·obtain⟨fz3,k3,hd⟩:=hp
   have hi:i<m.V.length:=by
    have:=(kE.mp hk).1
    rw[q63]at this
    exact this
   obtain rfl:((Sum.inl m.V[i].1:Key),V.int m.V[i].2)=kv:=by
    have e:(dI m.V)[i]?=some ((Sum.inl m.V[i].1:Key),V.int m.V[i].2):=by unfold dI;rw[mD,hU hi];rfl
    rw[e]at hk
    exact kQ hk
   have tk:m.V.take (i+1)=m.V.take i++[m.V[i]]:=(mW hi).symm
   show q2T _ (V.int m.V[i].1) _ _ _
   refine⟨_,rfl,rfl,_,rfl,?_⟩
   rw[v7]
   by_cases e:m.V[i].1=64
   ·rw[hG e]
    refine iteF ?_
    refine⟨fz3,k3,?_⟩
    have:hdN (m.V.take (i+1))=hdN (m.V.take i):=by
     unfold hdN
     rw[tk,m7,gW]
     simp[e]
    rw[this]
    exact hd
   ·rw[kD e]
    refine iteT ?_
    refine⟨_,rfl,_,hd,?_,?_,λx u nx e'=>?_,?_⟩
    ·rw[h9]
     have l2:(hdN (m.V.take i)).length≤65:=by
      unfold hdN
      refine mF (mE _ _) ?_
      rw[h9,gL]
      omega
     have:(65:Nat)<sizeLine:=by decide
     omega
    ·rw[qD Dw.symm]
     exact fz3
    ·rw[qD (qH e' nDH)]
     exact k3 _ _ nx e'
    ·have:hdN (m.V.take (i+1))=hdN (m.V.take i)++[m.V[i].1]:=by
      unfold hdN
      rw[tk,m7,gW]
      simp[e]
     rw[qI,this,m7]
     rfl
  ·obtain⟨fz3,k3,hd⟩:=hp
   rw[q63,gE]at hd
   refine⟨o,_,fz3,?_⟩
   have sH:Same H (upd H3 a.wv (.dK (dI m.V))):=qE8 hb.w k3
   have hd4:(upd H3 a.wv (.dK (dI m.V))) D=some (.lst ((hdN m.V).map V.int)):=by rw[qD Dw];exact hd
   generalize upd H3 a.wv (.dK (dI m.V))=H4 at sH hd4 ⊢
   refine⟨D,hdN m.V,rfl,SqL.of hd4,by omega,λns pp pw l H5 n5 s5 h5=>?_⟩
   exact q l ns H5 (sH.trans s5) (sH.free n5) h5 pp pw
structure HeldIs(q:QM)(ns:List Int):Prop where
 pm:ns.Perm (hdN q.V)
 so:ns.Pairwise (·≤·)
noncomputable def spHd(t:Adr):Sp:=λvs H Q _=>∃x r2 r3 r4 r5 m q,vs=[.ref x.s]∧StAt t H x r2 r3 r4 r5 m q∧Fit m q∧(hdN q.V).length<64∧∀l ns H',HeldIs q ns→Same H H'→H l=none→H' l=some (.lst (List.map V.int ns))→Q (.ref l) H'
theorem q08(T:Txt K mg t)(S:Fns K t):S.Plain_held.Ok0 P w mg base 2 (spHd t):=by
 refine S.Plain_held.F.ok0 q6L λcdv A _ s H vs Q E hr h=>?_
 ·obtain⟨x,r2,r3,r4,r5,m,q,rfl,hs,ft,h64,k⟩:=h
  refine⟨_,(qC (qL (j9 (qJ (pv 0) rfl) T.cl_Book T.m_Book_held (q8K T S).mono hr S.Book_held.b .nil qK))),?_⟩
  try dsimp-beta-proj-iota-zeta-eta only[wishK,cxK]
  exact(iV rfl (iF hs.o T.cl_Even T.na_Even_book rfl (iM hs.bk.o rfl ⟨x.k,q,rfl,hs.bk,ft.oq,h64,λl ns H' s' n' h' pm so=>k l ns H' ⟨pm,so⟩ s' n' h'⟩)))
noncomputable def spCs(t:Adr):Sp:=λvs H Q E=>∃x r3 r4 r5 m q v,∃sh:Int,vs=[.ref x.s,v]∧StAt t H x (.int sh) r3 r4 r5 m q∧Knd H v∧(if inB v 0 (sh-1)=true then Q .non H else False)
theorem vI(T:Txt K mg t)(S:Fns K t):S.Plain_check_sheet.Ok0 P w mg base 3 (spCs t):=by
 refine S.Plain_check_sheet.F.ok0 q22 λcdv A _ s H vs Q E hr h=>?_
 ·obtain⟨x,r3,r4,r5,m,q,v,sh,rfl,hs,kn,k⟩:=h
  refine⟨_,(qC (jE (yX (yE (qW (jL T S).mono hr rfl T.mg_is_within T.kp_is_within S.is_within.b .nil qK (qA (pv 1) (qA qG (qA (qM y9 (qJ (qJ (pv 0) rfl) rfl) qG) qE)))))) (qC jH) qQ)),?_⟩
  try dsimp-beta-proj-iota-zeta-eta only[wishK,cxK]
  refine⟨_,rfl,iV rfl (iF hs.o T.cl_Even T.na_Even_terms rfl (iF hs.te T.cl_Terms T.na_Terms_sheets rfl (iI ⟨v,_,_,rfl,kn,_,rfl,?_⟩)))⟩
  cases z:inB v 0 (sh-1)with
  |true=>
   rw[z,kI rfl]at k
   exact iteF k
  |false=>
   rw[z,kF (by decide)]at k
   exact k.elim
theorem q9X(T:Txt K mg t)(S:Fns K t):S.is_value.Ok0 P w mg base 3 (λvs H Q _=>∃v,vs=[v]∧Knd H v∧Q (.bl (inB v 0 (10 ^ 30-1))) H):=by
 refine S.is_value.F.ok0 q9Q λcdv A _ s H vs Q E hr h=>?_
 ·obtain⟨v,rfl,kn,k⟩:=h
  refine⟨_,(qC (qL (qW (jL T S).mono hr rfl T.mg_is_within T.kp_is_within S.is_within.b .nil qK (qA (pv 0) (qA qG (qA (qM y9 (qM qCV qG qG) qG) qE)))))),?_⟩
  try dsimp-beta-proj-iota-zeta-eta only[wishK,cxK]
  exact⟨_,rfl,iI ⟨⟨by decide,by decide,by decide⟩,iI ⟨v,_,_,rfl,kn,k⟩⟩⟩
noncomputable def hold(q:QM)(s:Int):Bool:=decide (s∈hdN q.V)
theorem q59{s:Int}:∀{ns:List Int},inV (.int s) (ns.map V.int)=decide (s∈ns)
 | []=>rfl
 |n::r=>by
  have ih:=q59 (s:=s) (ns:=r)
  unfold inV at ih ⊢
  rw[mU,cB,ih]
  by_cases e:n=s
  ·subst e
   simp[eqV]
  ·have e':¬s=n:=λz=>e z.symm
   simp[eqV,e,e']
theorem qF0{ns:List Int}:(ns.map V.int).all q16=true:=by
 rw[dX]
 intro v hv
 obtain⟨n,_,rfl⟩:=kZ.mp hv
 rfl
theorem HeldIs.hold{q:QM}{ns:List Int}(h:HeldIs q ns)(s:Int):decide (s∈ns)=hold q s:=by
 unfold W1.hold
 by_cases z:s∈ns
 ·rw[hG z,hG (h.pm.mem_iff.mp z)]
 ·rw[kD z,kD (λy=>z (h.pm.mem_iff.mpr y))]
noncomputable def spSh(t:Adr):Sp:=λvs H Q E=>∃x r2 r4 r5 m q,∃s sr:Int,vs=[.ref x.s,.int s]∧StAt t H x r2 (.int sr) r4 r5 m q∧Fit m q∧(hdN q.V).length<64∧∀H',Same H H'→if hold q s=false∧sr≤((hdN q.V).length:Int)then False else Q .non H'
theorem q29(T:Txt K mg t)(S:Fns K t):S.Plain_check_share.Ok0 P w mg base 3 (spSh t):=by
 refine S.Plain_check_share.F.ok0 vH λcdv A _ s H vs Q E hr h=>?_
 ·obtain⟨x,r2,r4,r5,m,q,s,sr,rfl,hs,ft,h64,k⟩:=h
  refine⟨_,(qB (qV (i:=2) vH.nd rfl (Or.inl rfl) (j9 (pv 0) T.cl_Even T.m_Even_held (q08 T S).mono hr S.Plain_held.b .nil qK)) (qC (jE (PW.pt (qCQ (qR q3O (pv 1) (pv 2) rfl) (qAV (qR qB0 (jA qZ (by rfl) T.b_len gH (qA (pv 2) qE)) (qJ (qJ (pv 0) rfl) rfl) (qT _))))) (qC jH) qQ))),?_⟩
  try dsimp-beta-proj-iota-zeta-eta only[wishK,cxK]
  refine(iV rfl (iM hs.o rfl ⟨x,r2,.int sr,r4,r5,m,q,rfl,hs,ft,h64,λl ns H1 hn s1 n1 h1=>?_⟩))
  refine⟨_,rfl,_,rfl,?_⟩
  refine⟨l,_,rfl,.inl (SqL.of h1),rfl,qF0,_,rfl,?_⟩
  have kk:=k H1 s1
  have e:inV (.int s) (ns.map V.int)=hold q s:=by rw[q59];exact hn.hold s
  show if(!inV (.int s) (ns.map V.int))=true then _ else _
  rw[e]
  cases z:hold q s with
  |true=>
   rw[z,kF (λy=>by cases y.1)]at kk
   exact iteF kk
  |false=>
   refine iteT ?_
   refine⟨_,rfl,l,_,rfl,.inl (SqL.of h1),iV rfl (iF (hs.same s1).o T.cl_Even T.na_Even_terms rfl (iF (hs.same s1).te T.cl_Terms T.na_Terms_share rfl (iI ⟨_,rfl,?_⟩)))⟩
   rw[h9,hn.pm.length_eq]
   by_cases y:sr≤((hdN q.V).length:Int)
   ·rw[hG y]
    rw[kI ⟨z,y⟩]at kk
    exact kk.elim
   ·rw[kD y]
    rw[kF (λw=>y w.2)]at kk
    exact iteF kk
noncomputable def spRs(t:Adr):Sp:=λvs H Q _=>∃x r2 r3 r5 m q,∃ie:Int,vs=[.ref x.s]∧StAt t H x r2 r3 (.int ie) r5 m q∧Q (.int (1+ie)) H
theorem q0I(T:Txt K mg t)(S:Fns K t):S.Store_reserve.Ok0 P w mg base 1 (spRs t):=by
 refine S.Store_reserve.F.ok0 q4D λcdv A _ s H vs Q E hr h=>?_
 ·obtain⟨x,r2,r3,r5,m,q,ie,rfl,hs,k⟩:=h
  refine⟨_,(qC (qL (qM yC qG (qJ (qJ (pv 0) rfl) rfl)))),?_⟩
  try dsimp-beta-proj-iota-zeta-eta only[wishK,cxK]
  exact(iV rfl (iF hs.o T.cl_Even T.na_Even_terms rfl (iF hs.te T.cl_Terms T.na_Terms_ill rfl (iI k))))
noncomputable def spRd(t:Adr):Sp:=λvs H Q _=>∃x r2 r3 r5 m q,∃ie:Int,vs=[.ref x.s]∧StAt t H x r2 r3 (.int ie) r5 m q∧Fit m q∧∀l H',FreeIs q.B m.br m.cl q.fi l→Keep [t.T_Plain_free] H H'→TbF t H'→Q (.bl (rdy ie l (jM q.B q.P m.br q.fi))) H'
theorem q66(T:Txt K mg t)(S:Fns K t)(B:BmIn base mg):S.Plain_ready.Ok0 P w mg base 9 (spRd t):=by
 refine S.Plain_ready.F.ok0 q21 λcdv A _ s H vs Q E hr h=>?_
 ·obtain⟨x,r2,r3,r5,m,q,ie,rfl,hs,ft,k⟩:=h
  refine⟨_,(qB (qV (i:=1) q21.nd rfl (Or.inl rfl) (qM y9 (jA qZ (by rfl) T.b_len gH (qA (j9 (pv 0) T.cl_Even T.m_Even_free (q06 T S B).mono hr S.b_Plain_free .nil qK) qE)) (j9 (pv 0) T.cl_Even T.m_Even_reserve (q0I T S).mono hr S.Store_reserve.b .nil qK))) (qC (qL (qCR (uC q8T (pv 1) qG (qT _)) (q1C (q5C (uC vV (pv 1) qG (qT _)) (q1C (uC q4Z (j9 (pv 0) T.cl_Even T.m_Even_part (q07 T S).mono hr S.Plain_part.b .nil qK) vJ (qT _))))))))),?_⟩
  try dsimp-beta-proj-iota-zeta-eta only[wishK,cxK]
  refine(iV rfl (iM hs.o rfl ⟨x,r2,r3,_,r5,m,q,rfl,hs,ft,λl p H1 hl np k1 tb1 h1=>?_⟩))
  have hs1:=hs.kT k1 tb1
  refine⟨p,_,rfl,.inl (SqL.of h1),iV rfl (iM hs1.o rfl ⟨x,r2,r3,r5,m,q,ie,rfl,hs1,_,_,rfl,rfl,?_⟩)⟩
  refine⟨_,rfl,_,_,rfl,rfl,_,rfl,?_⟩
  have kk:=λH' s'=>k l H' hl (k1.trans (Keep.same s')) (tb1.same s')
  unfold rdy at kk
  rw[h9]
  by_cases z:(l.length:Int)-(1+ie)>0
  ·rw[hG z]
   refine iteT ?_
   have:=kk H1 (Same.refl H1)
   rw[hG z]at this
   exact this
  ·rw[kD z]
   refine iteF ?_
   rw[kD z]at kk
   refine⟨_,rfl,rfl,_,rfl,?_⟩
   rw[v7]
   by_cases e0:(l.length:Int)-(1+ie)=0
   ·rw[hG e0]
    rw[hG e0]at kk
    refine iteT ?_
    refine(iV rfl (iM hs1.o rfl ⟨x,r2,r3,_,r5,m,q,rfl,hs1,ft,λH2 s2=>⟨rfl,?_⟩⟩))
    have:=kk H2 s2
    cases hp:jM q.B q.P m.br q.fi with
    |none=>
     rw[hp]at this
     exact this
    |some b=>
     rw[hp]at this
     exact this
   ·rw[kD e0]
    rw[kD e0]at kk
    refine iteF ?_
    exact kk H1 (Same.refl H1)
noncomputable def spTy(t:Adr):Sp:=λvs H Q _=>∃x r2 r3 r4 r5 m q,∃b:Nat,vs=[.ref x.s,.int (b:Int)]∧StAt t H x r2 r3 r4 r5 m q∧Fit m q∧b<q.B∧NewO H (.tup (tyL m q b)) Q
theorem q67(T:Txt K mg t)(S:Fns K t):S.Store_tally.Ok0 P w mg base 5 (spTy t):=by
 refine S.Store_tally.F.ok0 q5X λcdv A _ s H vs Q E hr h=>?_
 ·obtain⟨x,r2,r3,r4,r5,m,q,b,rfl,hs,ft,hb,k⟩:=h
  have eB:=ft.eB
  refine⟨_,(qC (qL (uD (qA (pv 1) (qA (qS jB (qJ (qJ (pv 0) rfl) rfl) (pv 1) (λ_ _=>rfl)) (qA (qY (qJ (pv 0) rfl) T.cl_Chip T.m_Chip_cleared (uF T S).mono hr S.Chip_cleared.b .nil qK (qA (pv 1) qE)) (qA (qS jB (qJ (qJ (pv 0) rfl) rfl) (pv 1) (λ_ _=>rfl)) qE))))))),?_⟩
  try dsimp-beta-proj-iota-zeta-eta only[wishK,cxK]
  refine⟨_,rfl,iV rfl (iF hs.o T.cl_Even T.na_Even_book rfl (iF hs.bk.o T.cl_Book T.na_Book_live rfl ⟨_,rfl,iL (k:=_) (v:=_) (SqL.of hs.bk.l) (atV (by rw[ft.oq.ll];exact hb)) ?_⟩))⟩
  refine(iV rfl (iF hs.o T.cl_Even T.na_Even_chip rfl (iM hs.ch.ins rfl ⟨_,rfl,x.c,x.a,m,_,rfl,hs.ch,ft.ok,by omega,by omega,?_⟩)))
  rw[mK]
  refine(iV rfl (iF hs.o T.cl_Even T.na_Even_book rfl (iF hs.bk.o T.cl_Book T.na_Book_born rfl ⟨_,rfl,iL (k:=_) (v:=_) (SqL.of hs.bk.b) (atV (by rw[ft.oq.lo];exact hb)) ?_⟩)))
  exact⟨sz4,k⟩
noncomputable def spSc(t:Adr):Sp:=λvs H Q _=>∃x r2 r3 r5 m q,∃ie:Int,vs=[.ref x.s]∧StAt t H x r2 r3 (.int ie) r5 m q∧Fit m q∧∀l H',FreeIs q.B m.br m.cl q.fi l→Keep [t.T_Plain_free] H H'→TbF t H'→Q (.int (spcN ie l q.P q.fi (jM q.B q.P m.br q.fi))) H'
theorem q68(T:Txt K mg t)(S:Fns K t)(B:BmIn base mg):S.Store_space.Ok0 P w mg base 9 (spSc t):=by
 refine S.Store_space.F.ok0 q23 λcdv A _ s H vs Q E hr h=>?_
 ·obtain⟨x,r2,r3,r5,m,q,ie,rfl,hs,ft,k⟩:=h
  have eP:=ft.eP
  refine⟨_,(qB (jE (qR qB0 (jA qZ (by rfl) T.b_len gH (qA (j9 (pv 0) T.cl_Even T.m_Even_free (q06 T S B).mono hr S.b_Plain_free .nil qK) qE)) (j9 (pv 0) T.cl_Even T.m_Even_reserve (q0I T S).mono hr S.Store_reserve.b .nil qK) (qT _)) (qC (qL (qJ (qJ (pv 0) rfl) rfl))) qQ) (qB (qV (i:=1) q23.nd rfl (Or.inl rfl) (j9 (pv 0) T.cl_Even T.m_Even_part (q07 T S).mono hr S.Plain_part.b .nil qK)) (qB (jE (qR qA6 (pv 1) vJ (qT _)) (qC (qL qG)) qQ) (qC (qL (qM y9 (qJ (qJ (pv 0) rfl) rfl) (qS jB (qJ (qJ (pv 0) rfl) rfl) (pv 1) (λ_ _=>rfl)))))))),?_⟩
  try dsimp-beta-proj-iota-zeta-eta only[wishK,cxK]
  refine(iV rfl (iM hs.o rfl ⟨x,r2,r3,_,r5,m,q,rfl,hs,ft,λl p H1 hl np k1 tb1 h1=>?_⟩))
  have hs1:=hs.kT k1 tb1
  refine⟨p,_,rfl,.inl (SqL.of h1),iV rfl (iM hs1.o rfl ⟨x,r2,r3,r5,m,q,ie,rfl,hs1,_,_,rfl,rfl,_,rfl,?_⟩)⟩
  have kk:=λH' s'=>k l H' hl (k1.trans (Keep.same s')) (tb1.same s')
  unfold spcN at kk
  rw[h9]
  by_cases z:1+ie≤(l.length:Int)
  ·rw[hG (show(l.length:Int)≥1+ie from z)]
   refine iteT ?_
   refine(iV rfl (iF hs1.o T.cl_Even T.na_Even_terms rfl (iF hs1.te T.cl_Terms T.na_Terms_pages rfl ?_)))
   have:=kk H1 (Same.refl H1)
   rw[kI z,←eP]at this
   exact this
  ·rw[kD (show ¬(l.length:Int)≥1+ie from z)]
   refine iteF ?_
   refine(iV rfl (iM hs1.o rfl ⟨x,r2,r3,_,r5,m,q,rfl,hs1,ft,λH2 s2=>?_⟩))
   have kk:=kk H2 s2
   rw[kF z]at kk
   cases hp:jM q.B q.P m.br q.fi with
   |none=>
    rw[hp]at kk
    exact⟨_,rfl,rfl,_,rfl,iteT kk⟩
   |some b=>
    rw[hp]at kk
    have hs2:=hs1.same s2
    refine⟨_,rfl,rfl,_,rfl,iteF ?_⟩
    refine(iV rfl (iF hs2.o T.cl_Even T.na_Even_terms rfl (iF hs2.te T.cl_Terms T.na_Terms_pages rfl (iV rfl (iF hs2.o T.cl_Even T.na_Even_book rfl (iF hs2.bk.o T.cl_Book T.na_Book_filled rfl ⟨_,rfl,iL (k:=_) (v:=_) (SqL.of hs2.bk.f) (atV (by rw[ft.oq.lf];exact(vY hp).1)) (iI ?_)⟩))))))
    rw[eP]
    exact kk
noncomputable abbrev Tys(H:Hp)(m:CM)(q:QM):List V→List Nat→Prop:=Paired λv b=>∃p,v=.ref p∧H p=some (.tup (tyL m q b))
theorem q9Y{F:List Addr}{H H':Hp}{m:CM}{q:QM}(k:Keep F H H'){rs:List V}{L:List Nat}(r:Tys H m q rs L):Tys H' m q rs L:=Paired.mapP r λv d ⟨p,e,h⟩=>⟨p,e,k.tp _ _ h⟩
noncomputable def spFo(t:Adr):Sp:=λvs H Q _=>∃x r2 r3 r5 m q,∃ie:Int,vs=[.ref x.s]∧StAt t H x r2 r3 (.int ie) r5 m q∧Fit m q∧∀l p rs H',FreeIs q.B m.br m.cl q.fi l→H p=none→Keep [t.T_Plain_free] H H'→TbF t H'→H' p=some (.lst rs)→Tys H' m q rs ((jW q.B q.P m.br q.fi).filter λb=>decide (q.lv.getD b 0≤spcN ie l q.P q.fi (jM q.B q.P m.br q.fi)))→Q (.ref p) H'
theorem zJ(T:Txt K mg t)(S:Fns K t)(B:BmIn base mg):S.Store_full_ones.Ok0 P w mg base 10 (spFo t):=by
 refine S.Store_full_ones.F.ok0 yL λcdv A _ s H vs Q E hr h=>?_
 ·obtain⟨x,r2,r3,r5,m,q,ie,rfl,hs,ft,k⟩:=h
  have b2:=ft.oq.b2
  have eP:=ft.eP
  have sz:(16:Nat)<sizeLine:=by decide
  have fl:(jW q.B q.P m.br q.fi).length≤16:=mF (mE _ _) (mF (q1M (B:=q.B) (br:=m.br)) b2)
  refine⟨_,(qB (qV (i:=1) yL.nd rfl (Or.inr rfl) (j9 (pv 0) T.cl_Even T.m_Even_space (q68 T S B).mono hr S.Store_space.b .nil qK)) (qB (q5N (i:=2) ["self","block"] [0] rfl (y8 (j9 (pv 0) T.cl_Even T.m_Even_good (vF T S).mono hr S.Plain_good.b .nil qK)) (λ_ _ _ _ _=>(qX (i:=1) (show List.Nodup (["self","block"]:List Str)from by decide) rfl (Or.inl rfl))) (λ_ _ _ _ _=>(vC (qR vV (qS (q9C (K:=K) rfl) (uT (K:=K) rfl (uT (K:=K) rfl (pv 0) rfl) rfl) (pv 1) (λ_ _=>rfl)) (uT (K:=K) rfl (uT (K:=K) rfl (pv 0) rfl) rfl) (qT _)))) (λ_ _ _ _ _=>(pv 1)) (by kernel_rfl) (yG (by decide)) yL.nd rfl (Or.inl rfl)) (qB (q5N (i:=3) ["self","block"] [0] rfl (y8 (pv 2)) (λ_ _ _ _ _=>(qX (i:=1) (show List.Nodup (["self","block"]:List Str)from by decide) rfl (Or.inl rfl))) (λ_ _ _ _ _=>q53) (λ_ _ _ _ _=>(qY (pv 0) T.cl_Even T.m_Even_tally (q67 T S).mono hr S.Store_tally.b .nil qK (qA (pv 1) qE))) (by kernel_rfl) (yG (by decide)) yL.nd rfl (Or.inl rfl)) (qC (qL (uS ["space","tally"] [1] rfl (y8 (pv 3)) (λ_ _ _ _ _=>(qX (i:=1) (show List.Nodup (["space","tally"]:List Str)from by decide) rfl (Or.inl rfl))) (λ_ _ _ _ _=>(vC (qR qCX (qS (q7U (K:=K) rfl) (pv 1) qG (λ_ _=>rfl)) (pv 0) (qT _)))) (λ_ _ _ _ _=>(pv 1)) (by kernel_rfl) (yG (by decide)))))))),?_⟩
  try dsimp-beta-proj-iota-zeta-eta only[wishK,cxK]
  refine(iV rfl (iM hs.o rfl ⟨x,r2,r3,r5,m,q,ie,rfl,hs,ft,λl H1 hl k1 tb1=>?_⟩))
  have hs1:=hs.kT k1 tb1
  have kk:=λp rs H' np k'=>k l p rs H' hl np (k1.trans k')
  generalize spcN ie l q.P q.fi (jM q.B q.P m.br q.fi)=sp at kk
  refine(iV rfl (iM hs1.o rfl ⟨x,r2,r3,_,r5,m,q,rfl,hs1,ft,λp H2 n2 s2 h2=>?_⟩))
  refine⟨p,rfl,⟨_,SqL.of h2⟩,λD H3 nD s3 hD=>?_⟩
  refine vW (K:=K) (xs:=(uB q.B m.br).map vn) (D:=D) (λi H3=>Same H2 H3∧H3 D=some (.lst ((((uB q.B m.br).take i).filter λb=>decide (q.fi.getD b 0=(q.P:Int))).map vn))) ⟨s3,hD⟩ (λi H3 hp=>SqL.of (hp.1 _ _ h2)) (λi y H3 hy hp=>?_) (λH3 hp=>?_)
  ·obtain⟨sm,hd⟩:=hp
   have h3:=(hs1.same s2).same sm
   rw[mD]at hy
   obtain⟨b,hb,rfl⟩:=mH.mp hy
   have hi:=(kE.mp hb).1
   have mb:=q0C.mp (m8 hb)
   refine(iV rfl (iF h3.o T.cl_Even T.na_Even_book rfl (iF h3.bk.o T.cl_Book T.na_Book_filled rfl ⟨_,rfl,iL (k:=_) (v:=_) (SqL.of h3.bk.f) (atV (by rw[ft.oq.lf];exact mb.1)) (iV rfl (iF h3.o T.cl_Even T.na_Even_terms rfl (iF h3.te T.cl_Terms T.na_Terms_pages rfl ⟨rfl,_,rfl,?_⟩)))⟩)))
   rw[v7,eP,←mW hi,gW,m7]
   obtain rfl:(uB q.B m.br)[i]=b:=(kE.mp hb).2
   by_cases z:q.fi.getD (uB q.B m.br)[i] 0=(q.P:Int)
   ·rw[hG z]
    refine iteT ?_
    refine⟨_,rfl,_,hd,?_,λb o e=>?_,?_⟩
    ·rw[h9]
     have l1:(((uB q.B m.br).take i).filter λb=>decide (q.fi.getD b 0=(q.P:Int))).length≤q.B:=mF (mE _ _) (mF (by rw[gL];omega) (q1M (B:=q.B) (br:=m.br)))
     omega
    ·rw[qD (qH e nD)]
     exact sm _ _ e
    ·rw[qI,gC,hG z]
     rfl
   ·rw[kD z]
    refine iteF ⟨sm,?_⟩
    rw[hd,gC,kD z]
    simp
  ·obtain⟨sm,hd⟩:=hp
   rw[h9,gE]at hd
   have hd:H3 D=some (.lst ((jW q.B q.P m.br q.fi).map vn)):=hd
   have s13:=s2.trans sm
   have h3:=hs1.same s13
   refine⟨_,rfl,D,rfl,⟨_,SqL.of hd⟩,λD2 H4 nD2 s4 hD2=>?_⟩
   refine q9D (K:=K) (xs:=(jW q.B q.P m.br q.fi).map vn) (D:=D2) (λi H5=>∃rs,Same H3 H5∧H5 D2=some (.lst rs)∧Tys H5 m q rs ((jW q.B q.P m.br q.fi).take i)) ⟨_,s4,hD2,.nil⟩ (λi H5 hp=>by obtain⟨rs,sm5,_⟩:=hp;exact SqL.of (sm5 _ _ hd)) (λi y H5 hy hp=>?_) (λH5 hp=>?_)
   ·obtain⟨rs,sm5,hd5,ty⟩:=hp
    have h5:=h3.same sm5
    rw[mD]at hy
    obtain⟨b,hb,rfl⟩:=mH.mp hy
    have hi:=(kE.mp hb).1
    have mb:=q0C.mp (mJ.mp (m8 hb)).1
    obtain rfl:(jW q.B q.P m.br q.fi)[i]=b:=(kE.mp hb).2
    have ln:=ty.len
    rw[gL]at ln
    refine(iV rfl (iM h5.o rfl ⟨_,rfl,x,r2,r3,_,r5,m,q,_,rfl,h5,ft,mb.1,λtp H6 n6 s6 h6=>⟨_,s6 _ _ hd5,by omega,?_⟩⟩))
    have ne:∀b o,H6 b=some (.tup o)→b≠D2:=λb o e z=>by
     rw[z,s6 _ _ hd5]at e
     cases e
    refine⟨_,λb o e=>?_,qI,?_⟩
    ·rw[qD (qH e nD2)]
     exact s6 _ _ (sm5 _ _ e)
    ·rw[←mW hi]
     refine L2.Paired.snoc (Paired.mapP ty λv d ⟨p,e,h⟩=>⟨p,e,?_⟩) ⟨tp,rfl,?_⟩
     ·rw[qD (ne _ _ (s6 _ _ h))]
      exact s6 _ _ h
     ·rw[qD (ne _ _ h6)]
      exact h6
   ·obtain⟨rs,sm5,hd5,ty⟩:=hp
    rw[h9,gE]at ty
    have s15:=s13.trans sm5
    have h5:=hs1.same s15
    refine⟨_,rfl,D2,rfl,⟨_,SqL.of hd5⟩,λD3 H6 nD3 s6 hD3=>?_⟩
    refine vW (K:=K) (xs:=rs) (D:=D3) (λi H7=>∃rs',Same H5 H7∧H7 D3=some (.lst rs')∧rs'.length≤i∧Tys H5 m q rs' (((jW q.B q.P m.br q.fi).take i).filter λb=>decide (q.lv.getD b 0≤sp))) ⟨_,s6,hD3,kM _,.nil⟩ (λi H7 hp=>by obtain⟨_,sm7,_⟩:=hp;exact SqL.of (sm7 _ _ hd5)) (λi y H7 hy hp=>?_) (λH7 hp=>?_)
    ·obtain⟨rs',sm7,hd7,ln,ty'⟩:=hp
     obtain⟨b,hb,tp,rfl,htp⟩:=Paired.at ty hy
     have hi:=(kE.mp hb).1
     obtain rfl:(jW q.B q.P m.br q.fi)[i]=b:=(kE.mp hb).2
     refine⟨_,rfl,iT (k:=_) (v:=_) (SqT.of (sm7 _ _ htp)) rfl ⟨_,rfl,iI ⟨_,rfl,?_⟩⟩⟩
     have ln':=ty.len
     have hir:=(kE.mp hy).1
     have e1:((jW q.B q.P m.br q.fi).take (i+1)).filter (λb=>decide (q.lv.getD b 0≤sp))=((jW q.B q.P m.br q.fi).take i).filter (λb=>decide (q.lv.getD b 0≤sp))++(if q.lv.getD (jW q.B q.P m.br q.fi)[i] 0≤sp then[(jW q.B q.P m.br q.fi)[i]]else[]):=by
      rw[←mW hi,gW,gC]
      by_cases z:q.lv.getD (jW q.B q.P m.br q.fi)[i] 0≤sp
      ·rw[hG z,kI z];rfl
      ·rw[kD z,kF z];rfl
     rw[e1]
     by_cases z:q.lv.getD (jW q.B q.P m.br q.fi)[i] 0≤sp
     ·rw[hG z,kI z]
      refine iteT ?_
      refine⟨_,rfl,_,hd7,by omega,_,λb o e=>?_,qI,?_,L2.Paired.snoc ty' ⟨tp,rfl,htp⟩⟩
      ·rw[qD (qH e nD3)]
       exact sm7 _ _ e
      ·rw[kP]
       exact wW ln 1
     ·rw[kD z,kF z,dA]
      exact iteF ⟨_,sm7,hd7,by omega,ty'⟩
    ·obtain⟨rs',sm7,hd7,ln,ty'⟩:=hp
     rw[ty.len,gE]at ty'
     have s17:=s15.trans sm7
     refine kk D3 rs' H7 ?_ (Keep.same s17) (tb1.same s17) hd7 (q9Y (Keep.same (F:=[]) sm7) ty')
     refine k1.none (λz=>?_) (Same.free s15 nD3)
     obtain⟨ps',hT',_⟩:=tb1.same s15
     rw[hV.mp z,hT']at nD3
     cases nD3
theorem q9Z{L:List Nat}{p:Nat→Bool}{i:Nat}(hi:i<L.length):(L.take (i+1)).filter p=(L.take i).filter p++(if p L[i]=true then[L[i]]else[]):=by
 rw[←mW hi,gW,gC]
 rfl
noncomputable def spOp(t:Adr):Sp:=λvs H Q _=>∃x r2 r3 r5 m q,∃ie:Int,vs=[.ref x.s]∧StAt t H x r2 r3 (.int ie) r5 m q∧Fit m q∧∀l p rs H',FreeIs q.B m.br m.cl q.fi l→H p=none→Keep [t.T_Plain_free] H H'→TbF t H'→H' p=some (.lst rs)→Tys H' m q rs (optN ie m q l)→Q (.ref p) H'
theorem q0J(T:Txt K mg t)(S:Fns K t)(B:BmIn base mg):S.Store_with_dead_page.Ok0 P w mg base 11 (spOp t):=by
 refine S.Store_with_dead_page.F.ok0 q0F λcdv A _ s H vs Q E hr h=>?_
 ·obtain⟨x,r2,r3,r5,m,q,ie,rfl,hs,ft,k⟩:=h
  have b2:=ft.oq.b2
  have eP:=ft.eP
  have sz:(16:Nat)<sizeLine:=by decide
  have fl:(jW q.B q.P m.br q.fi).length≤16:=mF (mE _ _) (mF (q1M (B:=q.B) (br:=m.br)) b2)
  refine⟨_,(qC (qL (uS ["self","tally"] [0] rfl (y8 (j9 (pv 0) T.cl_Even T.m_Even_full_ones (zJ T S B).mono hr S.Store_full_ones.b .nil qK)) (λ_ _ _ _ _=>(qX (i:=1) (show List.Nodup (["self","tally"]:List Str)from by decide) rfl (Or.inl rfl))) (λ_ _ _ _ _=>(vC (qR q3M (qS (q7U (K:=K) rfl) (pv 1) qG (λ_ _=>rfl)) (uT (K:=K) rfl (uT (K:=K) rfl (pv 0) rfl) rfl) (qT _)))) (λ_ _ _ _ _=>(pv 1)) (by kernel_rfl) (yG (by decide))))),?_⟩
  try dsimp-beta-proj-iota-zeta-eta only[wishK,cxK]
  refine(iV rfl (iM hs.o rfl ⟨x,r2,r3,r5,m,q,ie,rfl,hs,ft,λl p0 rs H5 hl np k1 tb1 hd5 ty=>?_⟩))
  have h5:=hs.kT k1 tb1
  have kk:=λp rs H' np=>k l p rs H' hl np
  unfold optN at kk
  have fl':=mF (mE (λb=>decide (q.lv.getD b 0≤spcN ie l q.P q.fi (jM q.B q.P m.br q.fi))) _) fl
  generalize (jW q.B q.P m.br q.fi).filter (λb=>decide (q.lv.getD b 0≤spcN ie l q.P q.fi (jM q.B q.P m.br q.fi)))=L at kk ty fl'
  refine⟨p0,rfl,⟨_,SqL.of hd5⟩,λD3 H6 nD3 s6 hD3=>?_⟩
  refine vW (K:=K) (xs:=rs) (D:=D3) (λi H7=>∃rs',Same H5 H7∧H7 D3=some (.lst rs')∧rs'.length≤i∧Tys H5 m q rs' ((L.take i).filter λb=>decide (q.lv.getD b 0<(q.P:Int)))) ⟨_,s6,hD3,kM _,.nil⟩ (λi H7 hp=>by obtain⟨_,sm7,_⟩:=hp;exact SqL.of (sm7 _ _ hd5)) (λi y H7 hy hp=>?_) (λH7 hp=>?_)
  ·obtain⟨rs',sm7,hd7,ln,ty'⟩:=hp
   obtain⟨b,hb,tp,rfl,htp⟩:=Paired.at ty hy
   have hi:=(kE.mp hb).1
   obtain rfl:L[i]=b:=(kE.mp hb).2
   have h7:=h5.same sm7
   refine⟨_,rfl,iT (k:=_) (v:=_) (SqT.of (sm7 _ _ htp)) rfl (iV rfl (iF h7.o T.cl_Even T.na_Even_terms rfl (iF h7.te T.cl_Terms T.na_Terms_pages rfl (iI ⟨_,rfl,?_⟩))))⟩
   rw[eP,q9Z hi]
   by_cases z:q.lv.getD L[i] 0<(q.P:Int)
   ·rw[hG z,kI rfl]
    refine iteT ?_
    refine⟨_,rfl,_,hd7,by omega,_,λb o e=>?_,qI,?_,L2.Paired.snoc ty' ⟨tp,rfl,htp⟩⟩
    ·rw[qD (qH e nD3)]
     exact sm7 _ _ e
    ·rw[kP]
     exact wW ln 1
   ·rw[kD z,kF (by decide),dA]
    exact iteF ⟨_,sm7,hd7,by omega,ty'⟩
  ·obtain⟨rs',sm7,hd7,ln,ty'⟩:=hp
   rw[ty.len,gE]at ty'
   refine kk D3 rs' H7 ?_ (k1.trans (Keep.same sm7)) (tb1.same sm7) hd7 (q9Y (Keep.same (F:=[]) sm7) ty')
   refine k1.none (λz=>?_) nD3
   obtain⟨ps',hT',_⟩:=tb1
   rw[hV.mp z,hT']at nD3
   cases nD3
theorem _root_.L2.ChipAt.has{C c:Addr}{a:CA}{m:CM}{H:Hp}(h:ChipAt C H c a m){b:Addr}(hb:b∈a.li::foot c a):∃o,H b=some o∧(b≠c→∀C d f,o≠ .ins C d f):=by
 obtain⟨rs,er,_⟩:=h.rc
 have hb:b=a.li∨b=c∨b=a.bo∨b=a.cl∨b=a.dc∨b=a.br∨b=a.rc:=by simpa[foot]using hb
 rcases hb with rfl|rfl|rfl|rfl|rfl|rfl|rfl
 ·exact⟨_,h.li,λ_ _ _ _ z=>by cases z⟩
 ·exact⟨_,h.ins,λn=>absurd rfl n⟩
 ·exact⟨_,h.bo,λ_ _ _ _ z=>by cases z⟩
 ·exact⟨_,h.cl,λ_ _ _ _ z=>by cases z⟩
 ·exact⟨_,h.dc,λ_ _ _ _ z=>by cases z⟩
 ·exact⟨_,h.br,λ_ _ _ _ z=>by cases z⟩
 ·exact⟨_,er,λ_ _ _ _ z=>by cases z⟩
theorem StAt.off{H:Hp}{x:Sto}{r2 r3 r4 r5:V}{m:CM}{q:QM}(h:StAt t H x r2 r3 r4 r5 m q){p:Addr}(n:H p=none):p∉t.T_Plain_free::sf x:=λz=>by
 obtain⟨rs,er,_⟩:=h.ch.rc
 obtain⟨ps,hT,_⟩:=h.tb
 have z:p=t.T_Plain_free∨p=x.c∨p=x.a.bo∨p=x.a.cl∨p=x.a.dc∨p=x.a.br∨p=x.a.rc∨p=x.k.bk∨p=x.k.wv∨p=x.k.lv∨p=x.k.fi∨p=x.k.bo:=by simpa[sf,bf,foot]using z
 rcases z with rfl|rfl|rfl|rfl|rfl|rfl|rfl|rfl|rfl|rfl|rfl|rfl
 ·rw[hT]at n;cases n
 ·rw[h.ch.ins]at n;cases n
 ·rw[h.ch.bo]at n;cases n
 ·rw[h.ch.cl]at n;cases n
 ·rw[h.ch.dc]at n;cases n
 ·rw[h.ch.br]at n;cases n
 ·rw[er]at n;cases n
 ·rw[h.bk.o]at n;cases n
 ·rw[h.bk.w]at n;cases n
 ·rw[h.bk.l]at n;cases n
 ·rw[h.bk.f]at n;cases n
 ·rw[h.bk.b]at n;cases n
noncomputable def spPi(t:Adr):Sp:=λvs H Q E=>∃x dx tm td c a r2 r3 r4 r5,∃m:CM,∃B P:Nat,vs=[.ref x,.ref c,.ref tm]∧H x=some (.ins t.C_Even dx [])∧H tm=some (.ins t.C_Terms td (teF (.int (B:Int)) (.int (P:Int)) r2 r3 r4 r5))∧ChipAt t.C_Chip H c a m∧m.bl=(B:Int)∧m.pg=(P:Int)∧B≤16∧TbF t H∧
 ∀k H',H' x=some (.ins t.C_Even dx [("chip",.ref c),("terms",.ref tm),("book",.ref k.bk)])→(∀ru pa H2,Keep [x] H' H2→H2 x=some (.ins t.C_Even dx [("chip",.ref c),("terms",.ref tm),("book",.ref k.bk),("rule",ru),("papers",pa)])→StAt t H2 ⟨x,dx,tm,td,c,a,k,ru,pa⟩ r2 r3 r4 r5 m (bk0 B P))→(∀b∈bf k,H b=none)→(∀b o,b≠x→H b=some o→H' b=some o)→Q .non H'
theorem q6R(T:Txt K mg t)(S:Fns K t):S.Plain_init.Ok0 P w mg base 3 (spPi t):=by
 refine S.Plain_init.F.ok0 q6J λcdv A _ s H vs Q E hr h=>?_
 ·obtain⟨x,dx,tm,td,c,a,r2,r3,r4,r5,m,B,P',rfl,hx,htm,hc,eB,eP,hB,tb,k⟩:=h
  refine⟨_,(qB (jE (PW.pt (qAW (qR q2U (qJ (pv 2) rfl) (qJ (pv 1) rfl) (qT _)) (q7J (qR q2U (qJ (pv 2) rfl) (qJ (pv 1) rfl) (qT _))))) (qC jH) qQ) (qB (jN (pv 0) (pv 1) rfl) (qB (jN (pv 0) (pv 2) rfl) (qC (jN (pv 0) (q51 T.mk_Book (q8H T S).mono hr rfl T.mg_Book S.Book_init.b .nil qK (qA (qJ (pv 1) rfl) (qA (qJ (pv 1) rfl) qE))) rfl))))),?_⟩
  try dsimp-beta-proj-iota-zeta-eta only[wishK,cxK]
  refine(iV rfl (iF htm T.cl_Terms T.na_Terms_blocks rfl (iV rfl (iF hc.ins T.cl_Chip T.na_Chip_blocks rfl ⟨rfl,_,rfl,?_⟩))))
  rw[show(!decide (V.int (B:Int)=V.int m.bl))=false by rw[eB];simp]
  refine iteF ?_
  refine(iV rfl (iF htm T.cl_Terms T.na_Terms_pages rfl (iV rfl (iF hc.ins T.cl_Chip T.na_Chip_pages rfl ⟨rfl,_,rfl,?_⟩))))
  rw[show(!decide (V.int (P':Int)=V.int m.pg))=false by rw[eP];simp]
  refine iteF ?_
  refine⟨_,rfl,_,rfl,x,_,dx,_,rfl,hx,T.cl_Even,T.na_Even_chip,by decide,?_⟩
  refine⟨_,rfl,_,rfl,x,_,dx,_,rfl,qI,T.cl_Even,T.na_Even_terms,by show 1<1000;decide,?_⟩
  rw[q7I]
  have tx:tm≠x:=jU htm hx (by intro z;injection z with z1 z2 z3;unfold teF at z3;cases z3)
  have cx:c≠x:=jU hc.ins hx (by intro z;injection z with z1 z2 z3;unfold chF at z3;cases z3)
  have k1:∀b o,b≠x→H b=some o→(upd H x (.ins t.C_Even dx [("chip",.ref c),("terms",.ref tm)])) b=some o:=λb o nb e=>by
   rw[qD nb]
   exact e
  have o1:(upd H x (.ins t.C_Even dx [("chip",.ref c),("terms",.ref tm)])) x=some (.ins t.C_Even dx [("chip",.ref c),("terms",.ref tm)]):=qI
  have f1:∀b,(upd H x (.ins t.C_Even dx [("chip",.ref c),("terms",.ref tm)])) b=none→H b=none:=λb e=>by
   by_cases z:b=x
   ·rw[z,qI]at e
    cases e
   ·rw[qD z]at e
    exact e
  rw[show putF "terms" (.ref tm) (putF "chip" (.ref c) ([]:List (Str×V)))=([("chip",V.ref c),("terms",V.ref tm)]:List (Str×V))from rfl]
  generalize upd H x (.ins t.C_Even dx [("chip",.ref c),("terms",.ref tm)])=H1 at k1 o1 f1 ⊢
  have hc1:=k1 _ _ cx hc.ins
  refine(iV rfl (iF hc1 T.cl_Chip T.na_Chip_blocks rfl (iV rfl (iF hc1 T.cl_Chip T.na_Chip_pages rfl (λk' kd nk nkd nn=>?_)))))
  rw[eB,eP]
  refine⟨k',kd,B,P',rfl,hB,qI,λka H3 e1 e2 hb3 ds fr up=>⟨rfl,?_⟩⟩
  have s0:Same H1 (upd (upd H1 kd (.own k')) k' (.ins t.C_Book kd [])):=q2H nk nkd
  have up':∀b o,H1 b=some o→H3 b=some o:=λb o e=>up b o (qH e nk) (s0 b o e)
  refine⟨_,rfl,x,_,dx,_,rfl,up' _ _ o1,T.cl_Even,T.na_Even_book,by show 2<1000;decide,?_⟩
  have hx3:=up' _ _ o1
  have kx:ka.bk≠x:=by
   rw[e1]
   exact(qH o1 nk).symm
  have lH:∀b∈bf ka,H b=none:=λb hb=>by
   have hb:b=ka.bk∨b∈[ka.wv,ka.lv,ka.fi,ka.bo]:=by simpa[bf]using hb
   rcases hb with rfl|hb
   ·rw[e1]
    exact f1 _ nk
   ·exact f1 _ (Same.free s0 (fr b hb))
  have kpx:∀b o,b≠x→H3 b=some o→(upd H3 x (.ins t.C_Even dx (putF "book" (.ref k') [("chip",V.ref c),("terms",V.ref tm)]))) b=some o:=λb o nb e=>by
   rw[qD nb]
   exact e
  have up2:∀b o,b≠x→H b=some o→(upd H3 x (.ins t.C_Even dx (putF "book" (.ref k') [("chip",V.ref c),("terms",V.ref tm)]))) b=some o:=λb o nb e=>kpx b o nb (up' b o (k1 b o nb e))
  have nx:∀{b:Addr} {o:HO},H3 b=some o→(∀C d fs,o≠ .ins C d fs)→b≠x:=fun {b o} e n z=>by
   rw[z,hx3]at e
   exact n _ _ _ (kQ e).symm
  have cfx:∀b∈a.li::foot c a,b≠x:=λb hb z=>by
   obtain⟨o,e,no⟩:=hc.has hb
   by_cases y:b=c
   ·exact cx (y.symm.trans z)
   ·rw[z,hx]at e
    exact no y _ _ _ (kQ e).symm
  refine k ka _ (by rw[e1];exact qI) (λru pa H2 kk hx2=>?_) lH up2
  have kp2:∀b o,b≠x→H3 b=some o→H2 b=some o:=λb o nb e=>kk.k b o (by simpa using nb) (kpx b o nb e)
  have up3:∀b o,b≠x→H b=some o→H2 b=some o:=λb o nb e=>kk.k b o (by simpa using nb) (up2 b o nb e)
  have kK:Keep [x] H H2:=⟨λb o nb e=>up3 b o (λz=>nb (by rw[z];simp)) e,λb xs e=>up3 b _ (λz=>by rw[z,hx]at e;cases e) e⟩
  refine⟨hx2,?_,?_,?_,?_,ds,?_,?_⟩
  ·rw[eB,eP]
   exact up3 _ _ tx htm
  ·exact hc.keep kK (λb hb z=>cfx b hb (hV.mp z))
  ·exact⟨kp2 _ _ kx hb3.o,kp2 _ _ (nx hb3.w (λ_ _ _ z=>by cases z)) hb3.w,kp2 _ _ (nx hb3.l (λ_ _ _ z=>by cases z)) hb3.l,kp2 _ _ (nx hb3.f (λ_ _ _ z=>by cases z)) hb3.f,kp2 _ _ (nx hb3.b (λ_ _ _ z=>by cases z)) hb3.b⟩
  ·exact tb.gen λb o to e=>up3 _ _ (yO to e hx q2M) e
  ·intro b hb z
   obtain⟨o,e,_⟩:=hc.has hb
   rw[lH b z]at e
   cases e
  ·intro b hb z
   have hb:b=x∨b=tm:=by simpa using hb
   have y0:b∈foot c a∨b∈bf ka:=by simpa[sf]using z
   clear z
   rcases y0 with z|z
   ·rcases hb with rfl|rfl
    ·exact cfx _ (hX _ z) rfl
    ·obtain⟨o,e,no⟩:=hc.has (hX _ z)
     by_cases y:b=c
     ·rw[y,hc.ins]at htm
      have htm:=kQ htm
      injection htm with z1 z2 z3
      unfold chF teF at z3
      have:=dR List.length z3
      simp at this
     ·rw[htm]at e
      exact no y _ _ _ (kQ e).symm
   ·have n:=lH b z
    rcases hb with rfl|rfl
    ·rw[hx]at n;cases n
    ·rw[htm]at n;cases n
noncomputable def spSi(t:Adr):Sp:=λvs H Q E=>∃x dx tm td c a r2 r3 r4 r5 ru,∃m:CM,∃B P:Nat,vs=[.ref x,.ref c,.ref tm,ru]∧H x=some (.ins t.C_Even dx [])∧H tm=some (.ins t.C_Terms td (teF (.int (B:Int)) (.int (P:Int)) r2 r3 r4 r5))∧ChipAt t.C_Chip H c a m∧m.bl=(B:Int)∧m.pg=(P:Int)∧B≤16∧TbF t H∧
 ∀k p H',StAt t H' ⟨x,dx,tm,td,c,a,k,ru,.ref p⟩ r2 r3 r4 r5 m (bk0 B P)→H' p=some (.lst [])→H p=none→(∀b∈bf k,H b=none)→p∉t.T_Plain_free::sf ⟨x,dx,tm,td,c,a,k,ru,.ref p⟩→(∀b o,b≠x→H b=some o→H' b=some o)→Q .non H'
theorem q6S(T:Txt K mg t)(S:Fns K t):S.Store_init.Ok0 P w mg base 4 (spSi t):=by
 refine S.Store_init.F.ok0 q6M λcdv A _ s H vs Q E hr h=>?_
 ·obtain⟨x,dx,tm,td,c,a,r2,r3,r4,r5,ru,m,B,P',rfl,hx,htm,hc,eB,eP,hB,tb,k⟩:=h
  refine⟨_,(qB (j8 (qJ7 T.ci_Plain (q6R T S).mono hr rfl T.mg_Plain S.Plain_init.b .nil qK (qA (pv 0) (qA (pv 1) (qA (pv 2) qE))))) (qB (jN (pv 0) (pv 3) rfl) (qC (jN (pv 0) (jX qE) rfl)))),?_⟩
  try dsimp-beta-proj-iota-zeta-eta only[wishK,cxK]
  refine⟨_,rfl,_,rfl,_,rfl,x,dx,tm,td,c,a,r2,r3,r4,r5,m,B,P',rfl,hx,htm,hc,eB,eP,hB,tb,λka H1 hx1 st fk up=>?_⟩
  refine⟨_,rfl,_,rfl,x,_,dx,_,rfl,hx1,T.cl_Even,T.na_Even_rule,by show 3<1000;decide,?_⟩
  refine⟨sz0,λp H2 np s2 h2=>?_⟩
  have px:p≠x:=λz=>by rw[z,qI]at np;cases np
  rw[qD px]at np
  have hx2:=s2 _ _ qI
  refine⟨_,rfl,x,_,dx,_,rfl,hx2,T.cl_Even,T.na_Even_papers,by show 4<1000;decide,?_⟩
  have stA:=st ru .non (upd H1 x (.ins t.C_Even dx [("chip",.ref c),("terms",.ref tm),("book",.ref ka.bk),("rule",ru),("papers",.non)])) (Keep.upd hx1 (λ_ z=>by cases z) (by simp)) qI
  have off:=stA.off (p:=p) (by rw[qD px];exact np)
  have kA:Keep [x] H1 (upd H2 x (.ins t.C_Even dx (putF "papers" (.ref p) (putF "rule" ru [("chip",.ref c),("terms",.ref tm),("book",.ref ka.bk)])))):=((Keep.upd hx1 (λ_ z=>by cases z) (by simp)).trans (Keep.same s2)).trans (Keep.upd hx2 (λ_ z=>by cases z) (by simp))
  refine k ka p _ (st ru (.ref p) _ kA qI) (by rw[qD px];exact h2) ?_ fk off (λb o nb e=>kA.k b o (by simpa using nb) (up b o nb e))
  cases e:H p with
  |none=>rfl
  |some o=>
   rw[up p o px e]at np
   cases np
noncomputable def spEm(t:Adr):Sp:=λvs H Q _=>∃a,∃m:QM,∃b,vs=[.ref a.bk,.int ((b:Nat):Int)]∧BkAt t H a m∧m.Ok∧Dst a∧b<m.B∧∀H',BkAt t H' a (m.emptied b)→Keep [a.fi,a.bo] H H'→Q .non H'
theorem q4X(T:Txt K mg t)(S:Fns K t):S.Book_emptied.Ok0 P w mg base 1 (spEm t):=by
 refine S.Book_emptied.F.ok0 q4P λcdv A _ s H vs Q E hr h=>?_
 ·obtain⟨a,m,b,rfl,hb,ok,ds,hB,q⟩:=h
  have of':a.bk≠a.fi:=jU hb.o hb.f (by intro z;cases z)
  have oo:a.bk≠a.bo:=jU hb.o hb.b (by intro z;cases z)
  have wf:a.wv≠a.fi:=jU hb.w hb.f (by intro z;cases z)
  have wb:a.wv≠a.bo:=jU hb.w hb.b (by intro z;cases z)
  have hbf:b<m.fi.length:=by rw[ok.lf];exact hB
  have hbo:b<m.bo.length:=by rw[ok.lo];exact hB
  refine⟨_,(qB (q2Z qG (q40 (qJ (pv 0) rfl) (pv 1) yU)) (qC (q2Z qG (q40 (qJ (pv 0) rfl) (pv 1) yU)))),?_⟩
  try dsimp-beta-proj-iota-zeta-eta only[wishK,cxK]
  refine(iV rfl (iF hb.o T.cl_Book T.na_Book_filled rfl ⟨_,rfl,a.fi,_,_,b,rfl,rfl,hb.f,q32 (by rw[h9];exact hbf),?_⟩))
  rw[setV]
  have b1:(upd H a.fi (.lst ((m.fi.set b 0).map V.int))) a.bo=some (.lst (m.bo.map V.int)):=by rw[qD ds.fb.symm];exact hb.b
  have o1':∀o,H a.bk=some o→(upd H a.fi (.lst ((m.fi.set b 0).map V.int))) a.bk=some o:=λo e=>by rw[qD of'];exact e
  have o1:=o1' _ hb.o
  refine(iV rfl (iF o1 T.cl_Book T.na_Book_born rfl ⟨_,rfl,a.bo,_,_,b,rfl,rfl,b1,q32 (by rw[h9];exact hbo),?_⟩))
  rw[setV]
  refine q _ ⟨?_,?_,?_,?_,?_⟩ (Keep.trans (H1:=upd H a.fi (.lst ((m.fi.set b 0).map V.int))) (Keep.upd hb.f (λ_ z=>by cases z) (by simp)) (Keep.upd b1 (λ_ z=>by cases z) (by simp)))
  ·rw[qD oo]
   exact o1
  ·rw[qD wb,qD wf]
   exact hb.w
  ·rw[qD ds.lb,qD ds.lf]
   exact hb.l
  ·rw[qD ds.fb]
   exact qI
  ·exact qI
noncomputable def lpK(P b:Nat)(V:Mp):List (List Int):=(V.filter λq=>decide (q.2 / (P:Int)=(b:Int))).map λq=>[q.2,q.1]
theorem qA0{P b:Nat}{V:Mp}{q:Int×Int}:lpK P b (V++[q])=if q.2 / (P:Int)=(b:Int)then lpK P b V++[[q.2,q.1]]else lpK P b V:=by
 unfold lpK
 rw[gW,m7]
 by_cases e:q.2 / (P:Int)=(b:Int)
 ·rw[kI e]
  simp[e]
 ·rw[kF e]
  simp[e]
noncomputable def spLp(t:Adr):Sp:=λvs H Q _=>∃a,∃m:QM,∃b,vs=[.ref a.bk,.int ((b:Nat):Int)]∧BkAt t H a m∧m.Ok∧m.V.length<64∧∀l us rs H',Same H H'→H l=none→H' l=some (.lst us)→Paired (TupD H') us rs→rs.Perm (lpK m.P b m.V)→(rs.Pairwise λa b=>lx b a=false)→Q (.ref l) H'
theorem q3H(T:Txt K mg t)(S:Fns K t):S.Book_live_pages.Ok0 P w mg base 1 (spLp t):=by
 refine S.Book_live_pages.F.ok0 q3C λcdv A _ s H vs Q E hr h=>?_
 ·obtain⟨a,m,b,rfl,hb,ok,lV,q⟩:=h
  have hu:=q79 hr
  have p1:=ok.p1
  have p2:=ok.p2
  have ob:a.bk≠a.wv:=jU hb.o hb.w (by intro z;cases z)
  refine⟨_,(qC (qL (jA q7X (by rfl) T.b_sorted (by kernel_rfl) (qA (qB9 (uS ["self","block","name","page"] [0,1] rfl (qIS (qHV PySem.F.plainAttrs_dict PySem.F.slot_dict_items PySem.F.type_dict_items qE2 (qJ (pv 0) rfl))) (λ_ _ _ _ _=>(qFZ (K:=K) (n:=2) rfl rfl (uA (qX (i:=2) (show List.Nodup (["self","block","name","page"]:List Str)from by decide) rfl (Or.inl rfl)) (uA (qX (i:=3) (show List.Nodup (["self","block","name","page"]:List Str)from by decide) rfl (Or.inl rfl)) q4Y)) rfl rfl)) (λ_ _ _ _ _=>(vC (qR vV (qM uQ (pv 3) (uT (K:=K) rfl (pv 0) rfl)) (pv 1) (qT _)))) (λ_ _ _ _ _=>(uD (qA (pv 3) (qA (pv 2) qE)))) (by kernel_rfl) (qFS (q9A (by decide) (q9A (by decide) qFR))))) qE)))),?_⟩
  try dsimp-beta-proj-iota-zeta-eta only[wishK,cxK]
  refine⟨a.wv,_,hb.w,iV rfl (iF hb.o T.cl_Book T.na_Book_where rfl ⟨.inr (.inr (.inl ⟨rfl,.inl ⟨_,hb.w⟩⟩)),a.wv,_,rfl,rfl,hb.w,λv nv=>?_⟩)⟩
  have sv:Same H (upd H v (q4K v a.wv)):=Same.upd nv
  have vv:(upd H v (q4K v a.wv)) v=some (q4K v a.wv):=qI
  generalize upd H v (q4K v a.wv)=H1 at sv vv ⊢
  refine⟨v,a.wv,_,rfl,vv,sv _ _ hb.w,λo D H2 nD s2 hD=>?_⟩
  have kk:∀x u,x≠a.wv→H x=some u→H2 x=some u:=λx u nx e=>s2 _ _ (by rw[qD nx];exact sv _ _ e)
  have fz:H2 a.wv=some (.frz o (.dK (dI m.V))):=s2 _ _ qI
  have nDH:H D=none:=by
   cases z:H D with
   |none=>rfl
   |some u=>
    by_cases y:D=a.wv
    ·rw[y,qI]at nD
     cases nD
    ·rw[qD y,sv _ _ z]at nD
     cases nD
  have Dw:D≠a.wv:=λz=>by rw[z,fz]at hD;cases hD
  refine qG0 (D:=D) (λi H3=>H3 a.wv=some (.frz o (.dK (dI m.V)))∧(∀x u,x≠a.wv→H x=some u→H3 x=some u)∧∃us,H3 D=some (.lst us)∧Paired (TupD H3) us (lpK m.P b (m.V.take i))) ⟨fz,kk,[],hD,.nil⟩ (λi H3 hp=>hp.1) (λi kv W H3 hk hp nW=>?_) (λH3 hp=>?_)
  ·obtain⟨fz3,k3,us,hd,pr⟩:=hp
   have hi:i<m.V.length:=by
    have:=(kE.mp hk).1
    rw[q63]at this
    exact this
   obtain rfl:((Sum.inl m.V[i].1:Key),V.int m.V[i].2)=kv:=by
    have e:(dI m.V)[i]?=some ((Sum.inl m.V[i].1:Key),V.int m.V[i].2):=by unfold dI;rw[mD,hU hi];rfl
    rw[e]at hk
    exact kQ hk
   have sW:Same H3 (upd H3 W (.tup [.int m.V[i].1,.int m.V[i].2])):=Same.upd nW
   have hW:(upd H3 W (.tup [.int m.V[i].1,.int m.V[i].2])) W=some (.tup [.int m.V[i].1,.int m.V[i].2]):=qI
   show gTup _ _ _ _ _ (upd H3 W (.tup [.int m.V[i].1,.int m.V[i].2])) _
   generalize upd H3 W (.tup [.int m.V[i].1,.int m.V[i].2])=H4 at sW hW ⊢
   refine⟨W,_,rfl,SqT.of hW,rfl,_,_,rfl,_,_,rfl,rfl,?_⟩
   refine⟨_,rfl,iV rfl (iF (sW _ _ (k3 _ _ ob hb.o)) T.cl_Book T.na_Book_pages rfl (iI ⟨⟨by omega,by omega⟩,_,rfl,rfl,_,rfl,?_⟩))⟩
   rw[v7]
   have tk:m.V.take (i+1)=m.V.take i++[m.V[i]]:=(mW hi).symm
   by_cases e:m.V[i].2 / (m.P:Int)=(b:Int)
   ·rw[hG e]
    refine iteT ?_
    refine⟨_,rfl,_,rfl,sz2,λtp H5 n5 s5 h5=>?_⟩
    have s35:=sW.trans s5
    have hd5:=s35 _ _ hd
    have lu:us.length≤64:=by
     have:=pr.len
     have l2:(lpK m.P b (m.V.take i)).length≤(m.V.take i).length:=by unfold lpK;rw[h9];exact mE _ _
     rw[gL]at l2
     omega
    refine⟨us,hd5,(by have:(64:Nat)<sizeLine:=by decide
                      omega),?_,λx u nx e'=>?_,us++[.ref tp],qI,?_⟩
    ·rw[qD Dw.symm]
     exact s35 _ _ fz3
    ·rw[qD (qH e' nDH)]
     exact s35 _ _ (k3 _ _ nx e')
    ·rw[tk,qA0,kI e]
     exact L2.Paired.snoc (Paired.mapP (vX pr s35) λx k z=>z.upd hd5 (λ_ q=>by cases q)) (TupD.upd ⟨tp,rfl,h5⟩ hd5 (λ_ q=>by cases q))
   ·rw[kD e]
    refine iteF ?_
    refine⟨sW _ _ fz3,λx u nx e'=>sW _ _ (k3 _ _ nx e'),us,sW _ _ hd,?_⟩
    rw[tk,qA0,kF e]
    exact vX pr sW
  ·obtain⟨fz3,k3,us,hd,pr⟩:=hp
   rw[q63,gE]at pr
   refine⟨o,_,fz3,?_⟩
   have sH:Same H (upd H3 a.wv (.dK (dI m.V))):=qE8 hb.w k3
   have hd4:(upd H3 a.wv (.dK (dI m.V))) D=some (.lst us):=by rw[qD Dw];exact hd
   have pr4:Paired (TupD (upd H3 a.wv (.dK (dI m.V)))) us (lpK m.P b m.V):=Paired.mapP pr λx k z=>z.upd fz3 (λ_ q=>by cases q)
   generalize upd H3 a.wv (.dK (dI m.V))=H4 at sH hd4 pr4 ⊢
   have hl:(lpK m.P b m.V).length<64:=by
    unfold lpK
    rw[h9]
    exact cG (mE _ _) lV
   have ul:=pr4.len
   refine⟨D,us,lpK m.P b m.V,2,rfl,SqL.of hd4,qBG pr4,λk hk=>?_,by decide,by omega,λqs pp pw l H5 n5 s5 h5=>?_⟩
   ·unfold lpK at hk
    obtain⟨x,_,rfl⟩:=kZ.mp hk
    rfl
   ·refine q l _ _ H5 (sH.trans s5) (sH.free n5) h5 (qAK (vX pr4 s5) λi hi=>mM.mp (pp.mem_iff.mp hi)) (qAJ ul.symm pp) pw
theorem qBV(xs:List V)(i:Nat):∀n p,(clr xs i n).getD p .non=if i≤p∧p<i+n then .non else xs.getD p .non
 |0,p=>by rw[kF (by omega)];rfl
 |n+1,p=>by
  show((clr xs i n).set (i+n) .non).getD p .non=_
  rw[jG,qBV xs i n p]
  by_cases e:i+n=p
  ·subst e
   rw[kI (show i≤i+n∧i+n<i+(n+1) by omega),kF (show ¬(i≤i+n∧i+n<i+n) by omega)]
   by_cases z:i+n<(clr xs i n).length
   ·rw[kI ⟨rfl,z⟩]
   ·rw[kF (λy=>z y.2)]
    rw[q52]at z
    rw[kJ,rL (by omega)]
    rfl
  ·rw[kF (λy=>e y.1)]
   by_cases z:i≤p∧p<i+n
   ·rw[kI z,kI (by omega)]
   ·rw[kF z,kF (by omega)]
structure PgAt(H:Hp)(bs:List V)(pg:Nat→Option (Int×Int)):Prop where
 n:∀i,pg i=none→bs.getD i .non=.non
 v:∀i v,pg i=some v→∃tp,bs.getD i .non=.ref tp∧H tp=some (.tup [.int v.1,.int v.2])
theorem PgAt.keep{F:List Addr}{H H':Hp}{bs:List V}{pg:Nat→Option (Int×Int)}(h:PgAt H bs pg)(k:Keep F H H'):PgAt H' bs pg:=⟨h.n,λi v e=>by
 obtain⟨tp,e1,e2⟩:=h.v i v e
 exact⟨tp,e1,k.tp _ _ e2⟩⟩
structure Cm(m:CM)(s:XS):Prop where
 ft:Fit m s.q
 br:m.br=noB s.q.B
 li:∀b,valV m.lim (Sum.inl b)=none
 mo:m.mo=1000000
 cl:m.cl=s.cl
 lf:m.lf=s.lf
 rc:m.rc=s.rc
theorem Cm.gd{m:CM}{s:XS}(h:Cm m s):Gd m:=⟨λb=>by rw[h.br];exact rep8,h.li⟩
structure XR(t:Adr)(H:Hp)(x:Sto)(k:Tm)(sh sr:Int)(s:XS):Prop where
 e:∃m:CM,StAt t H x (.int sh) (.int sr) (.int (k.ie:Int)) (.int k.sp) m s.q∧Cm m s∧PgAt H m.bo s.pg
 w:WX k s
theorem Cm.pgs{m:CM}{s:XS}(h:Cm m s){b f:Nat}(hb:b<s.q.B)(hf:f<s.q.P):((b*s.q.P+f:Nat):Int)≤m.bl*m.pg-1∧b*s.q.P+f<m.bo.length:=by
 have nbo:=h.ft.ok.nbo
 rw[h.ft.eB,h.ft.eP,←dO]at *
 have:b*s.q.P+f<s.q.B*s.q.P:=(Nat.div_lt_iff_lt_mul (by omega)).mp (by rw[yD hf];exact hb)
 omega
section
variable{H H':Hp}{x:Sto}{k:Tm}{sh sr:Int}{s:XS}
theorem XR.keep(j:XR t H x k sh sr s){F:List Addr}(kk:Keep F H H')(n:∀b∈[x.s,x.tm]++(x.a.li::sf x),b∉F)(tb:TbF t H'):XR t H' x k sh sr s:=by
 obtain⟨m,st,c,pg⟩:=j.e
 exact⟨⟨m,st.keep kk n tb,c,pg.keep kk⟩,j.w⟩
theorem XR.kT(j:XR t H x k sh sr s)(kk:Keep [t.T_Plain_free] H H')(tb:TbF t H'):XR t H' x k sh sr s:=by
 obtain⟨m,st,c,pg⟩:=j.e
 exact⟨⟨m,st.kT kk tb,c,pg.keep kk⟩,j.w⟩
theorem XR.tb(j:XR t H x k sh sr s):TbF t H:=by
 obtain⟨m,st,c,pg⟩:=j.e
 exact st.tb
theorem XR.same(j:XR t H x k sh sr s)(ss:Same H H'):XR t H' x k sh sr s:=by
 obtain⟨m,st,c,pg⟩:=j.e
 exact⟨⟨m,st.same ss,c,pg.keep (F:=[]) (Keep.same ss)⟩,j.w⟩
theorem XR.o(j:XR t H x k sh sr s):H x.s=some (.ins t.C_Even x.sd [("chip",.ref x.c),("terms",.ref x.tm),("book",.ref x.k.bk),("rule",x.ru),("papers",x.pa)]):=by
 obtain⟨m,st,c,pg⟩:=j.e
 exact st.o
theorem XR.inH(j:XR t H x k sh sr s):∀y∈t.T_Plain_free::sf x,∃o,H y=some o:=λy hy=>by
 obtain⟨m,hs,_⟩:=j.e
 rcases kL.mp hy with e|e
 ·obtain⟨pt,hT,_⟩:=hs.tb
  exact⟨_,by rw[e];exact hT⟩
 ·unfold sf at e
  rcases gO.mp e with e|e
  ·obtain⟨o,ho,_⟩:=hs.ch.has (hX _ e)
   exact⟨o,ho⟩
  ·have e:y=x.k.bk∨y=x.k.wv∨y=x.k.lv∨y=x.k.fi∨y=x.k.bo:=by simpa[bf]using e
   rcases e with rfl|rfl|rfl|rfl|rfl
   ·exact⟨_,hs.bk.o⟩
   ·exact⟨_,hs.bk.w⟩
   ·exact⟨_,hs.bk.l⟩
   ·exact⟨_,hs.bk.f⟩
   ·exact⟨_,hs.bk.b⟩
theorem XR.off(j:XR t H x k sh sr s){p:Addr}(n:H p=none):p∉t.T_Plain_free::sf x:=λz=>by
 obtain⟨o,e⟩:=j.inH p z
 rw[n]at e
 cases e
theorem TbF.updL{H:Hp}{p:Addr}{xs:List V}{o:HO}(h:TbF t H)(e:H p=some (.lst xs)):TbF t (upd H p o):=by
 exact h.gen λb o' to e'=>by rw[qD (yO to e' e vE)];exact e'
theorem XR.lst(j:XR t H x k sh sr s){p:Addr}{xs:List V}{o:HO}(e:H p=some (.lst xs))(np:p∉t.T_Plain_free::sf x):XR t (upd H p o) x k sh sr s:=by
 obtain⟨m,st,_⟩:=j.e
 have k:=Keep.upd (F:=[p]) (o:=o) e (λ_ z=>by cases z) (by simp)
 refine j.keep k (λy hy z=>?_) (TbF.updL st.tb e)
 rw[hV.mp z]at hy
 rcases gO.mp hy with hy|hy
 ·have hy:p=x.s∨p=x.tm:=by simpa using hy
  rcases hy with h|h
  ·rw[h,st.o]at e;cases e
  ·rw[h,st.te]at e;cases e
 ·rcases kL.mp hy with h|h
  ·rw[h,st.ch.li]at e;cases e
  ·exact np (hX _ h)
theorem XR.set(j:XR t H x k sh sr s){n v:Int}(n0:0≤n)(n1:n≤64)(rc:s.rc.length<1000000)(hr:k.ie*s.q.P<s.rmX)(hl:(∃p,(n,p)∈s.q.V)∨s.q.V.length<59){Q:VK}{E:XK}
 (dk:s.lf=some 0→∀H',XR t H' x k sh sr s→Keep (t.T_Plain_free::sf x) H H'→E (.ref t.C_PowerGone) none H')
 (kk:s.lf≠some 0→∀H',XR t H' x k sh sr (s.put n v)→Keep (t.T_Plain_free::sf x) H H'→Q (.int (s.np:Int)) H'):qBU t [.ref x.s,.int n,.int v] H Q E:=by
 obtain⟨m,st,c,pg⟩:=j.e
 obtain⟨hb,hf,ef,_,sp⟩:=j.w.spot (by omega)
 obtain⟨hp1,hp2⟩:=c.pgs hb hf
 refine⟨x,_,_,_,_,m,s.q,n,v,rfl,st,c.ft,c.gd,by rw[c.rc];exact rc,λl hfr=>⟨s.pb,s.pf,?_,ef,pg.n _ (j.w.cr _ _ hb (by omega) hf),λz H' k' st'=>dk (by rw[←c.lf];exact z) H' ⟨⟨m,st',c,pg.keep k'⟩,j.w⟩ k',λz tp H' htp k' st'=>?_⟩⟩
 ·rw[c.br]at hfr ⊢
  rw[c.cl]at hfr
  exact sp l hfr
 ·have dk':s.lf≠some 0:=by rw[←c.lf];exact z
  obtain⟨w',_⟩:=j.w.put (v:=v) hr n0 n1 hl dk'
  have okd:(m.deed "put" ((s.pb*s.q.P+s.pf:Nat):Int) (((s.pb*s.q.P+s.pf:Nat):Int) / m.pg) false).Ok:=c.ft.ok.deed (by rw[c.rc];exact rc)
  refine kk dk' H' ⟨⟨_,st',⟨⟨⟨okd.bl1,okd.bl2,okd.pg1,okd.pg2,?_,okd.ncl,okd.ndc,okd.nbr,okd.lim,okd.nrc⟩,w'.qs.ok,c.ft.eB,c.ft.eP⟩,c.br,c.li,c.mo,c.cl,?_,?_⟩,⟨λi e=>?_,λi w e=>?_⟩⟩,w'⟩ k'
  ·show((m.bo.set _ _).length:Int)=_
   rw[gG]
   exact c.ft.ok.nbo
  ·show m.lf.map _=_
   rw[c.lf]
   rfl
  ·show m.rc++[_]=_
   rw[c.rc]
   rfl
  ·have e:(if i=s.np then some (s.q.nx*128+n,v)else s.pg i)=none:=e
   show(m.bo.set (s.pb*s.q.P+s.pf) (.ref tp)).getD i .non=.non
   by_cases z:i=s.np
   ·rw[kI z]at e
    cases e
   ·rw[kF z]at e
    rw[jG,kF (λy=>z y.1.symm)]
    exact pg.n i e
  ·have e:(if i=s.np then some (s.q.nx*128+n,v)else s.pg i)=some w:=e
   show ∃tq,(m.bo.set (s.pb*s.q.P+s.pf) (.ref tp)).getD i .non=.ref tq∧_
   by_cases z:i=s.np
   ·rw[kI z]at e
    cases e
    exact⟨tp,by rw[jG,kI ⟨z.symm,hp2⟩],htp⟩
   ·rw[kF z]at e
    obtain⟨tq,e1,e2⟩:=pg.v i w e
    exact⟨tq,by rw[jG,kF (λy=>z y.1.symm)];exact e1,k'.tp _ _ e2⟩
end
noncomputable def spCo(t:Adr):Sp:=λvs H Q E=>∃x k sh sr s,∃b:Nat,vs=[.ref x.s,.int (b:Int)]∧XR t H x k sh sr s∧b<s.q.B∧s.q.fi.getD b 0=(s.q.P:Int)∧s.rc.length<1000000∧(∀y∈s.q.V,¬y.2 / (s.q.P:Int)=(b:Int))∧
 (s.lf=some 0→E (.ref t.C_PowerGone) none H)∧(s.lf≠some 0→∀H',XR t H' x k sh sr (s.wip b)→Keep (t.T_Plain_free::sf x) H H'→Q .non H')
theorem q3I(T:Txt K mg t)(S:Fns K t):S.Store_clear_out.OkE P w mg base 5 (spCo t):=by
 refine S.Store_clear_out.F.okE q3D (λvs H Q E h=>?_) (λcdv A outer s H vs Q E hr h=>?_)
 ·repeat obtain⟨_,h⟩:=h
  all_goals subst_vars;rfl
 ·obtain⟨x,k,sh,sr,s,b,rfl,j,hb,ef,rc,nl,dk,kk⟩:=h
  obtain⟨m,hs,c,pg⟩:=j.e
  have eB:=c.ft.eB
  have clb:=(j.w.c0 b).2
  refine⟨_,(qB (j8 (jV jF (qJ (pv 0) rfl) T.cl_Chip T.m_Chip_wipe (q8E T S).mono hr S.Chip_wipe.b .nil (qA (pv 1) qE))) (qC (j8 (qY (qJ (pv 0) rfl) T.cl_Book T.m_Book_emptied (q4X T S).mono hr S.Book_emptied.b .nil qK (qA (pv 1) qE))))),?_⟩
  try dsimp-beta-proj-iota-zeta-eta only[wishK,cxK]
  refine(iV rfl (iF hs.o T.cl_Even T.na_Even_chip rfl (iM hs.ch.ins rfl ⟨_,rfl,x.c,x.a,m,_,rfl,hs.ch,c.ft.ok,by rw[c.rc];exact rc,c.gd,by omega,by rw[c.mo,c.cl];omega,λz=>dk (by rw[←c.lf];exact z),λz H1 hc1 k1=>?_⟩)))
  have dk':s.lf≠some 0:=by rw[←c.lf];exact z
  have hs1:=hs.put hc1 k1 rfl rfl
  refine(iV rfl (iF hs1.o T.cl_Even T.na_Even_book rfl (iM hs1.bk.o rfl ⟨_,rfl,x.k,s.q,b,rfl,hs1.bk,j.w.qs.ok,hs1.ds,hb,λH2 hb2 k2=>?_⟩)))
  have k2':Keep (bf x.k) H1 H2:=k2.mono (by intro y hy;simp[bf]at hy ⊢;rcases hy with rfl|rfl<;>simp)
  have kA:Keep (t.T_Plain_free::sf x) H H2:=(k1.mono (λy hy=>by unfold sf;exact hX _ (dD _ hy))).trans (k2'.mono (λy hy=>by unfold sf;exact hX _ (kN _ hy)))
  have hs2:=hs1.note hb2 k2'
  obtain⟨w',_⟩:=j.w.wip hb ef nl dk'
  have okd:(m.deed "wipe" (b:Int) (b:Int) false).Ok:=c.ft.ok.deed (by rw[c.rc];exact rc)
  have gbo:∀p,(wipC m b).bo.getD p .non=if p / s.q.P=b then .non else m.bo.getD p .non:=λp=>by
   show(clr m.bo ((b:Int)*m.pg).toNat m.pg.toNat).getD p .non=_
   have p1:=j.w.qs.ok.p1
   rw[c.ft.eP,←dO,mK,mK,qBV]
   have:(b*s.q.P≤p∧p<b*s.q.P+s.q.P)↔p / s.q.P=b:=by
    rw[Nat.div_eq_iff (by omega)]
    generalize b*s.q.P=z
    omega
   by_cases z:p / s.q.P=b
   ·rw[kI z,kI (this.mpr z)]
   ·rw[kF z,kF (λy=>z (this.mp y))]
  refine kk dk' H2 ⟨⟨_,hs2,⟨⟨⟨okd.bl1,okd.bl2,okd.pg1,okd.pg2,?_,?_,okd.ndc,okd.nbr,okd.lim,okd.nrc⟩,w'.qs.ok,c.ft.eB,c.ft.eP⟩,c.br,c.li,c.mo,?_,?_,?_⟩,⟨λi e=>?_,λi w e=>?_⟩⟩,w'⟩ kA
  ·show((clr m.bo _ _).length:Int)=_
   rw[q52]
   exact c.ft.ok.nbo
  ·show((m.cl.set _ _).length:Int)=_
   rw[gG]
   exact c.ft.ok.ncl
  ·show m.cl.set b (m.cl.getD b 0+1)=_
   rw[c.cl]
   rfl
  ·show m.lf.map _=_
   rw[c.lf]
   rfl
  ·show m.rc++[_]=_
   rw[c.rc]
   rfl
  ·have e:(if i / s.q.P=b then none else s.pg i)=none:=e
   rw[gbo]
   by_cases z:i / s.q.P=b
   ·rw[kI z]
   ·rw[kF z]at e ⊢
    exact pg.n i e
  ·have e:(if i / s.q.P=b then none else s.pg i)=some w:=e
   rw[gbo]
   by_cases z:i / s.q.P=b
   ·rw[kI z]at e
    cases e
   ·rw[kF z]at e ⊢
    obtain⟨tq,e1,e2⟩:=pg.v i w e
    exact⟨tq,e1,kA.tp _ _ e2⟩
theorem q69(T:Txt K mg t)(S:Fns K t):S.Store_wiped.OkE P w mg base 6 (λvs H Q E=>spCo t vs H (λv H'=>v=.non∧Q (.bl true) H') E):=by
 refine S.Store_wiped.F.okE q5Y (λvs H Q E h=>?_) (λcdv A outer s H vs Q E hr h=>?_)
 ·repeat obtain⟨_,h⟩:=h
  all_goals subst_vars;rfl
 ·obtain⟨x,k,sh,sr,s,b,rfl,j,hb,ef,rc,nl,dk,kk⟩:=h
  refine⟨_,(qB (j8 (jV jF (pv 0) T.cl_Even T.m_Even_clear_out (q3I T S).mono hr S.Store_clear_out.b .nil (qA (pv 1) qE))) (qC (qL zK))),?_⟩
  try dsimp-beta-proj-iota-zeta-eta only[wishK,cxK]
  exact(iV rfl (iM j.o rfl ⟨_,rfl,x,k,sh,sr,s,b,rfl,j,hb,ef,rc,nl,dk,λz H' j' k'=>(kk z H' j' k').2⟩))
theorem qF1{s:XS}{ns:List Int}(h:HeldIs s.q ns):ns=s.hl:=by
 refine qBF (h.pm.trans (List.mergeSort_perm _ _).symm) h.so ?_
 have:=List.pairwise_mergeSort (le:=λa b:Int=>decide (a≤b)) (λa b c h1 h2=>hG (cQ (mV h1) (mV h2))) (λa b=>by
  by_cases z:a≤b
  ·rw[hG z];rfl
  ·rw[kD z,hG (show b≤a by omega)];rfl) (hdN s.q.V)
 exact this.imp λz=>mV z
theorem hd64{k:Tm}{s:XS}(w:WX k s):(hdN s.q.V).length<64:=by
 unfold hdN
 refine cG (mE _ _) ?_
 have:=w.l6
 rw[h9]
 omega
theorem qHD{k:Tm}{s:XS}(w:WX k s):∀y∈s.hl,0≤y∧y<64:=λy hy=>by
 have hy:=cJ.mp hy
 obtain⟨a1,a2⟩:=mJ.mp hy
 obtain⟨y',hy',rfl⟩:=kZ.mp a1
 have:=w.qs.ok.nm y' hy'
 have:=mV a2
 omega
theorem qHE{ns:List Int}(h:∀y∈ns,0≤y∧y<64):ns.map V.int=vN (ns.map Int.toNat)∧∀u∈ns.map Int.toNat,u<64:=by
 refine⟨?_,λu hu=>?_⟩
 ·unfold vN
  rw[sI]
  refine r6 λy hy=>?_
  have:=h y hy
  show V.int y=V.int ((y.toNat:Nat):Int)
  rw[show((y.toNat:Nat):Int)=y by omega]
 ·obtain⟨y,hy,rfl⟩:=kZ.mp hu
  have:=h y hy
  omega
noncomputable def spVm(t:Adr):Sp:=λvs H Q E=>∃x k sh sr s,∃n p:Int,vs=[.ref x.s,.int p,.int n]∧XR t H x k sh sr s∧(n,p)∈s.q.V∧(s.lf=some 0→E (.ref t.C_PowerGone) none H)∧∀H',Same H H'→Q (.int (s.val p n)) H'
theorem q14(T:Txt K mg t)(S:Fns K t):S.Store_value_to_move.OkE P w mg base 6 (spVm t):=by
 refine S.Store_value_to_move.F.okE q12 (λvs H Q E h=>?_) (λcdv A outer s H vs Q E hr h=>?_)
 ·repeat obtain⟨_,h⟩:=h
  all_goals subst_vars;rfl
 ·obtain⟨x,k,sh,sr,s,n,p,rfl,j,hm,dk,kk⟩:=h
  obtain⟨m,hs,c,pg⟩:=j.e
  refine⟨_,(qB (jE (qR vV (pv 2) (q2E rfl T.mg_ROLL ⟨_,rfl⟩ (v:=.int 64)) (qT _)) (qC (qL (qW (q65 T S).mono hr rfl T.mg_bits_of T.kp_bits_of S.bits_of.b .nil qK (qA (j9 (pv 0) T.cl_Even T.m_Even_held (q08 T S).mono hr S.Plain_held.b .nil qK) qE)))) qQ) (qC (qL (qS jC (jV jF (qJ (pv 0) rfl) T.cl_Chip T.m_Chip_read (q8D T S).mono hr S.Chip_read.b .nil (qA (pv 1) qE)) qG (λ_ _=>rfl))))),?_⟩
  try dsimp-beta-proj-iota-zeta-eta only[wishK,cxK]
  refine⟨_,rfl,rfl,_,rfl,?_⟩
  rw[v7]
  by_cases z:n=64
  ·rw[hG z]
   refine iteT ?_
   refine(iV rfl (iM hs.o rfl ⟨x,_,_,_,_,m,s.q,rfl,hs,c.ft,hd64 j.w,λl ns H1 hn s1 n1 h1=>?_⟩))
   obtain rfl:=qF1 hn
   obtain⟨en,lt⟩:=qHE (qHD j.w)
   rw[en]at h1
   refine⟨l,_,rfl,SqL.of h1,lt,?_⟩
   have:=kk H1 s1
   unfold XS.val at this
   rw[kI z]at this
   exact this
  ·rw[kD z]
   refine iteF ?_
   obtain⟨b,f,v,a1,a2,a3,a4,a5⟩:=j.w.vl _ hm
   have a3:p=_:=a3
   obtain⟨tp,e1,e2⟩:=pg.v _ _ a5
   have hp:=(c.pgs a1 a2).1
   refine(iV rfl (iF hs.o T.cl_Even T.na_Even_chip rfl (iM hs.ch.ins rfl ⟨_,rfl,x.c,x.a,m,_,rfl,hs.ch,c.ft.ok,by rw[a3];omega,by rw[a3];exact hp,λy=>dk (by rw[←c.lf];exact y),λ_=>?_⟩)))
   have:=kk H (Same.refl H)
   unfold XS.val at this
   rw[kF z]at this
   rw[a3,mK,e1]
   rw[a3,mK,a5]at this
   exact(iT (k:=1) (v:=_) (SqT.of e2) rfl this)
noncomputable def qKR:Sp:=λvs H Q _=>∃x a b p n,vs=[x,a,b,p,n]∧Q (.bl false) H
theorem q3J(T:Txt K mg t)(S:Fns K t):S.Rule_goes_ahead.Ok0 P w mg base 1 qKR:=by
 refine S.Rule_goes_ahead.F.ok0 q3G λcdv A _ s H vs Q E hr h=>?_
 ·obtain⟨x,a,b,p,n,rfl,q⟩:=h
  refine⟨_,(qC (qL zK)),?_⟩
  try dsimp-beta-proj-iota-zeta-eta only[wishK,cxK]
  exact q
noncomputable def spGa(f:Tl→Int):Sp:=λvs H Q _=>∃x a b p n A B,vs=[x,a,b,p,n]∧TlAt H a A∧TlAt H b B∧Q (.bl (decide (f A<f B))) H
theorem q2A(T:Txt K mg t)(S:Fns K t):S.Fewest_goes_ahead.Ok0 P w mg base 1 (spGa Tl.lv):=by
 refine S.Fewest_goes_ahead.F.ok0 q26 λcdv A _ s H vs Q E hr h=>?_
 ·obtain⟨x,a,b,p,n,A,B,rfl,⟨ad,rfl,ha⟩,⟨bd,rfl,hb⟩,q⟩:=h
  refine⟨_,(qC (qL (uC q3M (qS jC (pv 1) qG (λ_ _=>rfl)) (qS jC (pv 2) qG (λ_ _=>rfl)) (qT _)))),?_⟩
  try dsimp-beta-proj-iota-zeta-eta only[wishK,cxK]
  exact⟨_,rfl,iT (k:=1) (v:=_) (SqT.of ha) rfl ⟨_,rfl,iT (k:=1) (v:=_) (SqT.of hb) rfl (iI q)⟩⟩
theorem q2B(T:Txt K mg t)(S:Fns K t):S.Eldest_goes_ahead.Ok0 P w mg base 1 (spGa Tl.bo):=by
 refine S.Eldest_goes_ahead.F.ok0 q27 λcdv A _ s H vs Q E hr h=>?_
 ·obtain⟨x,a,b,p,n,A,B,rfl,⟨ad,rfl,ha⟩,⟨bd,rfl,hb⟩,q⟩:=h
  refine⟨_,(qC (qL (uC q3M (qS jC (pv 1) qG (λ_ _=>rfl)) (qS jC (pv 2) qG (λ_ _=>rfl)) (qT _)))),?_⟩
  try dsimp-beta-proj-iota-zeta-eta only[wishK,cxK]
  exact⟨_,rfl,iT (k:=3) (v:=_) (SqT.of ha) rfl ⟨_,rfl,iT (k:=3) (v:=_) (SqT.of hb) rfl (iI q)⟩⟩
noncomputable def gain(pg nw:Int)(T:Tl):Int:=(pg-T.lv)*(nw-T.bo)
noncomputable def qKS:Sp:=λvs H Q _=>∃x a b pg nw A B,vs=[x,a,b,.int pg,.int nw]∧TlAt H a A∧TlAt H b B∧A.Ok pg nw∧B.Ok pg nw∧pg≤16∧Q (.bl (decide (gain pg nw A*(pg+B.lv)>gain pg nw B*(pg+A.lv)))) H
theorem q2R(T:Txt K mg t)(S:Fns K t):S.Worth_goes_ahead.Ok0 P w mg base 1 qKS:=by
 refine S.Worth_goes_ahead.F.ok0 u8 λcdv A _ s H vs Q E hr h=>?_
 ·obtain⟨x,a,b,pg,nw,A,B,rfl,⟨ad,rfl,ha⟩,⟨bd,rfl,hb⟩,oa,ob,hp,q⟩:=h
  have a0:=oa.l0
  have a1:=oa.l1
  have b0:=ob.l0
  have b1:=ob.l1
  refine⟨_,(qB (qV (i:=5) u8.nd rfl (Or.inl rfl) (qM yS (qM y9 (pv 3) (qS jC (pv 1) qG (λ_ _=>rfl))) (qM y9 (pv 4) (qS jC (pv 1) qG (λ_ _=>rfl))))) (qB (qV (i:=6) u8.nd rfl (Or.inl rfl) (qM yS (qM y9 (pv 3) (qS jC (pv 2) qG (λ_ _=>rfl))) (qM y9 (pv 4) (qS jC (pv 2) qG (λ_ _=>rfl))))) (qC (qL (uC q8T (qM yS (pv 5) (qM yC (pv 3) (qS jC (pv 2) qG (λ_ _=>rfl)))) (qM yS (pv 6) (qM yC (pv 3) (qS jC (pv 1) qG (λ_ _=>rfl)))) (qT _)))))),?_⟩
  try dsimp-beta-proj-iota-zeta-eta only[wishK,cxK]
  refine⟨_,rfl,_,rfl,iT (k:=1) (v:=_) (SqT.of ha) rfl (iI ⟨_,rfl,_,rfl,iT (k:=3) (v:=_) (SqT.of ha) rfl (iI (iI ⟨.inl ⟨by omega,by omega⟩,?_⟩))⟩)⟩
  refine⟨_,rfl,_,rfl,iT (k:=1) (v:=_) (SqT.of hb) rfl (iI ⟨_,rfl,_,rfl,iT (k:=3) (v:=_) (SqT.of hb) rfl (iI (iI ⟨.inl ⟨by omega,by omega⟩,?_⟩))⟩)⟩
  refine⟨_,rfl,_,rfl,_,rfl,iT (k:=1) (v:=_) (SqT.of hb) rfl (iI (iI ⟨.inr ⟨by omega,by omega⟩,?_⟩))⟩
  exact⟨_,rfl,_,rfl,_,rfl,iT (k:=1) (v:=_) (SqT.of ha) rfl (iI (iI ⟨.inr ⟨by omega,by omega⟩,iI q⟩))⟩
noncomputable def Mny(pg many:Int):Prop:=1≤pg∧0<many∧∀j:Int,0≤j→j≤pg→(pg+j) ∣ many
noncomputable def rkW(pg nw many:Int)(T:Tl):Int:=0-(pg-T.lv)*(nw-T.bo)*(many / (pg+T.lv))
theorem q6A{x y m:Int}(h:0<m):x*m<y*m↔x<y:=by
 constructor
 ·intro z
  refine Int.not_le.mp λw=>?_
  have:=c8 w (cR h)
  omega
 ·intro z
  exact Int.mul_lt_mul_of_pos_right z h
theorem qCP{pg nw many:Int}{A B:Tl}(m:Mny pg many)(oa:A.Ok pg nw)(ob:B.Ok pg nw):(gain pg nw A*(pg+B.lv)>gain pg nw B*(pg+A.lv))↔rkW pg nw many A<rkW pg nw many B:=by
 obtain⟨p1,m0,md⟩:=m
 have a0:=oa.l0
 have b0:=ob.l0
 obtain⟨sa,ea⟩:=md A.lv oa.l0 oa.l1
 obtain⟨sb,eb⟩:=md B.lv ob.l0 ob.l1
 have da:many / (pg+A.lv)=sa:=by rw[ea];exact Int.mul_ediv_cancel_left _ (by omega)
 have db:many / (pg+B.lv)=sb:=by rw[eb];exact Int.mul_ediv_cancel_left _ (by omega)
 unfold rkW
 rw[da,db]
 show gain pg nw B*(pg+A.lv)<gain pg nw A*(pg+B.lv)↔0-gain pg nw A*sa<0-gain pg nw B*sb
 have pa:0<pg+A.lv:=by omega
 have pb:0<pg+B.lv:=by omega
 have e:(0-gain pg nw A*sa<0-gain pg nw B*sb)↔gain pg nw B*sb<gain pg nw A*sa:=by omega
 rw[e,←q6A (x:=gain pg nw B*(pg+A.lv)) m0,←q6A (x:=gain pg nw B*sb) (Int.mul_pos pa pb)]
 have e1:gain pg nw B*(pg+A.lv)*many=gain pg nw B*sb*((pg+A.lv)*(pg+B.lv)):=by rw[eb];ac_rfl
 have e2:gain pg nw A*(pg+B.lv)*many=gain pg nw A*sa*((pg+A.lv)*(pg+B.lv)):=by rw[ea];ac_rfl
 rw[e1,e2]
noncomputable def RuAt(t:Adr)(H:Hp)(r:Addr)(pg nw:Int)(f:Tl→Int):Prop:=(∃dx,H r=some (.ins t.C_Rule dx [])∧f=λ_=>0)∨(∃dx,H r=some (.ins t.C_Fewest dx [])∧f=Tl.lv)∨(∃dx,H r=some (.ins t.C_Eldest dx [])∧f=Tl.bo)∨(∃dx many,H r=some (.ins t.C_Worth dx [])∧f=rkW pg nw many∧Mny pg many)
noncomputable def spUn(t:Adr)(K:W.Frag):Sp:=λvs H Q _=>∃r v l pg nw T us ts f,vs=[.ref r,v,.ref l,.int pg,.int nw]∧RuAt t H r pg nw f∧TlAt H v T∧SqL K H l us∧Tls H us ts∧T.Ok pg nw∧(∀o∈ts,o.Ok pg nw)∧pg≤16∧Q (.bl (unb f ts T)) H
theorem q6B(T:Txt K mg t)(S:Fns K t):S.is_unbeaten.Ok0 P w mg base 2 (spUn t K):=by
 refine S.is_unbeaten.F.ok0 q25 λcdv A _ s H vs Q E hr h=>?_
 ·obtain⟨r,v,l,pg,nw,A,us,ts,f,rfl,hR,hv,hl,hts,oa,os,hpg,q⟩:=h
  obtain⟨va,rfl,hva⟩:=id hv
  have hlen:=hts.len
  refine⟨_,(qB (uO g4 rfl (y8 (pv 2)) (qX (i:=5) q25.nd rfl (Or.inl rfl)) (qC (jE (PW.pt (qCQ (qR (qFV hr.units) (pv 5) (pv 1) (qT _)) (qAV (yE (qDN (q44 (qY (pv 0) T.cl_Rule T.m_Rule_goes_ahead (q3J T S).mono hr S.Rule_goes_ahead.b .nil qK (qA (pv 5) (qA (pv 1) (qA (pv 3) (qA (pv 4) qE))))) (q44 (qY (pv 0) T.cl_Fewest T.m_Fewest_goes_ahead (q2A T S).mono hr S.Fewest_goes_ahead.b .nil qK (qA (pv 5) (qA (pv 1) (qA (pv 3) (qA (pv 4) qE))))) (q44 (qY (pv 0) T.cl_Eldest T.m_Eldest_goes_ahead (q2B T S).mono hr S.Eldest_goes_ahead.b .nil qK (qA (pv 5) (qA (pv 1) (qA (pv 3) (qA (pv 4) qE))))) (qY (pv 0) T.cl_Worth T.m_Worth_goes_ahead (q2R T S).mono hr S.Worth_goes_ahead.b .nil qK (qA (pv 5) (qA (pv 1) (qA (pv 3) (qA (pv 4) qE))))))))))))) (qC (qL zK)) qQ))) (qC (qL zK))),?_⟩
  try dsimp-beta-proj-iota-zeta-eta only[wishK,cxK]
  refine⟨_,rfl,l,rfl,⟨us,hl⟩,?_⟩
  refine uP (K:=K) (xs:=us) (λi σ' H2=>∃y,σ'=[some (.ref r),some (.ref va),some (.ref l),some (.int pg),some (.int nw),y]∧H2=H∧∀j,∀hj:j<ts.length,j<i→¬f ts[j] <f A) ⟨_,rfl,rfl,λj _ z=>absurd z (sK _)⟩ (λi σ' H2 hi hp=>?_) (λi x σ' H2 hx hp=>?_) (λσ' H2 hp=>?_)
  ·obtain⟨y,rfl,rfl,_⟩:=hp
   exact hl
  ·obtain⟨y,rfl,rfl,hm⟩:=hp
   obtain⟨O,hO,ho⟩:=Paired.at hts hx
   obtain⟨xa,rfl,hxa⟩:=id ho
   have hi:i<ts.length:=(kE.mp hO).1
   obtain rfl:ts[i]=O:=(kE.mp hO).2
   have ok:(ts[i]).Ok pg nw:=os _ (gD hi)
   refine⟨_,rfl,_,rfl,xa,va,(ts[i]).ns,A.ns,rfl,rfl,SqT.of hxa,SqT.of hva,rfl,_,rfl,?_⟩
   by_cases e:(ts[i]).ns=A.ns
   ·rw[hG e]
    refine iteF (iteF ⟨_,rfl,rfl,λj hj z=>?_⟩)
    by_cases ej:j=i
    ·subst ej
     rw[Tl.eq_of e]
     exact Int.lt_irrefl _
    ·exact hm j hj (by omega)
   ·rw[kD e]
    refine iteT ?_
    refine⟨λv' H'=>v'=.bl (decide (f ts[i] <f A))∧H'=H2,?_,?_⟩
    ·rcases hR with⟨dx,hins,rfl⟩|⟨dx,hins,rfl⟩|⟨dx,hins,rfl⟩|⟨dx,many,hins,rfl,mm⟩
     ·exact .inl ⟨_,rfl,r,dx,_,rfl,hins,rfl,_,rfl,_,rfl,_,rfl,_,rfl,_,_,_,_,_,rfl,rfl,rfl⟩
     ·exact .inr (.inl ⟨_,rfl,r,dx,_,rfl,hins,rfl,_,rfl,_,rfl,_,rfl,_,rfl,_,_,_,_,_,ts[i],A,rfl,ho,hv,rfl,rfl⟩)
     ·exact .inr (.inr (.inl ⟨_,rfl,r,dx,_,rfl,hins,rfl,_,rfl,_,rfl,_,rfl,_,rfl,_,_,_,_,_,ts[i],A,rfl,ho,hv,rfl,rfl⟩))
     ·refine .inr (.inr (.inr (⟨_,rfl,r,dx,_,rfl,hins,rfl,_,rfl,_,rfl,_,rfl,_,rfl,_,_,_,pg,nw,ts[i],A,rfl,ho,hv,ok,oa,hpg,?_,rfl⟩)))
      exact dR V.bl (decide_eq_decide.mpr (qCP mm ok oa))
    ·rintro v' H' ⟨rfl,rfl⟩
     refine⟨_,rfl,?_⟩
     by_cases g:f ts[i] <f A
     ·rw[hG g]
      refine iteT ?_
      have z:unb f ts A=false:=by
       cases z:unb f ts A with
       |false=>rfl
       |true=>exact absurd (q54.mp z _ (gD hi)) (by omega)
      rw[z]at q
      exact q
     ·rw[kD g]
      refine iteF ⟨_,rfl,rfl,λj hj z=>?_⟩
      by_cases ej:j=i
      ·subst ej
       exact g
      ·exact hm j hj (by omega)
  ·obtain⟨y,rfl,rfl,hm⟩:=hp
   have z:unb f ts A=true:=q54.mpr λo ho=>by
    obtain⟨j,hj,rfl⟩:=dM ho
    have:=hm j hj (by omega)
    omega
   rw[z]at q
   exact q
noncomputable def spFu(t:Adr)(K:W.Frag):Sp:=λvs H Q _=>∃r l pg nw us ts f,vs=[.ref r,.ref l,.int pg,.int nw]∧RuAt t H r pg nw f∧SqL K H l us∧Tls H us ts∧(∀o∈ts,o.Ok pg nw)∧pg≤16∧ts≠[]∧Q (.int (pk f ts)) H
theorem q3Z(T:Txt K mg t)(S:Fns K t):S.first_unbeaten.Ok0 P w mg base 3 (spFu t K):=by
 refine S.first_unbeaten.F.ok0 v5 λcdv A _ s H vs Q E hr h=>?_
 ·obtain⟨r,l,pg,nw,us,ts,f,rfl,hR,hl,hts,os,hpg,hne,q⟩:=h
  have hlen:=hts.len
  obtain⟨i,hi,hu,hn⟩:=q5M f ts hne
  have at':∀j,∀hj:j<ts.length,∃x,us[j]?=some x∧TlAt H x ts[j]:=λj hj=>by
   have e:us[j]?=some (us[j]'(by omega)):=hU (by omega)
   obtain⟨O,hO,ho⟩:=Paired.at hts e
   obtain rfl:ts[j]=O:=(kE.mp hO).2
   exact⟨_,e,ho⟩
  refine⟨_,(qB (qV (i:=4) v5.nd rfl (Or.inl rfl) qG) (qB (q8R g4 (yX (yE (qW (q6B T S).mono hr rfl T.mg_is_unbeaten T.kp_is_unbeaten S.is_unbeaten.b .nil qK (qA (pv 0) (qA (qS jB (pv 1) (pv 4) (λ_ _=>rfl)) (qA (pv 1) (qA (pv 2) (qA (pv 3) qE)))))))) (qC (qHO (i:=4) v5.nd rfl (Or.inl rfl) qG q5D))) (qC (qL (qS jC (qS jB (pv 1) (pv 4) (λ_ _=>rfl)) qG (λ_ _=>rfl)))))),?_⟩
  try dsimp-beta-proj-iota-zeta-eta only[wishK,cxK]
  refine⟨λm σ' H2=>H2=H∧∃p:Nat,σ'=[some (.ref r),some (.ref l),some (.int pg),some (.int nw),some (.int p)]∧p≤i∧m=i-p,⟨i,rfl,0,rfl,mO _,rfl⟩,?_⟩
  rintro m σ' H2 ⟨rfl,p,rfl,hpi,rfl⟩
  obtain⟨x,hx,tx⟩:=at' p (by omega)
  refine⟨_,rfl,_,rfl,_,rfl,l,us,p,x,rfl,rfl,hl,yP hx,_,rfl,_,rfl,_,rfl,r,x,l,pg,nw,ts[p],us,ts,f,rfl,hR,tx,hl,hts,os _ (gD _),os,hpg,?_⟩
  by_cases e:p=i
  ·subst e
   rw[hu]
   refine⟨_,rfl,iteF ?_⟩
   obtain⟨xa,rfl,hxa⟩:=tx
   refine⟨_,rfl,_,rfl,l,us,p,_,rfl,rfl,hl,yP hx,iT (k:=0) (v:=_) (SqT.of hxa) rfl ?_⟩
   rw[qH7 hi hu hn]at q
   exact q
  ·rw[hn p (by omega)]
   refine⟨_,rfl,iteT ⟨_,λ_ _ z=>z,?_⟩⟩
   exact⟨_,rfl,iI ⟨i-(p+1),by omega,rfl,p+1,rfl,by omega,rfl⟩⟩
theorem v6(T:Txt K mg t)(S:Fns K t):S.Rule_choose.Ok0 P w mg base 4 (spFu t K):=by
 refine S.Rule_choose.F.ok0 q60 λcdv A _ s H vs Q E hr h=>?_
 ·obtain⟨r,l,pg,nw,us,ts,f,rfl,z⟩:=h
  refine⟨_,(qC (qL (qW (q3Z T S).mono hr rfl T.mg_first_unbeaten T.kp_first_unbeaten S.first_unbeaten.b .nil qK (qA (pv 0) (qA (pv 1) (qA (pv 2) (qA (pv 3) qE))))))),?_⟩
  try dsimp-beta-proj-iota-zeta-eta only[wishK,cxK]
  exact⟨_,rfl,_,rfl,_,rfl,_,rfl,r,l,pg,nw,us,ts,f,rfl,z⟩
theorem q8L{H:Hp}{m:CM}{q:QM}:∀{rs:List V} {L:List Nat},Tys H m q rs L→Tls H rs (L.map (tlOf m q))
 |_,_,.nil=>.nil
 |_,_,.cons ⟨p,e,h⟩ r=>.cons ⟨p,e,h⟩ (q8L r)
noncomputable def mnC:Int:=144403552893600
theorem qJE{pg:Int}(p1:1≤pg)(p2:pg≤16):Mny pg mnC:=by
 refine⟨p1,by decide,λj j0 j1=>?_⟩
 have key:∀n:Nat,n<33→0<n→n ∣ 144403552893600:=by decide+kernel
 have:=key (pg+j).toNat (by omega) (by omega)
 rw[show pg+j=(((pg+j).toNat:Nat):Int) by omega]
 exact Int.natCast_dvd_natCast.mpr this
noncomputable def RuX(t:Adr)(H:Hp)(r:Addr)(rl:List Addr):Rl→Prop
 | .rk f=>(∃dx,H r=some (.ins t.C_Rule dx [])∧f=λ_ _ _=>0)∨(∃dx,H r=some (.ins t.C_Fewest dx [])∧f=λ_ _=>Tl.lv)∨(∃dx,H r=some (.ins t.C_Eldest dx [])∧f=λ_ _=>Tl.bo)∨(∃dx,H r=some (.ins t.C_Worth dx [])∧f=λpg nw=>rkW pg nw mnC)
 |_=>False
theorem RuX.ok{H:Hp}{r:Addr}{rl:List Addr}{g:Rl}(h:RuX t H r rl g):g.Ok:=by
 cases g with
 |rk f=>trivial
 |win m=>exact h.elim
 |fol row u=>exact h.elim
theorem RuX.map{H H':Hp}{r:Addr}{rl:List Addr}{g:Rl}(h:RuX t H r rl g)(h1:∀y∈r::rl,∀o,H y=some o→H' y=some o):RuX t H' r rl g:=by
 have h1:=h1 r kW
 cases g with
 |rk f=>
  rcases h with⟨dx,a,b⟩|⟨dx,a,b⟩|⟨dx,a,b⟩|⟨dx,a,b⟩
  ·exact .inl ⟨dx,h1 _ a,b⟩
  ·exact .inr (.inl ⟨dx,h1 _ a,b⟩)
  ·exact .inr (.inr (.inl ⟨dx,h1 _ a,b⟩))
  ·exact .inr (.inr (.inr (⟨dx,h1 _ a,b⟩)))
 |win m=>exact h.elim
 |fol row u=>exact h.elim
theorem RuX.keep{H H':Hp}{r:Addr}{rl:List Addr}{F:List Addr}{g:Rl}(h:RuX t H r rl g)(k:Keep F H H')(n:∀y∈r::rl,y∉F):RuX t H' r rl g:=h.map λy hy o e=>k.k _ _ (n y hy) e
theorem RuX.ins{H:Hp}{r:Addr}{rl:List Addr}{g:Rl}(h:RuX t H r rl g):∃C d fs,H r=some (.ins C d fs):=by
 cases g with
 |rk f=>
  rcases h with⟨dx,a,b⟩|⟨dx,a,b⟩|⟨dx,a,b⟩|⟨dx,a,b⟩
  ·exact⟨_,_,_,a⟩
  ·exact⟨_,_,_,a⟩
  ·exact⟨_,_,_,a⟩
  ·exact⟨_,_,_,a⟩
 |win m=>exact h.elim
 |fol row u=>exact h.elim
noncomputable def spCr(t:Adr)(K:W.Frag):Sp:=λvs H Q _=>∃x r2 r3 r4 r5 m q r rl g op rs ts,vs=[.ref x.s,.ref op]∧StAt t H x r2 r3 r4 r5 m q∧Fit m q∧x.ru=.ref r∧RuX t H r rl g∧H op=some (.lst rs)∧Tls H rs ts∧ts≠[]∧ts.length≤16∧(∀o∈ts,o.Ok (q.P:Int) q.nx)∧(∀a∈ts,∀c∈ts,a.b=c.b→a=c)∧∀p H',Keep [r] H H'→RuX t H' r rl (g.ch (q.P:Int) q.nx ts).2→H' p=some (.tup [.str "rule",.int (g.ch (q.P:Int) q.nx ts).1])→Q (.ref p) H'
theorem q0K(T:Txt K mg t)(S:Fns K t):S.Store_choice_by_rule.Ok0 P w mg base 5 (spCr t K):=by
 refine S.Store_choice_by_rule.F.ok0 q0G λcdv A _ s H vs Q E hr h=>?_
 ·obtain⟨x,r2,r3,r4,r5,m,q,r,rl,g,op,rs,ts,rfl,hs,ft,er,hR,hop,tl,ne,l16,ok,unl,k⟩:=h
  have eP:=ft.eP
  have p1:=ft.oq.p1
  have p2:=ft.oq.p2
  have te:=hs.te
  rw[eP]at te
  refine⟨_,(qC (qL (uD (qA q1A (qA (q44 (qY (qJ (pv 0) rfl) T.cl_Rule T.m_Rule_choose (v6 T S).mono hr S.Rule_choose.b .nil qK (qA (pv 1) (qA (qJ (qJ (pv 0) rfl) rfl) (qA (qJ (qJ (pv 0) rfl) rfl) qE)))) (q44 (qY (qJ (pv 0) rfl) T.cl_Fewest T.m_Fewest_choose (v6 T S).mono hr S.Rule_choose.b .nil qK (qA (pv 1) (qA (qJ (qJ (pv 0) rfl) rfl) (qA (qJ (qJ (pv 0) rfl) rfl) qE)))) (q44 (qY (qJ (pv 0) rfl) T.cl_Eldest T.m_Eldest_choose (v6 T S).mono hr S.Rule_choose.b .nil qK (qA (pv 1) (qA (qJ (qJ (pv 0) rfl) rfl) (qA (qJ (qJ (pv 0) rfl) rfl) qE)))) (qY (qJ (pv 0) rfl) T.cl_Worth T.m_Worth_choose (v6 T S).mono hr S.Rule_choose.b .nil qK (qA (pv 1) (qA (qJ (qJ (pv 0) rfl) rfl) (qA (qJ (qJ (pv 0) rfl) rfl) qE))))))) qE))))),?_⟩
  try dsimp-beta-proj-iota-zeta-eta only[wishK,cxK]
  cases g with
  |rk f=>
   have sz2:2≤sizeLine:=by decide
   rcases id hR with⟨dx,hins,rfl⟩|⟨dx,hins,rfl⟩|⟨dx,hins,rfl⟩|⟨dx,hins,rfl⟩
   ·exact .inl (iV rfl (iF hs.o T.cl_Even T.na_Even_rule rfl ⟨r,dx,_,er,hins,rfl,_,rfl,iV rfl (iF hs.o T.cl_Even T.na_Even_terms rfl (iF te T.cl_Terms T.na_Terms_pages rfl (iV rfl (iF hs.o T.cl_Even T.na_Even_book rfl (iF hs.bk.o T.cl_Book T.na_Book_stamp rfl ⟨r,op,_,_,rs,ts,_,(by rw[er];rfl),.inl ⟨dx,hins,rfl⟩,SqL.of hop,tl,ok,by omega,ne,sz2,λp H2 n2 s2 e2=>k p H2 (Keep.same s2) (hR.keep (Keep.same s2) (F:=[]) (by simp)) e2⟩)))))⟩))
   ·exact .inr (.inl (iV rfl (iF hs.o T.cl_Even T.na_Even_rule rfl ⟨r,dx,_,er,hins,rfl,_,rfl,iV rfl (iF hs.o T.cl_Even T.na_Even_terms rfl (iF te T.cl_Terms T.na_Terms_pages rfl (iV rfl (iF hs.o T.cl_Even T.na_Even_book rfl (iF hs.bk.o T.cl_Book T.na_Book_stamp rfl ⟨r,op,_,_,rs,ts,_,(by rw[er];rfl),.inr (.inl ⟨dx,hins,rfl⟩),SqL.of hop,tl,ok,by omega,ne,sz2,λp H2 n2 s2 e2=>k p H2 (Keep.same s2) (hR.keep (Keep.same s2) (F:=[]) (by simp)) e2⟩)))))⟩)))
   ·exact .inr (.inr (.inl (iV rfl (iF hs.o T.cl_Even T.na_Even_rule rfl ⟨r,dx,_,er,hins,rfl,_,rfl,iV rfl (iF hs.o T.cl_Even T.na_Even_terms rfl (iF te T.cl_Terms T.na_Terms_pages rfl (iV rfl (iF hs.o T.cl_Even T.na_Even_book rfl (iF hs.bk.o T.cl_Book T.na_Book_stamp rfl ⟨r,op,_,_,rs,ts,_,(by rw[er];rfl),.inr (.inr (.inl ⟨dx,hins,rfl⟩)),SqL.of hop,tl,ok,by omega,ne,sz2,λp H2 n2 s2 e2=>k p H2 (Keep.same s2) (hR.keep (Keep.same s2) (F:=[]) (by simp)) e2⟩)))))⟩))))
   ·exact .inr (.inr (.inr ((iV rfl (iF hs.o T.cl_Even T.na_Even_rule rfl ⟨r,dx,_,er,hins,rfl,_,rfl,iV rfl (iF hs.o T.cl_Even T.na_Even_terms rfl (iF te T.cl_Terms T.na_Terms_pages rfl (iV rfl (iF hs.o T.cl_Even T.na_Even_book rfl (iF hs.bk.o T.cl_Book T.na_Book_stamp rfl ⟨r,op,_,_,rs,ts,_,(by rw[er];rfl),.inr (.inr (.inr (⟨dx,_,hins,rfl,qJE (by omega) (by omega)⟩))),SqL.of hop,tl,ok,by omega,ne,sz2,λp H2 n2 s2 e2=>k p H2 (Keep.same s2) (hR.keep (Keep.same s2) (F:=[]) (by simp)) e2⟩)))))⟩)))))
  |win m=>exact hR.elim
  |fol row u=>exact hR.elim
section
variable{H H':Hp}{x:Sto}{k:Tm}{sh sr:Int}{s:XS}{r:Addr}{rl:List Addr}{g:Rl}
theorem TbF.keepR(h:TbF t H){C d:Addr}{fs:List (Str×V)}(e:H r=some (.ins C d fs))(k:Keep [r] H H'):TbF t H':=by
 refine h.gen λb o to e'=>k.k _ _ (λz=>yO to e' e q2M (hV.mp z)) e'
noncomputable def Off(t:Adr)(x:Sto)(R:List Addr):Prop:=∀y∈[x.s,x.tm]++(x.a.li::t.T_Plain_free::t.T_Even_block_to_change::sf x),y∉R
theorem Off.n{R:List Addr}(o:Off t x R){y:Addr}(hy:y∈R):y∉t.T_Plain_free::sf x:=λz=>o y (by simp at z ⊢;rcases z with z|z<;>simp[z]) hy
theorem XR.kR(j:XR t H x k sh sr s)(o:Off t x (r::rl))(kk:Keep [r] H H')(hR:RuX t H r rl g):XR t H' x k sh sr s:=by
 obtain⟨C,d,fs,e⟩:=hR.ins
 refine j.keep kk (λy hy z=>o y ?_ (by rw[hV.mp z];exact kW)) (j.tb.keepR e kk)
 have hy:y=x.s∨y=x.tm∨y=x.a.li∨y∈sf x:=by simpa using hy
 rcases hy with h|h|h|h<;>simp[h]
theorem q0L{H H':Hp}{F:List Addr}(k:Keep F H H'):∀{rs:List V} {ts:List Tl},Tls H rs ts→Tls H' rs ts
 |_,_,.nil=>.nil
 |_,_,.cons ⟨p,e,h⟩ r=>.cons ⟨p,e,k.tp _ _ h⟩ (q0L k r)
end
noncomputable def spLs(t:Adr):Sp:=λvs H Q _=>∃x k sh sr s,vs=[.ref x.s]∧XR t H x k sh sr s∧∀H',Same H H'→Q (.int s.lst) H'
theorem qJF{s:XS}{M:Int}(lc:s.cl.length=s.q.B)(b1:1≤s.q.B)(hM:M∈(List.range s.q.B).map λb=>s.cl.getD b 0)(le:∀a∈(List.range s.q.B).map λb=>s.cl.getD b 0,M≤a):M=s.lst:=by
 have ecl:((List.range s.q.B).map λb=>s.cl.getD b 0)=s.cl:=by
  rw[←lc]
  refine rH (by simp) λi h1 h2=>?_
  simp[hU h2]
 rw[ecl]at hM le
 obtain⟨m,e,h1,h2⟩:=q5V (l:=s.cl) (λz=>by rw[z]at hM;cases hM)
 unfold XS.lst
 rw[e]
 have:=h2 M hM
 have:=le m h1
 show M=m
 omega
theorem q2Y(T:Txt K mg t)(S:Fns K t):S.Even_least.Ok0 P w mg base 6 (spLs t):=by
 refine S.Even_least.F.ok0 q6N λcdv A _ s H vs Q E hr h=>?_
 ·obtain⟨x,k,sh,sr,s,rfl,j,kk⟩:=h
  obtain⟨m,hs,c,_⟩:=j.e
  have b1:=c.ft.ok.bl1
  have b2:=j.w.qs.ok.b2
  have eB:=c.ft.eB
  refine⟨_,(qC (qL (qGQ rfl (by rfl) T.b_min qG (qA (uS ["self","block"] [0] rfl (y8 (j9 (pv 0) T.cl_Even T.m_Even_good (vF T S).mono hr S.Plain_good.b .nil qK)) (λ_ _ _ _ _=>(qX (i:=1) (show List.Nodup (["self","block"]:List Str)from by decide) rfl (Or.inl rfl))) (λ_ _ _ _ _=>q53) (λ_ _ _ _ _=>(qY (uT (K:=K) rfl (pv 0) rfl) T.cl_Chip T.m_Chip_cleared (uF T S).mono hr S.Chip_cleared.b .nil qK (qA (pv 1) qE))) (by kernel_rfl) (yG (by decide))) qE)))),?_⟩
  try dsimp-beta-proj-iota-zeta-eta only[wishK,cxK]
  refine(iV rfl (iM hs.o rfl ⟨x,_,_,_,_,m,s.q,rfl,hs,c.ft,λp H1 n1 s1 h1=>?_⟩))
  rw[c.br,jY]at h1
  refine⟨p,rfl,⟨_,SqL.of h1⟩,λD H2 nD s2 hD=>?_⟩
  refine q9D (K:=K) (xs:=(List.range s.q.B).map vn) (D:=D) (λi H3=>Same H1 H3∧H3 D=some (.lst ((((List.range s.q.B).take i).map λb=>s.cl.getD b 0).map V.int))) ⟨s2,hD⟩ (λi H3 hp=>SqL.of (hp.1 _ _ h1)) (λi y H3 hy hp=>?_) (λH3 hp=>?_)
  ·obtain⟨sm,hd⟩:=hp
   have h3:=hs.same (s1.trans sm)
   rw[mD]at hy
   obtain⟨b,hb,rfl⟩:=mH.mp hy
   obtain⟨hi,eb⟩:=kE.mp hb
   have bB:b<s.q.B:=mM.mp (m8 hb)
   refine(iV rfl (iF h3.o T.cl_Even T.na_Even_chip rfl (iM h3.ch.ins rfl ⟨_,rfl,x.c,x.a,m,_,rfl,h3.ch,c.ft.ok,by omega,by omega,?_⟩)))
   rw[mK,c.cl]
   refine⟨_,hd,?_,λb o e=>?_,?_⟩
   ·rw[h9,h9,gL,mZ]
    have:(16:Nat)<sizeLine:=by decide
    omega
   ·rw[qD (qH e nD)]
    exact sm _ _ e
   ·rw[qI,←mW hi,m7,m7,eb]
    rfl
  ·obtain⟨sm,hd⟩:=hp
   rw[h9,gE]at hd
   refine⟨D,_,rfl,SqL.of hd,λe=>?_,λM hM le=>?_⟩
   ·have e:(List.range s.q.B).map (λb=>s.cl.getD b 0)=[]:=by simpa using e
    have:=dR List.length e
    rw[h9,mZ]at this
    simp at this
    omega
   ·rw[qJF j.w.lc (by omega) hM le]
    exact kk H3 (s1.trans sm)
noncomputable def spCb(t:Adr):Sp:=λvs H Q _=>∃x k sh sr s p rs,∃L:List Nat,vs=[.ref x.s,.ref p]∧XR t H x k sh sr s∧H p=some (.lst rs)∧Tls H rs (L.map s.tl)∧L.length≤16∧∀p' rs' H',H p'=none→Same H H'→H' p'=some (.lst rs')→Tls H' rs' ((s.clb k L).map s.tl)→Q (.ref p') H'
theorem zR(T:Txt K mg t)(S:Fns K t):S.Even_clearable.Ok0 P w mg base 7 (spCb t):=by
 refine S.Even_clearable.F.ok0 zP λcdv A _ s H vs Q E hr h=>?_
 ·obtain⟨x,k,sh,sr,s,p,rs,L,rfl,j,hp0,ty,l16,kk⟩:=h
  have sz:(16:Nat)<sizeLine:=by decide
  refine⟨_,(qB (qV (i:=2) zP.nd rfl (Or.inr rfl) (qM yC (j9 (pv 0) T.cl_Even T.m_Even_least (q2Y T S).mono hr S.Even_least.b .nil qK) (qJ (qJ (pv 0) rfl) rfl))) (qC (qL (uS ["bound","tally"] [2] rfl (y8 (pv 1)) (λ_ _ _ _ _=>(qX (i:=1) (show List.Nodup (["bound","tally"]:List Str)from by decide) rfl (Or.inl rfl))) (λ_ _ _ _ _=>(vC (qR q3M (qS (q7U (K:=K) rfl) (pv 1) qG (λ_ _=>rfl)) (pv 0) (qT _)))) (λ_ _ _ _ _=>(pv 1)) (by kernel_rfl) (yG (by decide)))))),?_⟩
  try dsimp-beta-proj-iota-zeta-eta only[wishK,cxK]
  refine(iV rfl (iM j.o rfl ⟨x,k,sh,sr,s,rfl,j,λH1 s1=>?_⟩))
  obtain⟨m,h1,c,_⟩:=(j.same s1).e
  refine(iV rfl (iF h1.o T.cl_Even T.na_Even_terms rfl (iF h1.te T.cl_Terms T.na_Terms_spread rfl (iI ?_))))
  refine⟨_,rfl,p,rfl,⟨_,SqL.of (s1 _ _ hp0)⟩,λD H2 nD s2 hD=>?_⟩
  have ty1:=ty.same s1
  unfold XS.clb at kk
  refine vW (K:=K) (xs:=rs) (D:=D) (λi H3=>∃rs',Same H1 H3∧H3 D=some (.lst rs')∧rs'.length≤i∧Tls H1 rs' (((L.take i).filter λb=>decide (s.cl.getD b 0<s.lst+k.sp)).map s.tl)) ⟨_,s2,hD,kM _,.nil⟩ (λi H3 hp=>by obtain⟨_,sm,_⟩:=hp;exact SqL.of (sm _ _ (s1 _ _ hp0))) (λi y H3 hy hp=>?_) (λH3 hp=>?_)
  ·obtain⟨rs',sm,hd,ln,ty'⟩:=hp
   obtain⟨o,ho,tp,rfl,htp⟩:=Paired.at ty1 hy
   rw[mD]at ho
   obtain⟨b,hb,rfl⟩:=mH.mp ho
   have hi:=(kE.mp hb).1
   obtain rfl:L[i]=b:=(kE.mp hb).2
   refine⟨_,rfl,iT (k:=_) (v:=_) (SqT.of (sm _ _ htp)) rfl ⟨_,rfl,iI ⟨_,rfl,?_⟩⟩⟩
   rw[q9Z hi]
   have e2:(s.tl L[i]).cl=s.cl.getD L[i] 0:=rfl
   by_cases z:s.cl.getD L[i] 0<s.lst+k.sp
   ·rw[hG (show(s.tl L[i]).cl<s.lst+k.sp from z),hG z,kI rfl,m7]
    refine iteT ?_
    refine⟨_,rfl,_,hd,by omega,_,λb o e=>?_,qI,?_,L2.Paired.snoc ty' ⟨tp,rfl,htp⟩⟩
    ·rw[qD (qH e nD)]
     exact sm _ _ e
    ·rw[kP]
     exact wW ln 1
   ·rw[kD (show ¬(s.tl L[i]).cl<s.lst+k.sp from z),kD z,kF (by decide),dA]
    exact iteF ⟨_,sm,hd,by omega,ty'⟩
  ·obtain⟨rs',sm,hd,ln,ty'⟩:=hp
   have lr:=ty.len
   rw[h9]at lr
   rw[lr,gE]at ty'
   exact kk D rs' H3 (s1.free nD) (s1.trans sm) hd (ty'.same sm)
noncomputable def qHF(t:Adr):Sp:=λvs H Q _=>∃x k sh sr s,vs=[.ref x.s]∧XR t H x k sh sr s∧k.ev=true∧∀p rs H',H p=none→XR t H' x k sh sr s→Keep [t.T_Plain_free] H H'→H' p=some (.lst rs)→Tls H' rs (s.ots k)→Q (.ref p) H'
theorem XR.opts{H:Hp}{x:Sto}{k:Tm}{sh sr:Int}{s:XS}(j:XR t H x k sh sr s)(ev:k.ev=true){Q:VK}{E:XK}(kk:∀p rs H',H p=none→XR t H' x k sh sr s→Keep [t.T_Plain_free] H H'→H' p=some (.lst rs)→Tls H' rs (s.ots k)→Q (.ref p) H'):qHF t [.ref x.s] H Q E:=⟨x,k,sh,sr,s,rfl,j,ev,kk⟩
theorem qF2{k:Tm}{s:XS}(h:WX k s):(s.ded k).length≤16∧(s.ful k).length≤16:=by
 have b2:=h.qs.ok.b2
 have:(s.ful k).length≤16:=by
  unfold XS.ful
  refine mF (mE _ _) ?_
  rw[mZ]
  exact b2
 exact⟨mF (mE _ _) this,this⟩
theorem qGW{H H':Hp}{p:Addr}(k1:Keep [t.T_Plain_free] H H')(tb:TbF t H')(np:H' p=none):H p=none:=by
 refine k1.none (λz=>?_) np
 obtain⟨ps',hT',_⟩:=tb
 rw[hV.mp z,hT']at np
 cases np
theorem q19(T:Txt K mg t)(S:Fns K t)(B:BmIn base mg):S.Even_options.Ok0 P w mg base 12 (qHF t):=by
 refine S.Even_options.F.ok0 q4Q λcdv A _ s H vs Q E hr h=>?_
 ·obtain⟨x,k,sh,sr,s,rfl,j,ev,kk⟩:=h
  refine⟨_,(qC (qL (qY (pv 0) T.cl_Even T.m_Even_clearable (zR T S).mono hr S.Even_clearable.b .nil qK (qA (j9 (pv 0) T.cl_Even T.m_Even_with_dead_page (q0J T S B).mono hr S.Store_with_dead_page.b .nil qK) qE)))),?_⟩
  try dsimp-beta-proj-iota-zeta-eta only[wishK,cxK]
  obtain⟨m,hs,c,_⟩:=j.e
  refine(iV rfl (iM hs.o rfl (iV rfl (iM hs.o rfl ⟨x,_,_,_,m,s.q,_,rfl,hs,c.ft,λl p rs H1 hl np k1 tb1 h1 ty=>?_⟩))))
  have j1:=j.kT k1 tb1
  have ty:=q8L ty
  rw[c.br,c.cl]at hl
  rw[qEN j.w c.br hl,qHB c.cl]at ty
  refine⟨x,k,sh,sr,s,p,rs,s.ded k,rfl,j1,h1,ty,(qF2 j.w).1,λp' rs' H2 np' s2 h2 ty2=>?_⟩
  refine kk p' rs' H2 (qGW k1 tb1 np') (j1.same s2) (k1.trans (Keep.same s2)) h2 ?_
  unfold XS.ots XS.opt
  rw[ev]
  exact ty2
theorem qKT:FnScope ["tally"] ["tally"] lbSc:=⟨rfl,rfl,rfl,by decide+kernel,rfl,by decide+kernel,by decide+kernel⟩
noncomputable def spLb(g c:Addr)(pm ct:Value):Sp:=λvs H Q _=>∃v T,vs=[v]∧TlAt H v T∧H g=some (fnO g (lbFd pm ct c))∧H c=some (cdO c lbQ)∧NewO H (.tup [.int (Tl.cl T),.int (Tl.b T)]) Q
theorem qKU{g c:Addr}{pm ct:Value}{bs:Heap}:FnOk P w K mg bs CX0 1 g (lbFd pm ct c) ["tally"] (spLb g c pm ct):=by
 refine qIV (k:=0) qKT (λvs H Q E h=>?_) (λvs H Q E h=>?_) (λA outer s H vs Q E hr h=>?_)
 ·repeat obtain⟨_,h⟩:=h
  all_goals subst_vars;rfl
 ·obtain⟨v,T,rfl,_,a,b,_⟩:=h
  exact⟨a,b⟩
 ·obtain⟨v,T,rfl,⟨ad,rfl,ha⟩,_,_,q⟩:=h
  refine⟨_,uD (qA (qS jC (pv 0) qG (λ_ _=>rfl)) (qA (qS jC (pv 0) qG (λ_ _=>rfl)) qE)),?_⟩
  exact⟨_,rfl,iT (k:=2) (v:=_) (SqT.of ha) rfl ⟨_,rfl,iT (k:=0) (v:=_) (SqT.of ha) rfl ⟨sz2,q⟩⟩⟩
theorem qF3{c:Addr}{pm ct:Value}:jS K (lbFd pm ct c) ["tally"] []:=jS.all λus hl=>match us,hl with| [_],_=>rfl
theorem qGX{H:Hp}(h:TbB t H):∃ps,H t.T_Even_block_to_change=some (.tbl ps)∧TriplesOk ps.toList∧
 ((codeAmong lbP ps.toList=none∧∀c H',H' t.T_Even_block_to_change=some (.tbl (ps++triB c))→H' c=some (cdO c lbQ)→TbB t H')∨∃c,codeAmong lbP ps.toList=some (.ref c)∧H c=some (cdO c lbQ)):=by
 obtain⟨ps,hT,h⟩:=h
 rcases h with rfl|⟨c,rfl,a⟩
 ·exact⟨_,hT,trivial,.inl ⟨rfl,λc H' e1 e2=>⟨_,e1,.inr ⟨c,rfl,e2⟩⟩⟩⟩
 ·exact⟨_,hT,trivial,.inr ⟨c,rfl,a⟩⟩
theorem qGY{cl:List Int}{L:List Nat}{i:Nat}(pw:L.Pairwise (· < ·))(hi:i<L.length)(h:∀j,j<L.length→lx (keyN cl (L.getD j 0)) (keyN cl (L.getD i 0))=false):minF cl L=some (L.getD i 0):=by
 have gd:∀{j},(hj:j<L.length)→L.getD j 0=L[j]:=fun {j} hj=>by rw[kJ,hU hj];rfl
 obtain⟨h1,h2⟩:=q2K (cl:=cl) pw
 cases z:minF cl L with
 |none=>
  rw[h1 z]at hi
  cases hi
 |some b=>
  obtain⟨m1,m2⟩:=h2 b z
  obtain⟨j,hj,rfl⟩:=dM m1
  have a1:=h j hj
  have a2:=m2 (L.getD i 0) (by rw[gd hi];exact gD hi)
  rw[gd hj]at a1
  have e:=q45 _ _ a1 a2
  unfold keyN at e
  injection e with _ e
  injection e with e _
  rw[show L[j]=L.getD i 0 by omega]
theorem qJG{k:Tm}{s:XS}:(s.clb k (s.ful k)).Pairwise (· < ·):=by
 unfold XS.clb XS.ful
 exact(dG.filter _).filter _
theorem qBW{kn:Nat}{cells:List (Str×Addr)}{σ:St}{H4:Hp}{D f c':Addr}{k:Tm}{s:XS}{rs:List V}{L:List Nat}{pm ct:Value}{Q:VK}(hk:1≤kn)(ne:L≠[])(pw:L.Pairwise (· < ·))(hD:H4 D=some (.lst rs))(ty:Tls H4 rs (L.map s.tl))(hf:H4 f=some (fnO f (lbFd pm ct c')))(hc:H4 c'=some (cdO c' lbQ))
 (kk:∀b v H',minF s.cl L=some b→Same H4 H'→TlAt H' v (s.tl b)→Q v H'):
 ∃(f':Addr) (fd:FuncData) (sp:Heap→Sp),V.ref f=.ref f'∧(∀base',(∀b o,base.get? b=some o→base'.get? b=some o)→q1L cells σ base' []→FnOk P w K mg base' CX0 kn f' fd ["tally"] (sp base'))∧jS K fd ["tally"] []∧
  ∃(l:Addr) (us:List V) (kf:Nat→List Int) (Pv:Nat→List V→Hp→Prop),[V.ref D]=[.ref l]∧0<us.length∧Pv 0 [] H4∧(∀i zs H',Pv i zs H'→SqL K H' l us∧zs.length=i∧KeyI K kf H' zs)∧(∀base' i x zs H',q1L cells σ base' []→us[i]?=some x→Pv i zs H'→sp base' [x] H' (λz H''=>Pv (i+1) (zs++[z]) H'') E0)∧
  ∀i zs H',i<us.length→(∀j,j<us.length→lx (kf j) (kf i)=false)→Pv us.length zs H'→Q (us.getD i .non) H':=by
 have ln:=ty.len
 rw[h9]at ln
 refine⟨f,lbFd pm ct c',λ_=>spLb f c' pm ct,rfl,λ_ _ _=>qKU.mono hk,qF3,D,rs,λj=>keyN s.cl (L.getD j 0),λi zs H'=>Same H4 H'∧i≤L.length∧Paired (TupD H') zs ((L.take i).map (keyN s.cl)),rfl,by have:=r9.mpr ne;omega,⟨Same.refl H4,mO _,.nil⟩,λi zs H' hp=>?_,λbase' i y zs H' _ hy hp=>?_,λi zs H' hi hm hp=>?_⟩
 ·obtain⟨sm,le,pr⟩:=hp
  have lz:=pr.len
  rw[h9,gL]at lz
  refine⟨SqL.of (sm _ _ hD),by omega,λj z hz=>?_⟩
  have hj:=(kE.mp hz).1
  obtain⟨kv,hk,tp,rfl,htp⟩:=Paired.at pr hz
  rw[mD,List.getElem?_take,kI (by omega)]at hk
  obtain⟨b,hb,rfl⟩:=mH.mp hk
  show TupI K H' (V.ref tp) (keyN s.cl (L.getD j 0))
  rw[kJ,hb]
  exact⟨tp,rfl,SqT.of htp⟩
 ·obtain⟨sm,le,pr⟩:=hp
  obtain⟨o,ho,hv⟩:=Paired.at ty hy
  rw[mD]at ho
  obtain⟨b,hb,rfl⟩:=mH.mp ho
  have hi:=(kE.mp hb).1
  refine⟨y,s.tl b,rfl,hv.same sm,sm _ _ hf,sm _ _ hc,λtp H5 ntp s5 e5=>⟨sm.trans s5,hi,?_⟩⟩
  rw[q7D (f:=keyN s.cl) hb]
  exact L2.Paired.snoc (vX pr s5) ⟨tp,rfl,e5⟩
 ·obtain⟨sm,le,pr⟩:=hp
  have hiL:i<L.length:=by omega
  obtain⟨o,ho,hv⟩:=Paired.at ty (hU hi)
  rw[mD]at ho
  obtain⟨b,hb,rfl⟩:=mH.mp ho
  have e:L.getD i 0=b:=by rw[kJ,hb];rfl
  have:=qGY (cl:=s.cl) pw hiL (λj hj=>hm j (by omega))
  rw[e]at this
  refine kk b _ H' this sm ?_
  rw[kJ,hU hi]
  exact hv.same sm
noncomputable def spBc(t:Adr):Sp:=λvs H Q E=>∃x k sh sr s,vs=[.ref x.s]∧XR t H x k sh sr s∧k.ev=true∧(match s.chg k with
 |none=>∀H',XR t H' x k sh sr s→Keep [t.T_Plain_free] H H'→E (.ref t.C_NoRoom) none H'
 |some b=>∀H',XR t H' x k sh sr s→Keep [t.T_Plain_free,t.T_Even_block_to_change] H H'→Q (.int (b:Int)) H')
theorem q0M(T:Txt K mg t)(S:Fns K t)(B:BmIn base mg):FnOk P w K mg base (CXe P w) 11 t.f_Even_block_to_change S.fd_Even_block_to_change ["self"] (spBc t):=by
 refine S.F_Even_block_to_change.okE uN (λvs H Q E h=>?_) (λA outer s H vs Q E hr h=>?_)
 ·repeat obtain⟨_,h⟩:=h
  all_goals subst_vars;rfl
 ·obtain⟨x,k,sh,sr,s,rfl,j,ev,kk⟩:=h
  refine⟨_,(qB (qV (i:=1) uN.nd rfl (Or.inl rfl) (qY (pv 0) T.cl_Even T.m_Even_clearable (zR T S).mono hr S.Even_clearable.b .nil qK (qA (j9 (pv 0) T.cl_Even T.m_Even_full_ones (zJ T S B).mono hr S.Store_full_ones.b .nil qK) qE))) (qB (jE (qR (q7R hr.units) (pv 1) (jX qE) (qT _)) (qC (q96 jF rfl rfl T.mg_NoRoom T.x_NoRoom (qA q1A qE))) qQ) (qC (qL (qS jC (qDN (qGU (k:=9) (x:="tally") [] (by intro p hp;cases hp) rfl hr.units hr (by rfl) T.b_min (qBH (clos:=[]) rfl T.cd_Even_block_to_change B rfl rfl) (qA (pv 1) qE))) qG (λ_ _=>rfl)))))),?_⟩
  try dsimp-beta-proj-iota-zeta-eta only[wishK,cxK]
  obtain⟨m,hs,c,_⟩:=j.e
  refine(iV rfl (iM hs.o rfl (iV rfl (iM hs.o rfl ⟨x,_,_,_,m,s.q,_,rfl,hs,c.ft,λl p rs H1 hl np k1 tb1 h1 ty=>?_⟩))))
  have j1:=j.kT k1 tb1
  have ty:=q8L ty
  rw[c.br,c.cl]at hl
  rw[c.br,qEM j.w hl,qHB c.cl]at ty
  refine⟨x,k,sh,sr,s,p,rs,s.ful k,rfl,j1,h1,ty,(qF2 j.w).2,λp' rs' H2 np' s2 h2 ty2=>?_⟩
  have j2:=j1.same s2
  have k2:Keep [t.T_Plain_free] H H2:=k1.trans (Keep.same s2)
  refine⟨_,rfl,sz0,λe6 H6 n6 s6 h6=>⟨p',_,e6,rfl,rfl,SqL.of (s6 _ _ h2),SqL.of h6,_,rfl,?_⟩⟩
  have k6:Keep [t.T_Plain_free] H H6:=k2.trans (Keep.same s6)
  have j6:=j2.same s6
  have ty6:=ty2.same s6
  have h26:=s6 _ _ h2
  have ln:=ty6.len
  rw[h9]at ln
  have pw:=qJG (k:=k) (s:=s)
  unfold XS.chg at kk
  generalize s.clb k (s.ful k)=L at kk ty6 ln pw
  cases rs' with
  |nil=>
   obtain rfl:L=[]:=pF ln.symm
   exact iteT ⟨sz1,kk H6 j6 k6⟩
  |cons u us=>
   have ne:L≠[]:=λz=>by rw[z]at ln;cases ln
   refine iteF ?_
   obtain⟨J,eJ⟩:∃J:VK,J=λv H5=>∃tp b,v=.ref tp∧H5 tp=some (.tup ((s.tl b).ns.map V.int))∧minF s.cl L=some b∧XR t H5 x k sh sr s∧Keep [t.T_Plain_free,t.T_Even_block_to_change] H H5:=⟨_,rfl⟩
   refine⟨J,?_,?_⟩
   ·refine⟨_,rfl,?_⟩
    obtain⟨pf,hTf,hf0,tB⟩:=j6.tb
    obtain⟨ps,hT,ht,hcc⟩:=qGX tB
    have nT:p'≠t.T_Even_block_to_change:=λz=>by rw[z,hT]at h26;cases h26
    refine⟨ps,hT,ht,?_⟩
    have fin:∀b v H4 H5,Keep [t.T_Plain_free,t.T_Even_block_to_change] H6 H4→XR t H4 x k sh sr s→minF s.cl L=some b→Same H4 H5→TlAt H5 v (s.tl b)→J v H5:=λb v H4 H5 k4 j4 e s5 hv=>by
     obtain⟨tp,rfl,h5⟩:=hv
     rw[eJ]
     exact⟨tp,b,rfl,h5,e,j4.same s5,((k6.mono (by simp)).trans k4).trans (Keep.same s5)⟩
    rcases hcc with⟨hn,tb⟩|⟨c0,hn,hc0⟩
    ·refine .inl ⟨hn,λf c' ctv H4 nf hf hc' hT4 kp=>?_⟩
     have nTT:t.T_Plain_free≠t.T_Even_block_to_change:=T.tne_Plain_free
     have k4:Keep [t.T_Plain_free,t.T_Even_block_to_change] H6 H4:=⟨λb o nb e=>kp b o (λz=>nb (by rw[z];simp)) e,λb xs e=>kp b _ (λz=>by rw[z,hT]at e;cases e) e⟩
     have k4':Keep [t.T_Even_block_to_change] H6 H4:=⟨λb o nb e=>kp b o (λz=>nb (by rw[z];simp)) e,k4.tp⟩
     have tb4:TbF t H4:=by
      refine⟨pf,kp _ _ nTT hTf,?_,tb c' H4 hT4 hc'⟩
      rcases hf0 with z|⟨c1,z,a⟩
      ·exact .inl z
      ·exact .inr ⟨c1,z,kp _ _ (λz=>by rw[z,hT]at a;cases a) a⟩
     obtain⟨m6,st6,_⟩:=j6.e
     have j4:=j6.keep k4' (λb hb z=>st6.nX hT (.inl ⟨_,rfl⟩) (by rw[←hV.mp z];exact hb)) tb4
     exact qBW (k:=k) (s:=s) (show 1≤11-2 by decide) ne pw (kp _ _ nT h26) (Paired.mapP ty6 λv o ⟨a,e,z⟩=>⟨a,e,k4.tp _ _ z⟩) hf hc' λb v H5 e s5 hv=>fin b v H4 H5 k4 j4 e s5 hv
    ·refine .inr ⟨c0,hn,λf ctv H4 nf hf s4=>?_⟩
     exact qBW (k:=k) (s:=s) (show 1≤11-2 by decide) ne pw (s4 _ _ h26) (ty6.same s4) hf (s4 _ _ hc0) λb v H5 e s5 hv=>fin b v H4 H5 (Keep.same s4) (j6.same s4) e s5 hv
   rw[eJ]
   rintro v H5 ⟨tp,b,rfl,h5,e,j5,k5⟩
   rw[e]at kk
   exact(iT (k:=0) (v:=_) (SqT.of h5) rfl (kk H5 j5 k5))
noncomputable def spCh(t:Adr):Sp:=λvs H Q E=>∃x k sh sr s r rl g,vs=[.ref x.s]∧XR t H x k sh sr s∧k.ev=true∧x.ru=.ref r∧RuX t H r rl g∧Off t x (r::rl)∧s.rc.length<1000000∧(match s.tk k g with
 |none=>∀H',XR t H' x k sh sr s→Keep [t.T_Plain_free] H H'→E (.ref t.C_NoRoom) none H'
 |some (y,b,g')=>∀p H',Keep [t.T_Plain_free,t.T_Even_block_to_change,r] H H'→XR t H' x k sh sr s→RuX t H' r rl g'→H' p=some (.tup [.str y,.int (b:Int)])→Q (.ref p) H')
theorem q6C(T:Txt K mg t)(S:Fns K t)(B:BmIn base mg):S.Even_choice.OkE P w mg base 13 (spCh t):=by
 refine S.Even_choice.F.okE q24 (λvs H Q E h=>?_) (λcdv A outer s H vs Q E hr h=>?_)
 ·repeat obtain⟨_,h⟩:=h
  all_goals subst_vars;rfl
 ·obtain⟨x,k,sh,sr,s,r,rl,g,rfl,j,ev,er,hR,of,rc,kk⟩:=h
  refine⟨_,(qB (qV (i:=1) q24.nd rfl (Or.inl rfl) (j9 (pv 0) T.cl_Even T.m_Even_options (q19 T S B).mono hr S.Even_options.b .nil qK)) (qB (jE (qR (q7R hr.units) (pv 1) (jX qE) (qT _)) (qC (qL (uD (qA q1A (qA (uL jF (pv 0) T.cl_Even T.m_Even_block_to_change (q0M T S B).mono hr S.b_Even_block_to_change .nil) qE))))) qQ) (qC (qL (qY (pv 0) T.cl_Even T.m_Even_choice_by_rule (q0K T S).mono hr S.Store_choice_by_rule.b .nil qK (qA (pv 1) qE)))))),?_⟩
  try dsimp-beta-proj-iota-zeta-eta only[wishK,cxK]
  refine(iV rfl (iM j.o rfl ?_))
  dsimp only[tNil,rR]
  refine j.opts ev λp rs H1 np j1 k1 h1 ty=>?_
  refine⟨_,rfl,sz0,λe6 H6 n6 s6 h6=>⟨p,_,e6,rfl,rfl,SqL.of (s6 _ _ h1),SqL.of h6,_,rfl,?_⟩⟩
  have k6:Keep [t.T_Plain_free] H H6:=k1.trans (Keep.same s6)
  have j6:=j1.same s6
  have ln:=ty.len
  unfold XS.tk at kk
  cases rs with
  |nil=>
   have e0:s.opt k=[]:=pO.mp (pF ln.symm)
   rw[kI e0,ev,kI rfl]at kk
   refine iteT ?_
   refine(iV rfl (iM j6.o rfl ⟨x,k,sh,sr,s,rfl,j6,ev,?_⟩))
   have oT:=of t.T_Plain_free (by simp)
   have oB:=of t.T_Even_block_to_change (by simp)
   cases z:s.chg k with
   |none=>
    rw[z]at kk
    exact λH7 j7 k7=>kk H7 j7 (k6.trans k7)
   |some b=>
    rw[z]at kk
    refine λH7 j7 k7=>⟨sz2,λtp H8 n8 s8 h8=>?_⟩
    have k8:Keep [t.T_Plain_free,t.T_Even_block_to_change] H H8:=((k6.mono (by simp)).trans k7).trans (Keep.same s8)
    refine kk tp H8 (k8.mono (by intro y hy;simp at hy ⊢;rcases hy with e|e<;>simp[e])) (j7.same s8) (hR.keep k8 λy hy z=>?_) h8
    have z:y=t.T_Plain_free∨y=t.T_Even_block_to_change:=by simpa using z
    rcases z with z|z
    ·exact oT (by rw[←z];exact hy)
    ·exact oB (by rw[←z];exact hy)
  |cons u us=>
   have ne:s.opt k≠[]:=λz=>by
    unfold XS.ots at ln
    rw[z]at ln
    cases ln
   rw[kF ne]at kk
   refine iteF ?_
   obtain⟨m,hs6,c,_⟩:=j6.e
   have oT:=of t.T_Plain_free (by simp)
   have hR6:=hR.keep k6 (λy hy z=>oT (by rw[←hV.mp z];exact hy))
   have ne':s.ots k≠[]:=λz=>ne (pO.mp z)
   have okT:∀o∈s.ots k,o.Ok (s.q.P:Int) s.q.nx:=λo ho=>by
    obtain⟨b,hb,rfl⟩:=kZ.mp ho
    exact qKG j.w rc (yR.mp hb).1.1.b
   refine(iV rfl (iM hs6.o rfl ⟨_,rfl,x,_,_,_,_,m,s.q,r,rl,g,p,_,_,rfl,hs6,c.ft,er,hR6,s6 _ _ h1,ty.same s6,ne',by unfold XS.ots;rw[h9];exact qJ4 j.w,okT,qGH,λpp H7 k7 hR7 h7=>?_⟩))
   have cm:=qEO (pg:=(s.q.P:Int)) (nw:=s.q.nx) hR.ok ne'
   refine kk pp H7 ((k6.mono (by simp)).trans (k7.mono (by simp))) (j6.kR of k7 hR6) hR7 ?_
   rw[h7]
   obtain⟨b,hb,e⟩:=kZ.mp cm
   obtain⟨c',_,rfl⟩:=kZ.mp hb
   have e:(c':Int)=(g.ch (s.q.P:Int) s.q.nx (s.ots k)).1:=e
   rw[←e,mK]
noncomputable def spPp(K:W.Frag):Sp:=λvs H Q _=>∃wy bl wi l1 l2 rs us,vs=[wy,.ref l1,bl,.ref l2,wi]∧H l1=some (.lst rs)∧H l2=some (.lst us)∧∀pa a1 a2 H',Same H H'→H pa=none→H a1=none→H a2=none→H' pa=some (.tup [wy,.ref a1,bl,.ref a2,wi])→H' a1=some (.lst rs)→H' a2=some (.lst us)→Q (.ref pa) H'
theorem q4N(T:Txt K mg t)(S:Fns K t):S.paper_of.Ok0 P w mg base 1 (spPp K):=by
 refine S.paper_of.F.ok0 q9R λcdv A _ s H vs Q E hr h=>?_
 ·obtain⟨wy,bl,wi,l1,l2,rs,us,rfl,h1,h2,k⟩:=h
  refine⟨_,(qC (qL (uD (qA (pv 0) (qA (q75 q2V (by rfl) T.b_list (by kernel_rfl) (qA (pv 1) qE)) (qA (pv 2) (qA (q75 q2V (by rfl) T.b_list (by kernel_rfl) (qA (pv 3) qE)) (qA (pv 4) qE)))))))),?_⟩
  try dsimp-beta-proj-iota-zeta-eta only[wishK,cxK]
  refine⟨_,rfl,_,rfl,l1,rs,rfl,.inl (SqL.of h1),λa1 H1 n1 s1 e1=>?_⟩
  refine⟨_,rfl,_,rfl,l2,us,rfl,.inl (SqL.of (s1 _ _ h2)),λa2 H2 n2 s2 e2=>?_⟩
  refine⟨_,rfl,sz5,λpa H3 n3 s3 e3=>?_⟩
  exact k pa a1 a2 H3 ((s1.trans s2).trans s3) ((s1.trans s2).free n3) n1 (s1.free n2) e3 (s3 _ _ (s2 _ _ e1)) (s3 _ _ e2)
theorem qGZ{s:XS}{k:Tm}{b:Nat}{rs:List (List Int)}(w:WX k s)(pm:rs.Perm (lpK s.q.P b s.q.V))(so:rs.Pairwise λa b=>lx b a=false):rs=lvP s.q.P b s.q.V:=by
 refine qGG w.qs.ok.p1 w.pd ?_ (λkk=>?_) so
 ·refine pm.nodup_iff.mpr ?_
  unfold lpK
  refine g9.mpr (((g9.mp w.qs.ok.nd).imp fun {a c} hne z=>hne ?_).filter _)
  injection z with _ z
  injection z with z _
 ·rw[pm.mem_iff]
  unfold lpK
  rw[kZ]
  constructor
  ·rintro⟨y,hy,rfl⟩
   obtain⟨a1,a2⟩:=mJ.mp hy
   exact⟨y.1,y.2,rfl,a1,mV a2⟩
  ·rintro⟨n,p,rfl,a1,a2⟩
   exact⟨(n,p),mJ.mpr ⟨a1,hG a2⟩,rfl⟩
noncomputable def spMv(t:Adr):Sp:=λvs H Q E=>∃x k sh sr s,∃b:Nat,vs=[.ref x.s,.int (b:Int)]∧XR t H x k sh sr s∧Full k s b∧s.rc.length+100<1000000∧(match XS.mvs (lvP s.q.P b s.q.V) s with
 |(s',none)=>∀H',XR t H' x k sh sr s'→Keep (t.T_Plain_free::sf x) H H'→E (.ref t.C_PowerGone) none H'
 |(s',some ms)=>∀ml us H',XR t H' x k sh sr s'→H ml=none→H' ml=some (.lst us)→Paired (TupD H') us ms→Mvd k s b s' (lvP s.q.P b s.q.V).length→(∀y∈s'.q.V,¬y.2 / (s'.q.P:Int)=(b:Int))→Keep (t.T_Plain_free::sf x) H H'→Q (.ref ml) H')
theorem q6D(T:Txt K mg t)(S:Fns K t)(B:BmIn base mg):S.Store_moved.OkE P w mg base 12 (spMv t):=by
 refine S.Store_moved.F.okE v4 (λvs H Q E h=>?_) (λcdv A outer s H vs Q E hr h=>?_)
 ·repeat obtain⟨_,h⟩:=h
  all_goals subst_vars;rfl
 ·obtain⟨x,k,sh,sr,s,b,rfl,j,fl,rc,kk⟩:=h
  have s9:(99999:Nat)<sizeLine:=by decide
  have spR:=fl.sp j.w
  have l6:=j.w.l6
  refine⟨_,(qB (qV (i:=2) v4.nd rfl (Or.inl rfl) (jX qE)) (qB (uO wS rfl (y8 (qY (qJ (pv 0) rfl) T.cl_Book T.m_Book_live_pages (q3H T S).mono hr S.Book_live_pages.b .nil qK (qA (pv 1) qE))) (qA4 rfl (uA (qX (i:=3) v4.nd rfl (Or.inl rfl)) (uA (qX (i:=4) v4.nd rfl (Or.inl rfl)) q4Y))) (qC (j8 (qB3 wA rW rX vT (pv 2) (qA (uD (qA (pv 4) (qA (pv 3) (qA (jV jF (pv 0) T.cl_Even T.m_Even_lay (q13 T S B).mono hr S.Plain_lay.b .nil (qA (pv 4) (qA (jV jF (pv 0) T.cl_Even T.m_Even_value_to_move (q14 T S).mono hr S.Store_value_to_move.b .nil (qA (pv 3) (qA (pv 4) qE))) qE))) qE)))) qE q1I))))) (qC (qL (pv 2))))),?_⟩
  try dsimp-beta-proj-iota-zeta-eta only[wishK,cxK]
  refine⟨sz0,λml H1 n1 s1 h1=>?_⟩
  obtain⟨m,hs1,c,_⟩:=(j.same s1).e
  refine(iV rfl (iF hs1.o T.cl_Even T.na_Even_book rfl (iM hs1.bk.o rfl ⟨_,rfl,x.k,s.q,b,rfl,hs1.bk,j.w.qs.ok,by omega,λll ps rs H2 s2 n2 h2 pr2 pm so=>?_⟩)))
  obtain rfl:=qGZ j.w pm so
  have s02:=s1.trans s2
  have mlF:=j.off n1
  have llF:=(j.same s1).off n2
  have llm:ll≠ml:=(qH h1 n2).symm
  have lps:=pr2.len
  have lr:(lvP s.q.P b s.q.V).length≤16:=by
   have:=j.w.qs.ok.p2
   unfold lvP
   refine mF (d6 _ _) ?_
   rw[mZ]
   exact this
  refine⟨ll,rfl,⟨_,SqL.of h2⟩,?_⟩
  refine uP (K:=K) (xs:=ps) (λi σ' H'=>∃y3 y4 us s' ms,σ'=[some (.ref x.s),some (.int (b:Int)),some (.ref ml),y3,y4]∧XR t H' x k sh sr s'∧MvI k s b (lvP s.q.P b s.q.V) i s' ms∧H' ml=some (.lst us)∧Paired (TupD H') us ms∧Keep (ml::t.T_Plain_free::sf x) H2 H') ⟨_,_,[],s,[],rfl,j.same s02,MvI.zero j.w fl.f,s2 _ _ h1,.nil,Keep.refl⟩ (λi σ' H' hi hp=>?_) (λi v σ' H' hv hp=>?_) (λσ' H' hp=>?_)
  ·obtain⟨y3,y4,us,s',ms,rfl,j',mi,hml,pr,kk'⟩:=hp
   refine SqL.of (kk'.k _ _ (λz=>?_) h2)
   rcases kL.mp z with e|e
   ·exact llm e
   ·exact llF e
  ·obtain⟨y3,y4,us,s',ms,rfl,j',mi,hml,pr,kk'⟩:=hp
   obtain⟨kv,hk,tp,rfl,htp⟩:=Paired.at pr2 hv
   obtain⟨hi,ekv⟩:=kE.mp hk
   obtain⟨n,p,er,hnp,n0,n64⟩:=mi.at hi
   rw[er]at ekv
   subst ekv
   have htp':=kk'.tp _ _ htp
   have rce:=mi.rc
   have rme:=mi.rm
   have kH:∀{G},Keep (t.T_Plain_free::sf x) H' G→Keep (t.T_Plain_free::sf x) H G:=fun {G} kG=>by
    refine⟨λy o ny e=>kG.k y o ny (kk'.k y o (λz=>?_) (s02 _ _ e)),λy ys e=>kG.tp _ _ (kk'.tp _ _ (s02 _ _ e))⟩
    rcases kL.mp z with z|z
    ·rw[z,n1]at e;cases e
    ·exact ny z
   refine⟨tp,_,rfl,SqT.of htp',rfl,_,_,rfl,_,_,rfl,rfl,?_⟩
   refine⟨_,rfl,.inl ⟨rfl,_,SqL.of hml⟩,_,rfl,_,rfl,iV rfl (iM j'.o rfl ⟨_,rfl,iV rfl (iM j'.o rfl ⟨_,rfl,_,rfl,x,k,sh,sr,s',n,p,rfl,j',hnp,λdk=>?_,λH3 s3=>?_⟩)⟩)⟩
   ·rw[mi.dark hi dk]at kk
    exact kk H' j' (kH Keep.refl)
   dsimp only[tNil,c9,rR,dA]
   have hml3:=s3 _ _ hml
   refine(j'.same s3).set n0 n64 (by omega) (by rw[mi.eP];omega) (.inl ⟨p,hnp⟩) (λdk H5 j5 k5=>?_) (λdk H5 j5 k5=>?_)
   ·rw[mi.dark hi dk]at kk
    exact kk H5 j5 (kH ((Keep.same s3).trans k5))
   have hml5:=k5.k _ _ mlF hml3
   refine⟨sz3,λtu H6 n6 s6 h6=>⟨ml,us,_,rfl,rfl,s6 _ _ hml5,by have:=pr.len;have:=mi.l;omega,?_⟩⟩
   have hml6:=s6 _ _ hml5
   have k7:=Keep.upd (F:=[ml]) (o:=.lst (us++[.ref tu])) hml6 (λ_ z=>by cases z) (by simp)
   have hml7:(upd H6 ml (.lst (us++[.ref tu]))) ml=_:=qI
   have j7:=(j5.same s6).lst (o:=.lst (us++[.ref tu])) hml6 mlF
   generalize upd H6 ml (.lst (us++[.ref tu]))=H7 at k7 hml7 j7 ⊢
   have kA:Keep (ml::t.T_Plain_free::sf x) H' H7:=(((Keep.same s3).trans (k5.mono (λy hy=>hX _ hy))).trans (Keep.same s6)).trans (k7.mono (by simp))
   exact⟨some (.int p),some (.int n),us++[.ref tu],_,_,rfl,j7,mi.step q49 hi spR dk er,hml7,L2.Paired.snoc (Paired.mapP pr λv d ⟨p',e',h'⟩=>⟨p',e',kA.tp _ _ h'⟩) ⟨tu,rfl,k7.tp _ _ h6⟩,kk'.trans kA⟩
  obtain⟨y3,y4,us,s',ms,rfl,j',mi,hml,pr,kk'⟩:=hp
  rw[lps]at mi
  obtain⟨e,nl⟩:=mi.fin rfl
  rw[e]at kk
  have kH:Keep (t.T_Plain_free::sf x) H H':=by
   refine⟨λy o ny e=>kk'.k y o (λz=>?_) (s02 _ _ e),λy ys e=>kk'.tp _ _ (s02 _ _ e)⟩
   rcases kL.mp z with z|z
   ·rw[z,n1]at e;cases e
   ·exact ny z
  exact⟨_,rfl,kk ml us H' j' n1 hml pr (mi.mvd (kM _)) nl kH⟩
noncomputable abbrev fx(t:Adr)(x:Sto)(r pp:Addr):List Addr:=pp::r::t.T_Even_block_to_change::t.T_Plain_free::sf x
noncomputable def PapA(H:Hp)(F:List Addr)(v:V)(p:Pa):Prop:=∃pa l1 l2 us rs,v=.ref pa∧H pa=some (.tup [.str p.why,.ref l1,.int (p.b:Int),.ref l2,.bl true])∧H l1=some (.lst rs)∧Tls H rs p.ts∧H l2=some (.lst us)∧Paired (TupD H) us p.mv∧l1∉F∧l2∉F
theorem PapA.keep{H H':Hp}{F G:List Addr}{v:V}{p:Pa}(h:PapA H F v p)(k:Keep G H H')(s:∀y∈G,y∈F):PapA H' F v p:=by
 obtain⟨pa,l1,l2,us,rs,e,a,b,c,d,f,g1,g2⟩:=h
 exact⟨pa,l1,l2,us,rs,e,k.tp _ _ a,k.k _ _ (λz=>g1 (s _ z)) b,q0L k c,k.k _ _ (λz=>g2 (s _ z)) d,Paired.mapP f λv d ⟨p',e',h'⟩=>⟨p',e',k.tp _ _ h'⟩,g1,g2⟩
structure XX(t:Adr)(H:Hp)(x:Sto)(k:Tm)(sh sr:Int)(r:Addr)(rl:List Addr)(pp:Addr)(X:Sx):Prop where
 j:XR t H x k sh sr X.s
 er:x.ru=.ref r
 ru:RuX t H r rl X.g
 of:Off t x (r::rl)
 ep:x.pa=.ref pp
 hp:∃ps,H pp=some (.lst ps)∧Paired (PapA H (fx t x r pp)) ps X.ps
 np:pp∉t.T_Plain_free::sf x
 nr:pp∉r::rl
section
variable{H H':Hp}{x:Sto}{k:Tm}{sh sr:Int}{r:Addr}{rl:List Addr}{pp:Addr}{X:Sx}
theorem XX.kT(h:XX t H x k sh sr r rl pp X)(kk:Keep [t.T_Plain_free] H H')(tb:TbF t H'):XX t H' x k sh sr r rl pp X:=by
 obtain⟨ps,h1,h2⟩:=h.hp
 have oT:=h.of t.T_Plain_free (by simp)
 exact⟨h.j.kT kk tb,h.er,h.ru.keep kk (λy hy z=>oT (by rw[←hV.mp z];exact hy)),h.of,h.ep,⟨ps,kk.k _ _ (λz=>h.np (by rw[hV.mp z];simp)) h1,Paired.mapP h2 λ_ _ z=>z.keep kk (by simp)⟩,h.np,h.nr⟩
theorem XX.same(h:XX t H x k sh sr r rl pp X)(s:Same H H'):XX t H' x k sh sr r rl pp X:=h.kT (Keep.same s) (h.j.tb.same s)
theorem XX.on(h:XX t H x k sh sr r rl pp X){s:XS}(kk:Keep (t.T_Plain_free::sf x) H H')(j:XR t H' x k sh sr s):XX t H' x k sh sr r rl pp ⟨s,X.g,X.ps⟩:=by
 obtain⟨ps,h1,h2⟩:=h.hp
 exact⟨j,h.er,h.ru.keep kk (λy hy=>h.of.n hy),h.of,h.ep,⟨ps,kk.k _ _ h.np h1,Paired.mapP h2 λ_ _ z=>z.keep kk (by intro y hy;simp at hy ⊢;rcases hy with e|e<;>simp[e])⟩,h.np,h.nr⟩
end
noncomputable def rfE(t:Adr)(e:Rf)(E:XK)(H:Hp):Prop:=match e with
 | .dark=>E (.ref t.C_PowerGone) none H
 | .room=>E (.ref t.C_NoRoom) none H
noncomputable def qKV(t:Adr):Sp:=λvs H Q E=>∃x k sh sr r rl pp X,vs=[.ref x.s]∧XX t H x k sh sr r rl pp X∧k.ev=true∧X.s.rc.length+200<1000000∧X.ps.length<90000∧(match X.room k with
 |(Y,.error e)=>∀H',XX t H' x k sh sr r rl pp Y→Keep (fx t x r pp) H H'→rfE t e E H'
 |(Y,.ok p)=>∀v H',XX t H' x k sh sr r rl pp Y→Keep (fx t x r pp) H H'→Q v H')
theorem q3K(T:Txt K mg t)(S:Fns K t)(B:BmIn base mg):S.Store_make_room.OkE P w mg base 14 (qKV t):=by
 refine S.Store_make_room.F.okE jZ (λvs H Q E h=>?_) (λcdv A outer s H vs Q E hr h=>?_)
 ·repeat obtain⟨_,h⟩:=h
  all_goals subst_vars;rfl
 ·obtain⟨x,k,sh,sr,r,rl,pp,X,rfl,h,ev,rc,lp,kk⟩:=h
  have s9:(99999:Nat)<sizeLine:=by decide
  refine⟨_,(qB (qV (i:=1) jZ.nd rfl (Or.inl rfl) (j9 (pv 0) T.cl_Even T.m_Even_options (q19 T S B).mono hr S.Even_options.b .nil qK)) (qB (qV (i:=2) jZ.nd rfl (Or.inl rfl) (uL jF (pv 0) T.cl_Even T.m_Even_choice (q6C T S B).mono hr S.Even_choice.b .nil)) (qB (qV (i:=3) jZ.nd rfl (Or.inl rfl) (jV jF (pv 0) T.cl_Even T.m_Even_moved (q6D T S B).mono hr S.Store_moved.b .nil (qA (qS jC (pv 2) qG (λ_ _=>rfl)) qE))) (qB (qV (i:=4) jZ.nd rfl (Or.inl rfl) (jV jF (pv 0) T.cl_Even T.m_Even_wiped (q69 T S).mono hr S.Store_wiped.b .nil (qA (qS jC (pv 2) qG (λ_ _=>rfl)) qE))) (qB (j8 (qB3 wA rW rX vT (qJ (pv 0) rfl) (qA (qW (q4N T S).mono hr rfl T.mg_paper_of T.kp_paper_of S.paper_of.b .nil qK (qA (qS jC (pv 2) qG (λ_ _=>rfl)) (qA (pv 1) (qA (qS jC (pv 2) qG (λ_ _=>rfl)) (qA (pv 3) (qA (pv 4) qE)))))) qE))) (qC (qL (qW (q4N T S).mono hr rfl T.mg_paper_of T.kp_paper_of S.paper_of.b .nil qK (qA (qS jC (pv 2) qG (λ_ _=>rfl)) (qA (pv 1) (qA (qS jC (pv 2) qG (λ_ _=>rfl)) (qA (pv 3) (qA (pv 4) qE))))))))))))),?_⟩
  try dsimp-beta-proj-iota-zeta-eta only[wishK,cxK]
  refine(iV rfl (iM h.j.o rfl ?_))
  dsimp only[tNil,rR]
  refine h.j.opts ev λop rs H1 np j1 k1 h1 ty=>?_
  have h1':=h.kT k1 j1.tb
  have mT:∀y∈[t.T_Plain_free],y∈fx t x r pp:=by simp
  refine(iV rfl (iM j1.o rfl ⟨x,k,sh,sr,X.s,r,rl,X.g,rfl,j1,ev,h.er,h1'.ru,h.of,by omega,?_⟩))
  unfold Sx.room at kk
  cases htk:X.s.tk k X.g with
  |none=>
   rw[htk]at kk
   exact λH2 j2 k2=>kk H2 (h1'.kT k2 j2.tb) ((k1.mono mT).trans (k2.mono mT))
  |some ybg=>
   obtain⟨y,b,g'⟩:=ybg
   rw[htk]at kk
   have fb:=q0R h.ru.ok htk
   refine λcp H2 k2 j2 hR2 h2=>?_
   have m2:∀y∈[t.T_Plain_free,t.T_Even_block_to_change,r],y∈fx t x r pp:=by simp
   have mS:∀y∈t.T_Plain_free::sf x,y∈fx t x r pp:=λy hy=>hX _ (hX _ (hX _ hy))
   have k02:Keep (fx t x r pp) H H2:=(k1.mono mT).trans (k2.mono m2)
   have npr:pp∉r::t.T_Plain_free::sf x:=λz=>(kL.mp z).elim (λe=>h.nr (by rw[e];exact kW)) h.np
   obtain⟨ps,hp0,hpp0⟩:=h.hp
   obtain⟨_,hTF,_,pB,hTB,_⟩:=h.j.tb
   have np2:pp∉[t.T_Plain_free,t.T_Even_block_to_change,r]:=λz=>by
    have z:pp=t.T_Plain_free∨pp=t.T_Even_block_to_change∨pp=r:=by simpa using z
    rcases z with z|z|z
    ·exact npr (by rw[z];simp)
    ·rw[z,hTB]at hp0;cases hp0
    ·exact npr (by rw[z];simp)
   have lps:=hpp0.len
   have h2':XX t H2 x k sh sr r rl pp ⟨X.s,g',X.ps⟩:=⟨j2,h.er,hR2,h.of,h.ep,⟨ps,k2.k _ _ np2 (k1.k _ _ (λz=>h.np (by rw[hV.mp z];simp)) hp0),Paired.mapP hpp0 λ_ _ z=>(z.keep k1 mT).keep k2 m2⟩,h.np,h.nr⟩
   have opn:=h.j.off np
   obtain⟨C0,d0,f0,er0⟩:=h.ru.ins
   have opr:op≠r:=λz=>by rw[z,er0]at np;cases np
   have opp:op≠pp:=λz=>by rw[z,hp0]at np;cases np
   have opH2:H2 op=some (.lst rs):=k2.k _ _ (λz=>by
    have z:op=t.T_Plain_free∨op=t.T_Even_block_to_change∨op=r:=by simpa using z
    rcases z with z|z|z
    ·exact opn (by rw[z];simp)
    ·rw[z,hTB]at np;cases np
    ·exact opr z) h1
   refine(iV rfl (iM j2.o rfl ⟨_,rfl,iT (k:=1) (v:=.int (b:Int)) (SqT.of h2) rfl ⟨x,k,sh,sr,X.s,b,rfl,j2,fb,by omega,?_⟩⟩))
   cases hmv:XS.mvs (lvP X.s.q.P b X.s.q.V) X.s with
   |mk s o=>
    dsimp only at kk
    rw[hmv]at kk
    cases o with
    |none=>exact λH3 j3 k3=>kk H3 (h2'.on k3 j3) (k02.trans (k3.mono mS))
    |some ms=>
     refine λml us H3 j3 nm hml prm md nl k3=>?_
     dsimp only at kk
     have h3:=k3.tp _ _ h2
     have mrc:=md.rc
     have l16:(lvP X.s.q.P b X.s.q.V).length≤16:=by
      have:=h.j.w.qs.ok.p2
      unfold lvP
      refine mF (d6 _ _) ?_
      rw[mZ]
      exact this
     refine(iV rfl (iM j3.o rfl ⟨_,rfl,iT (k:=1) (v:=.int (b:Int)) (SqT.of h3) rfl ⟨x,k,sh,sr,s,b,rfl,j3,by rw[md.eB];exact fb.b,by rw[md.eP];exact md.fb,by omega,nl,λdk=>?_,λdk H4 j4 k4=>⟨rfl,?_⟩⟩⟩))
     ·rw[kI dk]at kk
      exact kk H3 (h2'.on k3 j3) (k02.trans (k3.mono mS))
     rw[kF dk]at kk
     have k34:Keep (t.T_Plain_free::sf x) H2 H4:=k3.trans k4
     have h4x:=h2'.on k34 j4
     obtain⟨ps4,hpp4,prp4⟩:=h4x.hp
     have lps4:=prp4.len
     have hR4:=h4x.ru
     obtain⟨C4,d4,f4,er4⟩:=hR4.ins
     have h4:=k34.tp _ _ h2
     have hop4:=k34.k _ _ opn opH2
     have mln:=j2.off nm
     have hml4:=k4.k _ _ mln hml
     have o4:=j4.o
     rw[h.ep]at o4
     refine(iV rfl (iF o4 T.cl_Even T.na_Even_papers rfl ⟨.inl ⟨rfl,_,SqL.of hpp4⟩,_,rfl,iT (k:=0) (v:=_) (SqT.of h4) rfl ⟨_,rfl,_,rfl,iT (k:=1) (v:=_) (SqT.of h4) rfl ⟨_,rfl,_,rfl,.str y,.int (b:Int),.bl true,op,ml,rs,us,rfl,hop4,hml4,λpa a1 a2 H5 s5 npa na1 na2 e5 e51 e52=>⟨pp,ps4,_,rfl,rfl,s5 _ _ hpp4,by simp only at lps4;omega,?_⟩⟩⟩⟩))
     have hpp5:=s5 _ _ hpp4
     have k6:=Keep.upd (F:=[pp]) (o:=.lst (ps4++[.ref pa])) hpp5 (λ_ z=>by cases z) (by simp)
     have hpp6:(upd H5 pp (.lst (ps4++[.ref pa]))) pp=_:=qI
     have j6:=(j4.same s5).lst (o:=.lst (ps4++[.ref pa])) hpp5 h.np
     generalize upd H5 pp (.lst (ps4++[.ref pa]))=H6 at k6 hpp6 j6 ⊢
     have m6:∀y∈[pp],y∈fx t x r pp:=by simp
     have npp:∀{y:Addr},H4 y=none→y∉[pp]:=fun {y} e z=>by
      rw[hV.mp z,hpp4]at e
      cases e
     have inF:∀{y:Addr},H4 y=none→y∉fx t x r pp:=fun {y} e z=>by
      rcases kL.mp z with z|z
      ·rw[z,hpp4]at e;cases e
      ·rcases kL.mp z with z|z
       ·rw[z,er4]at e;cases e
       ·rcases kL.mp z with z|z
        ·obtain⟨_,_,_,_,hTB4,_⟩:=j4.tb
         rw[z,hTB4]at e;cases e
        ·exact(j4.off e) z
     have opp6:op∉[pp]:=λz=>opp (hV.mp z)
     have mlp:ml∉[pp]:=λz=>by
      obtain⟨ps2,e2,_⟩:=h2'.hp
      rw[hV.mp z,e2]at nm
      cases nm
     refine⟨_,rfl,iT (k:=0) (v:=_) (SqT.of (k6.tp _ _ (s5 _ _ h4))) rfl ⟨_,rfl,_,rfl,iT (k:=1) (v:=_) (SqT.of (k6.tp _ _ (s5 _ _ h4))) rfl ⟨_,rfl,_,rfl,.str y,.int (b:Int),.bl true,op,ml,rs,us,rfl,k6.k _ _ opp6 (s5 _ _ hop4),k6.k _ _ mlp (s5 _ _ hml4),λpb c1 c2 H7 s7 npb nc1 nc2 e7 e71 e72=>?_⟩⟩⟩
     have k47:Keep [pp] H4 H7:=((Keep.same s5).trans k6).trans (Keep.same s7)
     have k07:Keep (fx t x r pp) H H7:=(k02.trans (k34.mono mS)).trans (k47.mono m6)
     have ty7:Tls H7 rs (X.s.ots k):=q0L k47 (q0L k34 (q0L k2 ty))
     have prm7:Paired (TupD H7) us ms:=Paired.mapP prm λv d ⟨p',e',h'⟩=>⟨p',e',k47.tp _ _ (k4.tp _ _ h')⟩
     exact kk (.ref pb) H7 ⟨j6.same s7,h.er,(hR4.keep k47 (λy hy z=>h.nr (by rw[←hV.mp z];exact hy))),h.of,h.ep,⟨ps4++[.ref pa],s7 _ _ hpp6,L2.Paired.snoc (Paired.mapP prp4 λ_ _ z=>z.keep k47 m6) ⟨pa,a1,a2,us,rs,rfl,s7 _ _ (k6.tp _ _ e5),s7 _ _ (k6.k _ _ (npp na1) e51),ty7,s7 _ _ (k6.k _ _ (npp na2) e52),prm7,inF na1,inF na2⟩⟩,h.np,h.nr⟩ k07
noncomputable def spMr(t:Adr):Sp:=λvs H Q E=>∃x k sh sr r rl pp X,∃i Z,vs=[.ref x.s]∧XX t H x k sh sr r rl pp X∧k.ev=true∧X.s.rc.length+100*i+200<1000000∧X.ps.length+i<90000∧X.rooms k i=some Z∧(match Z with
 |(Y,.error e)=>∀H',XX t H' x k sh sr r rl pp Y→Keep (fx t x r pp) H H'→rfE t e E H'
 |(Y,.ok _)=>∀H',XX t H' x k sh sr r rl pp Y→Keep (fx t x r pp) H H'→Q .non H')
theorem q2S(T:Txt K mg t)(S:Fns K t)(B:BmIn base mg):S.Store_make_rooms.OkE P w mg base 15 (spMr t):=by
 refine S.Store_make_rooms.F.okE q2O (λvs H Q E h=>?_) (λcdv A outer s H vs Q E hr h=>?_)
 ·repeat obtain⟨_,h⟩:=h
  all_goals subst_vars;rfl
 ·obtain⟨x,k,sh,sr,r,rl,pp,X,i,Z,rfl,h,ev,rc,lp,hZ,kk⟩:=h
  refine⟨_,(qC (q8R wS (yX (yE (j9 (pv 0) T.cl_Even T.m_Even_ready (q66 T S B).mono hr S.Plain_ready.b .nil qK))) (qC (j8 (uL jF (pv 0) T.cl_Even T.m_Even_make_room (q3K T S B).mono hr S.Store_make_room.b .nil))))),?_⟩
  try dsimp-beta-proj-iota-zeta-eta only[wishK,cxK]
  refine⟨λn σ' H2=>σ'=[some (.ref x.s)]∧∃Y,XX t H2 x k sh sr r rl pp Y∧Keep (fx t x r pp) H H2∧Y.rooms k n=some Z∧Y.s.rc.length+100*n+200<1000000∧Y.ps.length+n<90000,⟨i,rfl,X,h,Keep.refl,hZ,rc,lp⟩,?_⟩
  rintro n σ' H2 ⟨rfl,Y,hY,k2,eY,rcY,lpY⟩
  obtain⟨m,hs,c,_⟩:=hY.j.e
  have mT:∀y∈[t.T_Plain_free],y∈fx t x r pp:=by simp
  refine(iV rfl (iM hs.o rfl ⟨x,_,_,_,m,Y.s.q,_,rfl,hs,c.ft,λl H3 hl k3 tb3=>⟨_,rfl,?_⟩⟩))
  rw[c.br,c.cl]at hl
  rw[c.br,qJ3 hY.j.w hl]
  have hY3:=hY.kT k3 tb3
  have k03:=k2.trans (k3.mono mT)
  cases n with
  |zero=>
   unfold Sx.rooms at eY
   cases z:Y.s.rd k with
   |false=>rw[z,kF (by decide)]at eY;cases eY
   |true=>
    rw[z,kI rfl]at eY
    cases eY
    exact iteF (kk H3 hY3 k03)
  |succ n=>
   unfold Sx.rooms at eY
   cases z:Y.s.rd k with
   |true=>
    rw[z,kI rfl]at eY
    cases eY
    exact iteF (kk H3 hY3 k03)
   |false=>
    rw[z,kF (by decide)]at eY
    refine iteT ⟨_,λ_ _ z=>z,?_⟩
    refine(iV rfl (iM hY3.j.o rfl ⟨x,k,sh,sr,r,rl,pp,Y,rfl,hY3,ev,by omega,by omega,?_⟩))
    cases hr':Y.room k with
    |mk W o=>
     rw[hr']at eY
     cases o with
     |error e=>
      cases eY
      exact λH4 h4 k4=>kk H4 h4 (k03.trans k4)
     |ok p=>
      obtain⟨r1,r2⟩:=qEQ hY.j.w hY.ru.ok hr'
      exact λv H4 h4 k4=>⟨n,dU _,rfl,W,h4,k03.trans k4,eY,by omega,by omega⟩
theorem vP(T:Txt K mg t)(S:Fns K t)(B:BmIn base mg):S.Store_make_ready.OkE P w mg base 16 (spMr t):=by
 refine S.Store_make_ready.F.okE q2N (λvs H Q E h=>?_) (λcdv A outer s H vs Q E hr h=>?_)
 ·repeat obtain⟨_,h⟩:=h
  all_goals subst_vars;rfl
 ·obtain⟨x,k,sh,sr,r,rl,pp,X,i,Z,rfl,h⟩:=h
  refine⟨_,(qC (j8 (uL jF (pv 0) T.cl_Even T.m_Even_make_rooms (q2S T S B).mono hr S.Store_make_rooms.b .nil))),?_⟩
  try dsimp-beta-proj-iota-zeta-eta only[wishK,cxK]
  exact(iV rfl (iM h.1.j.o rfl ⟨x,k,sh,sr,r,rl,pp,X,i,Z,rfl,h⟩))
noncomputable def qKW(t:Adr):Sp:=λvs H Q E=>∃x k sh sr r rl pp X,∃n v:Int,∃i Z,vs=[.ref x.s,.int n,.int v]∧XX t H x k sh sr r rl pp X∧k.ev=true∧X.s.rc.length+100*i+300<1000000∧X.ps.length+i<90000∧sh≤64∧inB (.int n) 0 (sh-1)=true∧inB (.int v) 0 (10 ^ 30-1)=true∧¬(hold X.s.q n=false∧sr≤((hdN X.s.q.V).length:Int))∧((∃p,(n,p)∈X.s.q.V)∨X.s.q.V.length<59)∧X.ask k i n v=some Z∧(match Z with
 |(Y,.error e)=>∀H',XX t H' x k sh sr r rl pp Y→Keep (fx t x r pp) H H'→rfE t e E H'
 |(Y,.ok p)=>∀H',XX t H' x k sh sr r rl pp Y→Keep (fx t x r pp) H H'→Q (.int (p:Int)) H')
theorem XX.lay{H H2:Hp}{x:Sto}{k:Tm}{sh sr:Int}{r:Addr}{rl:List Addr}{pp:Addr}{X Y:Sx}{i:Nat}{n v:Int}{Z:Sx×Except Rf Nat}(h:XX t H x k sh sr r rl pp X)(rc:X.s.rc.length+100*i+300<1000000)(hl:(∃p,(n,p)∈X.s.q.V)∨X.s.q.V.length<59)(hZ:X.ask k i n v=some Z)(hY:X.rooms k i=some (Y,.ok ()))(n0:0≤n)(n1:n≤64)(h2:XX t H2 x k sh sr r rl pp Y){Q:VK}{E:XK}
 (kk:match Z with
  |(Y,.error e)=>∀H',XX t H' x k sh sr r rl pp Y→Keep (t.T_Plain_free::sf x) H2 H'→rfE t e E H'
  |(Y,.ok p)=>∀H',XX t H' x k sh sr r rl pp Y→Keep (t.T_Plain_free::sf x) H2 H'→Q (.int (p:Int)) H'):qBU t [.ref x.s,.int n,.int v] H2 Q E:=by
 obtain⟨_,_,kp,r1,_,rd⟩:=vU h.j.w h.ru.ok hY
 have rd:=mV (rd rfl)
 rw[gZ,dP]at rd
 unfold Sx.ask at hZ
 rw[hY]at hZ
 dsimp only at hZ
 refine h2.j.set n0 n1 (by omega) (by omega) ?_ (λdk H' j' k'=>?_) (λdk H' j' k'=>?_)
 ·rw[kp.lV]
  exact hl.imp (λz=>(kp.nm n).mpr z) id
 ·rw[kI dk]at hZ
  cases hZ
  exact kk H' (h2.on k' j') k'
 ·rw[kF dk]at hZ
  cases hZ
  exact kk H' (h2.on k' j') k'
theorem q2C(T:Txt K mg t)(S:Fns K t)(B:BmIn base mg):S.Plain_write.OkE P w mg base 17 (qKW t):=by
 refine S.Plain_write.F.okE q5W (λvs H Q E h=>?_) (λcdv A outer s H vs Q E hr h=>?_)
 ·repeat obtain⟨_,h⟩:=h
  all_goals subst_vars;rfl
 ·obtain⟨x,k,sh,sr,r,rl,pp,X,n,v,i,Z,rfl,h,ev,rc,lp,sh64,z,w,ff,hl,hZ,kk⟩:=h
  obtain⟨m,hs,c,_⟩:=h.j.e
  refine⟨_,(qB (j8 (qY (pv 0) T.cl_Even T.m_Even_check_sheet (vI T S).mono hr S.Plain_check_sheet.b .nil qK (qA (pv 1) qE))) (qB (jE (yX (yE (qW (q9X T S).mono hr rfl T.mg_is_value T.kp_is_value S.is_value.b .nil qK (qA (pv 2) qE)))) (qC jH) qQ) (qB (j8 (qY (pv 0) T.cl_Even T.m_Even_check_share (q29 T S).mono hr S.Plain_check_share.b .nil qK (qA (pv 1) qE))) (qB (j8 (uL jF (pv 0) T.cl_Even T.m_Even_make_ready (vP T S B).mono hr S.Store_make_ready.b .nil)) (qC (qL (jV jF (pv 0) T.cl_Even T.m_Even_lay (q13 T S B).mono hr S.Plain_lay.b .nil (qA (pv 1) (qA (pv 2) qE))))))))),?_⟩
  try dsimp-beta-proj-iota-zeta-eta only[wishK,cxK]
  refine(iV rfl (iM hs.o rfl ⟨_,rfl,x,.int sr,_,_,m,X.s.q,.int n,sh,rfl,hs,.int _,?_⟩))
  rw[kI z]
  obtain⟨n',e,n0,n1⟩:=qFO z
  injection e with e
  subst e
  refine⟨_,rfl,.int v,rfl,.int _,_,rfl,?_⟩
  rw[w]
  refine iteF ?_
  refine(iV rfl (iM hs.o rfl ⟨_,rfl,x,.int sh,_,_,m,X.s.q,n,sr,rfl,hs,c.ft,hd64 h.j.w,λH1 s1=>?_⟩))
  rw[kF ff]
  have h1:=h.same s1
  have hZ':=hZ
  unfold Sx.ask at hZ'
  cases hR:X.rooms k i with
  |none=>rw[hR]at hZ';cases hZ'
  |some YR=>
   obtain⟨Y,o⟩:=YR
   refine(iV rfl (iM h1.j.o rfl ⟨x,k,sh,sr,r,rl,pp,X,i,(Y,o),rfl,h1,ev,by omega,lp,hR,?_⟩))
   rw[hR]at hZ'
   cases o with
   |error e=>
    cases hZ'
    exact λH2 h2 k2=>kk H2 h2 ((Keep.same s1).trans k2)
   |ok u=>
    refine λH2 h2 k2=>?_
    refine(iV rfl (iM h2.j.o rfl ⟨_,rfl,_,rfl,?_⟩))
    dsimp only[tNil,c9,rR,dA]
    refine h.lay rc hl hZ hR n0 (by omega) h2 ?_
    have mS:∀y∈t.T_Plain_free::sf x,y∈fx t x r pp:=λy hy=>hX _ (hX _ (hX _ hy))
    obtain⟨W,o⟩:=Z
    cases o with
    |error e=>exact λH3 h3 k3=>kk H3 h3 (((Keep.same s1).trans k2).trans (k3.mono mS))
    |ok p=>exact λH3 h3 k3=>kk H3 h3 (((Keep.same s1).trans k2).trans (k3.mono mS))
theorem XR.forg{H H':Hp}{x:Sto}{k:Tm}{sh sr:Int}{s:XS}(j:XR t H x k sh sr s)(n:Int)(hb:∀{m},StAt t H x (.int sh) (.int sr) (.int (k.ie:Int)) (.int k.sp) m s.q→BkAt t H' x.k (s.q.forget n))(kb:Keep (bf x.k) H H'):XR t H' x k sh sr (s.forg n):=by
 obtain⟨m,st,c,pg⟩:=j.e
 exact⟨⟨m,st.note (hb st) kb,⟨⟨c.ft.ok,c.ft.oq.forget n,c.ft.eB,c.ft.eP⟩,c.br,c.li,c.mo,c.cl,c.lf,c.rc⟩,pg.keep kb⟩,j.w.forg n⟩
noncomputable def spGu(t:Adr):Sp:=λvs H Q E=>∃x k sh sr r rl pp X,∃l0:Addr,∃ss:List Int,vs=[.ref x.s,.ref l0]∧XX t H x k sh sr r rl pp X∧k.ev=true∧H l0=some (.lst (ss.map V.int))∧(∀n∈ss,inB (.int n) 0 (sh-1)=true)∧(gvn X.s.hl ss=[]→∀H',Same H H'→Q (.int 0) H')∧(gvn X.s.hl ss≠[]→∃i Z,X.s.rc.length+100*i+300<1000000∧X.ps.length+i<90000∧((∃p,((64:Int),p)∈X.s.q.V)∨X.s.q.V.length<59)∧X.ask k i 64 (XS.bits (rst X.s.hl (gvn X.s.hl ss)))=some Z∧(match Z with
 |(Y,.error e)=>∀H',XX t H' x k sh sr r rl pp Y→Keep (fx t x r pp) H H'→rfE t e E H'
 |(Y,.ok p)=>∀H',XX t H' x k sh sr r rl pp ⟨Y.s.forgs (gvn X.s.hl ss),Y.g,Y.ps⟩→Keep (fx t x r pp) H H'→Q (.int ((gvn X.s.hl ss).length:Nat)) H'))
theorem q4F(T:Txt K mg t)(S:Fns K t)(B:BmIn base mg):S.Plain_give_up.OkE P w mg base 17 (spGu t):=by
 refine S.Plain_give_up.F.okE yH (λvs H Q E h=>?_) (λcdv A outer s H vs Q E hr h=>?_)
 ·repeat obtain⟨_,h⟩:=h
  all_goals subst_vars;rfl
 ·obtain⟨x,k,sh,sr,r,rl,pp,X,l0,ss,rfl,h,ev,hl0,hin,kn,kk⟩:=h
  have s9:(99999:Nat)<sizeLine:=by decide
  obtain⟨m,hs,c,_⟩:=h.j.e
  refine⟨_,(qB (uO wS rfl (y8 (pv 1)) (qX (i:=2) yH.nd rfl (Or.inl rfl)) (qC (j8 (qY (pv 0) T.cl_Even T.m_Even_check_sheet (vI T S).mono hr S.Plain_check_sheet.b .nil qK (qA (pv 2) qE))))) (qB (qV (i:=3) yH.nd rfl (Or.inl rfl) (j9 (pv 0) T.cl_Even T.m_Even_held (q08 T S).mono hr S.Plain_held.b .nil qK)) (qB (qV (i:=4) yH.nd rfl (Or.inr rfl) (uS ["sheets","sheet"] [1] rfl (y8 (pv 3)) (λ_ _ _ _ _=>(qX (i:=1) (show List.Nodup (["sheets","sheet"]:List Str)from by decide) rfl (Or.inl rfl))) (λ_ _ _ _ _=>(vC (qR (qAD (K:=K) rfl) (pv 1) (pv 0) rfl))) (λ_ _ _ _ _=>(pv 1)) (by kernel_rfl) (yG (by decide)))) (qB (jE (qR (q7R hr.units) (pv 4) (jX qE) (qT _)) (qC (qL qG)) qQ) (qB (j8 (uL jF (pv 0) T.cl_Even T.m_Even_make_ready (vP T S B).mono hr S.Store_make_ready.b .nil)) (qB (j8 (jV jF (pv 0) T.cl_Even T.m_Even_lay (q13 T S B).mono hr S.Plain_lay.b .nil (qA (q2E rfl T.mg_ROLL ⟨_,rfl⟩ (v:=.int 64)) (qA (qW (q65 T S).mono hr rfl T.mg_bits_of T.kp_bits_of S.bits_of.b .nil qK (qA (uS ["gone","sheet"] [4] rfl (y8 (pv 3)) (λ_ _ _ _ _=>(qX (i:=1) (show List.Nodup (["gone","sheet"]:List Str)from by decide) rfl (Or.inl rfl))) (λ_ _ _ _ _=>(vC (qR (q6I (K:=K) rfl) (pv 1) (pv 0) rfl))) (λ_ _ _ _ _=>(pv 1)) (by kernel_rfl) (yG (by decide))) qE)) qE)))) (qB (uO wS rfl (y8 (pv 4)) (qX (i:=2) yH.nd rfl (Or.inl rfl)) (qC (j8 (qY (qJ (pv 0) rfl) T.cl_Book T.m_Book_forget (q28 T S).mono hr S.Book_forget.b .nil qK (qA (pv 2) qE))))) (qC (qL (jA qZ (by rfl) T.b_len gH (qA (pv 4) qE))))))))))),?_⟩
  try dsimp-beta-proj-iota-zeta-eta only[wishK,cxK]
  refine⟨_,rfl,l0,rfl,⟨_,SqL.of hl0⟩,?_⟩
  refine uP (K:=K) (xs:=ss.map V.int) (λi σ' H2=>∃y,σ'=[some (.ref x.s),some (.ref l0),y,none,none]∧H=H2) ⟨_,rfl,rfl⟩ (λi σ' H2 hi hp=>?_) (λi v σ' H2 hv hp=>?_) (λσ' H2 hp=>?_)
  ·obtain⟨y,rfl,rfl⟩:=hp
   exact SqL.of hl0
  ·obtain⟨y,rfl,rfl⟩:=hp
   rw[mD]at hv
   obtain⟨n,hw,rfl⟩:=mH.mp hv
   refine(iV rfl (iM hs.o rfl ⟨_,rfl,x,_,_,_,m,X.s.q,.int n,sh,rfl,hs,.int _,?_⟩))
   rw[kI (hin n (m8 hw))]
   exact⟨_,rfl,rfl⟩
  obtain⟨y,rfl,rfl⟩:=hp
  refine(iV rfl (iM hs.o rfl ⟨x,.int sh,_,_,_,m,X.s.q,rfl,hs,c.ft,hd64 h.j.w,λhl ns H1 hn s1 n1 h1=>?_⟩))
  have l64:ns.length<64:=by rw[hn.pm.length_eq];exact hd64 h.j.w
  obtain rfl:=qF1 hn
  refine⟨_,rfl,hl,rfl,⟨_,SqL.of h1⟩,λD H2 nD s2 hD=>?_⟩
  refine vW (K:=K) (xs:=X.s.hl.map V.int) (D:=D) (λi H3=>Same H1 H3∧H3 D=some (.lst ((gvn (X.s.hl.take i) ss).map V.int))) ⟨s2,hD⟩ (λi H3 hp=>SqL.of (hp.1 _ _ h1)) (λi v H3 hv hp=>?_) (λH3 hp=>?_)
  ·obtain⟨sm,hd⟩:=hp
   rw[mD]at hv
   obtain⟨n,hw,rfl⟩:=mH.mp hv
   have hi:=(kE.mp hw).1
   have ev':=(kE.mp hw).2
   refine⟨_,rfl,_,rfl,l0,_,rfl,.inl (SqL.of (sm _ _ (s1 _ _ hl0))),rfl,qF0,_,rfl,?_⟩
   show if inV (.int n) (ss.map V.int)=true then _ else _
   rw[q59]
   have eg:gvn (X.s.hl.take (i+1)) ss=gvn (X.s.hl.take i) ss++(if n∈ss then[n]else[]):=by
    unfold gvn
    rw[←mW hi,gW,ev',gC]
    by_cases z:n∈ss
    ·rw[hG z,kI z];rfl
    ·rw[kD z,kF z];rfl
   rw[eg]
   by_cases z:n∈ss
   ·rw[hG z,kI z]
    refine iteT ?_
    refine⟨_,rfl,_,hd,?_,λb o e=>?_,?_⟩
    ·rw[h9]
     have l1:(gvn (X.s.hl.take i) ss).length≤(X.s.hl.take i).length:=mE _ _
     rw[gL]at l1
     omega
    ·rw[qD (qH e nD)]
     exact sm _ _ e
    ·rw[qI,m7]
     rfl
   ·rw[kD z,kF z,dA]
    exact iteF ⟨sm,hd⟩
  obtain⟨sm,hd⟩:=hp
  rw[h9,gE]at hd
  have s03:Same H H3:=s1.trans sm
  refine⟨_,rfl,sz0,λe H4 n4 s4 h4=>⟨D,_,e,rfl,rfl,SqL.of (s4 _ _ hd),SqL.of h4,_,rfl,?_⟩⟩
  have s04:=s03.trans s4
  by_cases z:gvn X.s.hl ss=[]
  ·rw[z]
   exact iteT (kn z H4 s04)
  rw[kD (λy=>z (by cases hq:gvn X.s.hl ss with|nil=>rfl|cons a r=>rw[hq]at y;cases y))]
  refine iteF ?_
  obtain⟨i,Z,rc,lp,hl6,hZ,kk⟩:=kk z
  have h4x:=h.same s04
  have hZ':=hZ
  unfold Sx.ask at hZ'
  cases hR:X.rooms k i with
  |none=>rw[hR]at hZ';cases hZ'
  |some YR=>
   obtain⟨Y,o⟩:=YR
   refine(iV rfl (iM h4x.j.o rfl ⟨x,k,sh,sr,r,rl,pp,X,i,(Y,o),rfl,h4x,ev,by omega,lp,hR,?_⟩))
   rw[hR]at hZ'
   cases o with
   |error e=>
    cases hZ'
    exact λH2 h2 k2=>kk H2 h2 ((Keep.same s04).trans k2)
   |ok u=>
    refine λH5 h5 k5=>?_
    obtain⟨ps0,hp0,_⟩:=h.hp
    obtain⟨C0,d0,f0,er0⟩:=h.ru.ins
    have offF:∀{y:Addr},H y=none→y∉fx t x r pp:=fun {y} e zz=>by
     rcases kL.mp zz with zz|zz
     ·rw[zz,hp0]at e;cases e
     ·rcases kL.mp zz with zz|zz
      ·rw[zz,er0]at e;cases e
      ·rcases kL.mp zz with zz|zz
       ·obtain⟨_,_,_,_,hTB,_⟩:=h.j.tb
        rw[zz,hTB]at e;cases e
       ·exact h.j.off e zz
    have dF:=offF (s1.free nD)
    have h1_5:=k5.k _ _ (offF n1) (s4 _ _ (sm _ _ h1))
    have hd5:=k5.k _ _ dF (s4 _ _ hd)
    refine(iV rfl (iM h5.j.o rfl ?_))
    refine⟨_,rfl,hl,rfl,⟨_,SqL.of h1_5⟩,λD2 H6 n6 s6 hD2=>?_⟩
    refine vW (K:=K) (xs:=X.s.hl.map V.int) (D:=D2) (λi H7=>Same H5 H7∧H7 D2=some (.lst ((rst (X.s.hl.take i) (gvn X.s.hl ss)).map V.int))) ⟨s6,hD2⟩ (λi H7 hp=>SqL.of (hp.1 _ _ h1_5)) (λi v H7 hv hp=>?_) (λH7 hp=>?_)
    ·obtain⟨sm7,hd7⟩:=hp
     rw[mD]at hv
     obtain⟨n,hw,rfl⟩:=mH.mp hv
     have hi:=(kE.mp hw).1
     have ev':=(kE.mp hw).2
     refine⟨_,rfl,_,rfl,D,_,rfl,.inl (SqL.of (sm7 _ _ hd5)),rfl,qF0,_,rfl,?_⟩
     show if(!inV (.int n) ((gvn X.s.hl ss).map V.int))=true then _ else _
     rw[q59]
     have eg:rst (X.s.hl.take (i+1)) (gvn X.s.hl ss)=rst (X.s.hl.take i) (gvn X.s.hl ss)++(if n∈gvn X.s.hl ss then[]else[n]):=by
      unfold rst
      rw[←mW hi,gW,ev',gC]
      by_cases y:n∈gvn X.s.hl ss
      ·rw[hG y,kI y];rfl
      ·rw[kD y,kF y];rfl
     rw[eg]
     by_cases y:n∈gvn X.s.hl ss
     ·rw[hG y,kI y,dA]
      exact iteF ⟨sm7,hd7⟩
     ·rw[kD y,kF y]
      refine iteT ?_
      refine⟨_,rfl,_,hd7,?_,λb o e=>?_,?_⟩
      ·rw[h9]
       have l1:(rst (X.s.hl.take i) (gvn X.s.hl ss)).length≤(X.s.hl.take i).length:=mE _ _
       rw[gL]at l1
       omega
      ·rw[qD (qH e n6)]
       exact sm7 _ _ e
      ·rw[qI,m7]
       rfl
    obtain⟨sm7,hd7⟩:=hp
    rw[h9,gE]at hd7
    obtain⟨en,lt⟩:=qHE (ns:=rst X.s.hl (gvn X.s.hl ss)) (λn hn'=>qHD h.j.w n (mJ.mp hn').1)
    rw[en]at hd7
    refine⟨D2,_,rfl,SqL.of hd7,lt,?_⟩
    have h7:=h5.same sm7
    have mS:∀y∈t.T_Plain_free::sf x,y∈fx t x r pp:=λy hy=>hX _ (hX _ (hX _ hy))
    dsimp only[tNil,c9,rR,dA]
    refine h.lay (Z:=Z) rc hl6 hZ hR (by decide) (by decide) h7 ?_
    obtain⟨W,o⟩:=Z
    have k07:Keep (fx t x r pp) H H7:=((Keep.same s04).trans k5).trans (Keep.same sm7)
    cases o with
    |error e=>exact λH8 h8 k8=>kk H8 h8 (k07.trans (k8.mono mS))
    |ok p=>
     refine λH8 h8 k8=>?_
     have hd8:=k8.k _ _ (λy=>dF (mS _ y)) (sm7 _ _ hd5)
     refine⟨_,rfl,D,rfl,⟨_,SqL.of hd8⟩,?_⟩
     refine uP (K:=K) (xs:=(gvn X.s.hl ss).map V.int) (λi σ' H'=>∃y',σ'=[some (.ref x.s),some (.ref l0),y',some (.ref hl),some (.ref D)]∧XR t H' x k sh sr (W.s.forgs ((gvn X.s.hl ss).take i))∧Keep (bf x.k) H8 H') ⟨_,rfl,h8.j,Keep.refl⟩ (λi σ' H' hi hp=>?_) (λi v σ' H' hv hp=>?_) (λσ' H' hp=>?_)
     ·obtain⟨y',rfl,j',kb⟩:=hp
      exact SqL.of (kb.k _ _ (λw=>dF (mS _ (by simp[sf,w]))) hd8)
     ·obtain⟨y',rfl,j',kb⟩:=hp
      rw[mD]at hv
      obtain⟨n,hw,rfl⟩:=mH.mp hv
      obtain⟨m',st,c',_⟩:=j'.e
      refine(iV rfl (iF st.o T.cl_Even T.na_Even_book rfl (iM st.bk.o rfl ⟨_,rfl,x.k,_,n,rfl,st.bk,j'.w.qs.ok,st.ds,λH9 hb9 k9=>?_⟩)))
      have k9:Keep (bf x.k) H' H9:=k9.mono (by intro b hb;simp at hb;rcases hb with rfl|rfl<;>simp[bf])
      refine⟨_,rfl,?_,kb.trans k9⟩
      rw[qAP hw]
      exact j'.forg n (λ_=>hb9) k9
     ·obtain⟨y',rfl,j',kb⟩:=hp
      rw[h9,gE]at j'
      have hd9:=kb.k _ _ (λw=>dF (mS _ (by simp[sf,w]))) hd8
      refine⟨_,rfl,D,_,rfl,.inl (SqL.of hd9),?_⟩
      rw[h9]
      have kb':Keep (t.T_Plain_free::sf x) H8 H':=kb.mono (λb hb=>by simp[sf,hb])
      exact kk H' (h8.on kb' j') ((k07.trans (k8.mono mS)).trans (kb'.mono mS))
section
variable{H H':Hp}{x:Sto}{k:Tm}{sh sr:Int}{r:Addr}{rl:List Addr}{pp:Addr}{X:Sx}
theorem XX.chip(h:XX t H x k sh sr r rl pp X):∃m,ChipAt t.C_Chip H x.c x.a m∧m.Ok∧m.lf=X.s.lf∧m.rc=X.s.rc∧m.cl=X.s.cl∧m.bl=(X.s.q.B:Int)∧m.pg=(X.s.q.P:Int)∧PgAt H m.bo X.s.pg∧∀l,(∀i,l=some i→0≤i)→∀H',ChipAt t.C_Chip H' x.c x.a { m with lf:=l }→Keep (foot x.c x.a) H H'→XX t H' x k sh sr r rl pp ⟨{ X.s with lf:=l },X.g,X.ps⟩:=by
 obtain⟨m,st,c,pg⟩:=h.j.e
 refine⟨m,st.ch,c.ft.ok,c.lf,c.rc,c.cl,c.ft.eB,c.ft.eP,pg,λl hl H' hc k'=>?_⟩
 have k2:Keep (t.T_Plain_free::sf x) H H':=k'.mono (λy hy=>by unfold sf;exact hX _ (dD _ hy))
 have ok':({ m with lf:=l }:CM).Ok:=⟨c.ft.ok.bl1,c.ft.ok.bl2,c.ft.ok.pg1,c.ft.ok.pg2,c.ft.ok.nbo,c.ft.ok.ncl,c.ft.ok.ndc,c.ft.ok.nbr,c.ft.ok.lim,c.ft.ok.nrc⟩
 exact h.on k2 ⟨⟨_,st.put hc k' rfl rfl,⟨⟨ok',c.ft.oq,c.ft.eB,c.ft.eP⟩,c.br,c.li,c.mo,c.cl,rfl,c.rc⟩,pg.keep k'⟩,h.j.w.lf hl⟩
theorem XX.inF(h:XX t H x k sh sr r rl pp X):∀y∈fx t x r pp,∃o,H y=some o:=λy hy=>by
 rcases kL.mp hy with e|hy
 ·obtain⟨ps,e',_⟩:=h.hp
  exact⟨_,by rw[e];exact e'⟩
 ·rcases kL.mp hy with e|hy
  ·obtain⟨_,_,_,z⟩:=h.ru.ins
   exact⟨_,by rw[e];exact z⟩
  ·rcases kL.mp hy with e|hy
   ·obtain⟨ps,_,_,ps',z,_⟩:=h.j.tb
    exact⟨_,by rw[e];exact z⟩
   ·exact h.j.inH y hy
end
structure KX(t:Adr)(H:Hp)(x:Sto)(k:Tm)(sh:Int)(sr:Nat)(r:Addr)(rl:List Addr)(pp:Addr)(X:Sx)(kd:Addr)(KD:Mp)(n:Nat):Prop where
 h:XX t H x k sh (sr:Int) r rl pp X
 d:Kd k sh sr X KD
 hk:H kd=some (.dK (dI KD))
 nk:kd∉x.a.li::fx t x r pp
 nr:kd∉rl
 rcn:X.s.rc.length≤300*n
 psn:X.ps.length≤20*n
theorem qJH{H:Hp}{x:Sto}{k:Tm}{sh sr:Int}{r:Addr}{rl:List Addr}{pp:Addr}{B P:Nat}{g:Rl}(st:StAt t H x (.int sh) (.int sr) (.int (k.ie:Int)) (.int k.sp) (CM.new (B:Int) (P:Int) 1000000 []) (bk0 B P))(er:x.ru=.ref r)(ru:RuX t H r rl g)(of:Off t x (r::rl))(ep:x.pa=.ref pp)(hp:H pp=some (.lst []))(np:pp∉t.T_Plain_free::sf x)(nr:pp∉r::rl)
 (b1:2≤B) (b2:B≤16) (p1:1≤P) (p2:P≤16) (w:WX k (newX B P)):XX t H x k sh sr r rl pp ⟨newX B P,g,[]⟩:=by
 have nok:(CM.new (B:Int) (P:Int) 1000000 []).Ok:=qIN (by omega) (by omega) (by omega) (by omega) (λb v e=>by cases e)
 refine⟨⟨⟨_,st,⟨⟨nok,w.qs.ok,rfl,rfl⟩,?_,λb=>rfl,rfl,?_,rfl,rfl⟩,⟨λi _=>rep8,λi v e=>by cases e⟩⟩,w⟩,er,ru,of,ep,⟨[],hp,.nil⟩,np,nr⟩
 ·show List.replicate (B:Int).toNat false=_
  rw[mK]
  rfl
 ·show List.replicate (B:Int).toNat (0:Int)=_
  rw[mK]
  rfl
theorem qJI{H7 H8 HM:Hp}{sA sd tm td ch pa:Addr}{ca:CA}{kb:BkA}{ru:V}{m:CM}{R:List Addr}{o1 o2 o3:HO}(hc:ChipAt t.C_Chip H7 ch ca m)(htm:H7 tm=some o1)(hT:H7 t.T_Plain_free=some o2)(hB:H7 t.T_Even_block_to_change=some o3)(nR:∀u∈R,H7 u=none)(eR:∀u∈R,∃o,H8 u=some o)(nA:H8 sA=none)(sM:Same H8 HM)(fk:∀b∈bf kb,HM b=none):Off t ⟨sA,sd,tm,td,ch,ca,kb,ru,.ref pa⟩ R:=λy hy hu=>by
 obtain⟨o,e8⟩:=eR y hu
 have n7:=nR y hu
 have hy:y=sA∨y=tm∨y=ca.li∨y=t.T_Plain_free∨y=t.T_Even_block_to_change∨y∈foot ch ca∨y∈bf kb:=by simpa[sf]using hy
 rcases hy with h|h|h|h|h|h|h
 ·rw[h,nA]at e8;cases e8
 ·rw[h,htm]at n7;cases n7
 ·obtain⟨o',e',_⟩:=hc.has (show ca.li∈ca.li::foot ch ca by simp)
  rw[←h,n7]at e';cases e'
 ·rw[h,hT]at n7;cases n7
 ·rw[h,hB]at n7;cases n7
 ·obtain⟨o',e',_⟩:=hc.has (hX ca.li h)
  rw[n7]at e';cases e'
 ·rw[Same.free sM (fk y h)]at e8;cases e8
noncomputable def spLr(t:Adr):Sp:=λvs H Q _=>∃cell:Int,vs=[.int cell]∧∀r f H',RuX t H' r [] (.rk f)→Same H H'→H r=none→Q (.ref r) H'
theorem qA1(T:Txt K mg t)(S:Fns K t):S.law_rule.Ok0 P w mg base 1 (spLr t):=by
 refine S.law_rule.F.ok0 q9T λcdv A _ s H vs Q E hr h=>?_
 ·obtain⟨cell,rfl,k⟩:=h
  refine⟨_,(qB (jE (qR vV (qM yT (pv 0) qG) qG (qT _)) (qC (qL (q7T T.mk0_Fewest rfl T.mg_Fewest))) qQ) (qB (jE (qR vV (qM yT (pv 0) qG) qG (qT _)) (qC (qL (q7T T.mk0_Eldest rfl T.mg_Eldest))) qQ) (qB (jE (qR vV (qM yT (pv 0) qG) qG (qT _)) (qC (qL (q7T T.mk0_Worth rfl T.mg_Worth))) qQ) (qC (qL (q7T T.mk0_Rule rfl T.mg_Rule)))))),?_⟩
  try dsimp-beta-proj-iota-zeta-eta only[wishK,cxK]
  refine⟨_,rfl,iI ⟨(by show(0:Int)<4;decide),rfl,_,rfl,ite2 (λ_=>?_) (λ_=>?_)⟩⟩
  ·refine λr dx nr ndx ne=>k r _ _ (.inr (.inl ⟨dx,qI,rfl⟩)) (q2H nr ndx) nr
  refine⟨_,rfl,iI ⟨(by show(0:Int)<4;decide),rfl,_,rfl,ite2 (λ_=>?_) (λ_=>?_)⟩⟩
  ·refine λr dx nr ndx ne=>k r _ _ (.inr (.inr (.inl ⟨dx,qI,rfl⟩))) (q2H nr ndx) nr
  refine⟨_,rfl,iI ⟨(by show(0:Int)<4;decide),rfl,_,rfl,ite2 (λ_=>?_) (λ_=>?_)⟩⟩
  ·refine λr dx nr ndx ne=>k r _ _ (.inr (.inr (.inr ⟨dx,qI,rfl⟩))) (q2H nr ndx) nr
  ·refine λr dx nr ndx ne=>k r _ _ (.inl ⟨dx,qI,rfl⟩) (q2H nr ndx) nr
noncomputable def spSz(K:W.Frag):Sp:=λvs H Q _=>∃a ns,vs=[.ref a]∧SqL K H a (List.map V.int ns)∧∀c P i s:Nat,1≤c→c≤4→1≤P→P≤4→i≤2→1≤s→s+2≤c*P→NewO H (.lst [.int ((c+1+i:Nat):Int),.int (P:Int),.int (s:Int),.int (i:Int)]) Q
theorem q8M(T:Txt K mg t)(S:Fns K t):S.law_shape.Ok0 P w mg base 2 (spSz K):=by
 refine S.law_shape.F.ok0 yM λcdv A _ s H vs Q E hr h=>?_
 ·obtain⟨a,ns,rfl,hS,k⟩:=h
  refine⟨_,(qB (qV (i:=1) yM.nd rfl (Or.inl rfl) (qM yC qG (qM yT (qW (jR T S).mono hr rfl T.mg_law_cell_at T.kp_law_cell_at S.law_cell_at.b .nil qK (qA (pv 0) (qA qG qE))) qG))) (qB (qV (i:=2) yM.nd rfl (Or.inl rfl) (qM yC qG (qM yT (qW (jR T S).mono hr rfl T.mg_law_cell_at T.kp_law_cell_at S.law_cell_at.b .nil qK (qA (pv 0) (qA qG qE))) qG))) (q2F (jE (qR q3M (qM yS (pv 2) (pv 1)) qG (qT _)) (qC (qV (i:=2) yM.nd rfl (Or.inl rfl) qG)) qQ) (qB (qV (i:=3) yM.nd rfl (Or.inl rfl) (qM yT (qW (jR T S).mono hr rfl T.mg_law_cell_at T.kp_law_cell_at S.law_cell_at.b .nil qK (qA (pv 0) (qA qG qE))) qG)) (qB (qV (i:=4) yM.nd rfl (Or.inl rfl) (qM y9 (qM yS (pv 2) (pv 1)) qG)) (q2F (jE (qR vV (qM yT (qW (jR T S).mono hr rfl T.mg_law_cell_at T.kp_law_cell_at S.law_cell_at.b .nil qK (qA (pv 0) (qA qG qE))) qG) qG (qT _)) (qC (qV (i:=4) yM.nd rfl (Or.inl rfl) (qM yC qG (qM yT (qM uQ (qW (jR T S).mono hr rfl T.mg_law_cell_at T.kp_law_cell_at S.law_cell_at.b .nil qK (qA (pv 0) (qA qG qE))) qG) (pv 4))))) qQ) (qC (qL (jX (qA (qM yC (qM yC (pv 2) qG) (pv 3)) (qA (pv 1) (qA (pv 4) (qA (pv 3) qE))))))))))))),?_⟩
  try dsimp-beta-proj-iota-zeta-eta only[wishK,cxK]
  refine⟨_,rfl,a,ns,0,rfl,hS,by decide,_,_,rfl,rfl,(by show(0:Int)<4;decide),iI ?_⟩
  refine⟨_,rfl,a,ns,1,rfl,hS,by decide,_,_,rfl,rfl,(by show(0:Int)<4;decide),iI ?_⟩
  try dsimp only
  have c0:=q0P (yF ns 0) 4 (by decide)
  have c1:=q0P (yF ns 1) 4 (by decide)
  obtain⟨P0,eP0⟩:∃n:Nat,1+yF ns 0%4=(n:Int):=⟨(1+yF ns 0%4).toNat,by omega⟩
  obtain⟨c',ec⟩:∃n:Nat,1+yF ns 1%4=(n:Int):=⟨(1+yF ns 1%4).toNat,by omega⟩
  rw[eP0,ec]
  have hP1:1≤P0:=by omega
  have hP2:P0≤4:=by omega
  have hc1:1≤c':=by omega
  have hc2:c'≤4:=by omega
  clear c0 c1 eP0 ec
  refine⟨λσ' H'=>∃c:Nat,σ'=[some (.ref a),some (.int (P0:Int)),some (.int (c:Int)),none,none]∧H=H'∧1≤c∧c≤4∧3≤c*P0,?_,?_⟩
  ·refine⟨_,rfl,_,rfl,iI ⟨.inl ⟨by omega,by omega⟩,iI ⟨_,rfl,?_⟩⟩⟩
   refine ite2 (λz=>?_) (λz=>?_)
   ·exact⟨3,rfl,rfl,by decide,by decide,by omega⟩
   ·have z:¬(c':Int)*(P0:Int)<3:=λy=>z (hG y)
    rw[←dO]at z
    exact⟨c',rfl,rfl,hc1,hc2,by omega⟩
  rintro σ' _ ⟨c,rfl,rfl,p1,p2,cp⟩
  refine⟨_,rfl,a,ns,2,rfl,hS,by decide,_,_,rfl,rfl,(by show(0:Int)<3;decide),?_⟩
  have c2:=q0P (yF ns 2) 3 (by decide)
  try dsimp only
  obtain⟨i,ei⟩:∃n:Nat,yF ns 2%3=(n:Int):=⟨(yF ns 2%3).toNat,by omega⟩
  rw[ei]
  have hi:i≤2:=by omega
  clear c2 ei
  refine⟨_,rfl,_,rfl,iI ⟨.inl ⟨by omega,by omega⟩,iI ?_⟩⟩
  try dsimp only
  obtain⟨M,eM⟩:∃n:Nat,(c:Int)*(P0:Int)-2=(n:Int):=⟨c*P0-2,by rw[←dO];omega⟩
  rw[eM]
  have hM:M+2=c*P0:=by
   rw[←dO]at eM
   omega
  refine⟨λσ' H'=>∃s:Nat,σ'=[some (.ref a),some (.int (P0:Int)),some (.int (c:Int)),some (.int (i:Int)),some (.int (s:Int))]∧H=H'∧1≤s∧s≤M,?_,?_⟩
  ·refine⟨_,rfl,a,ns,3,rfl,hS,by decide,_,_,rfl,rfl,(by show(0:Int)<3;decide),rfl,_,rfl,?_⟩
   refine ite2 (λz=>?_) (λz=>?_)
   ·refine⟨_,rfl,a,ns,3,rfl,hS,by decide,_,_,rfl,rfl,⟨by decide,by decide⟩,_,rfl,iI ⟨(by show(0:Int)<(M:Int);omega),iI ?_⟩⟩
    have c3:=q0P (yF ns 3 / 3) (M:Int) (by omega)
    try dsimp only
    obtain⟨s,es⟩:∃n:Nat,1+yF ns 3 / 3%(M:Int)=(n:Int):=⟨(1+yF ns 3 / 3%(M:Int)).toNat,by omega⟩
    rw[es]
    exact⟨s,rfl,rfl,by omega,by omega⟩
   ·exact⟨M,rfl,rfl,by omega,by omega⟩
  rintro σ' _ ⟨s,rfl,rfl,s1,s2⟩
  refine⟨_,rfl,iI ⟨_,rfl,iI ⟨_,rfl,_,rfl,_,rfl,sz4,?_⟩⟩⟩
  exact k c P0 i s p1 p2 hP1 hP2 hi s1 (by omega)
noncomputable def spNm(K:W.Frag):Sp:=λvs H Q _=>∃a ns,∃sh:Nat,vs=[.ref a,.int (sh:Int)]∧SqL K H a (List.map V.int ns)∧sh≤14∧∀ms:List Int,ms.length=sh→(∀n∈ms,0≤n∧n<64)→NewO H (.lst (ms.map V.int)) Q
theorem q8N(T:Txt K mg t)(S:Fns K t):S.law_names.Ok0 P w mg base 2 (spNm K):=by
 refine S.law_names.F.ok0 q8C λcdv A _ s H vs Q E hr h=>?_
 ·obtain⟨a,ns,sh,rfl,hS,s14,k⟩:=h
  refine⟨_,(qC (qL (uS ["_law_script","_law_k"] [0] rfl (q09 rfl T.b_range (qA (pv 1) qE)) (λ_ _ _ _ _=>(qX (i:=1) (show List.Nodup (["_law_script","_law_k"]:List Str)from by decide) rfl (Or.inl rfl))) (λ_ _ _ _ _=>q53) (λ_ _ _ _ _=>(qM yT (qM yC (qW (jR T S).mono hr rfl T.mg_law_cell_at T.kp_law_cell_at S.law_cell_at.b .nil qK (qA (pv 0) (qA qG qE))) (qM yS qG (pv 1))) qG)) (by kernel_rfl) (yG (by decide))))),?_⟩
  try dsimp-beta-proj-iota-zeta-eta only[wishK,cxK]
  refine⟨_,rfl,_,rfl,by omega,by omega,λD H2 nD s2 hD=>?_⟩
  refine q47 (D:=D) (λi H3=>∃ms:List Int,Same H H3∧H3 D=some (.lst (ms.map V.int))∧ms.length=i∧∀n∈ms,0≤n∧n<64) ⟨[],s2,hD,rfl,by simp⟩ (λi H3 hi hp=>?_) (λH3 hp=>?_)
  ·obtain⟨ms,sm,hd,ln,bd⟩:=hp
   have hi:i<sh:=by omega
   refine⟨_,rfl,a,ns,5,rfl,sm.seq hS,by decide,_,rfl,iI ⟨.inl ⟨by decide,by decide⟩,iI (iI ⟨(by show(0:Int)<64;decide),_,hd,?_,ms++[(yF ns 5+5*(0+(i:Int)))%64],λb o e=>?_,?_,?_,λn hn=>?_⟩)⟩⟩
   ·rw[h9]
    have:(16:Nat)<sizeLine:=by decide
    omega
   ·rw[qD (qH e nD)]
    exact sm _ _ e
   ·rw[qI,m7]
    rfl
   ·rw[kP,ln]
    rfl
   ·rcases gO.mp hn with hn|hn
    ·exact bd n hn
    ·rw[hV.mp hn]
     exact q0P _ 64 (by decide)
  ·obtain⟨ms,sm,hd,ln,bd⟩:=hp
   exact k ms (by omega) bd D H3 nD sm hd
noncomputable def spPk(K:W.Frag):Sp:=λvs H Q _=>∃l,∃ns:List Int,∃c:Int,vs=[.int c,.ref l]∧H l=some (.lst (ns.map V.int))∧1≤ns.length∧ns.length≤14∧∀n∈ns,Q (.int n) H
theorem qA2(T:Txt K mg t)(S:Fns K t):S.law_pick.Ok0 P w mg base 1 (spPk K):=by
 refine S.law_pick.F.ok0 q9S λcdv A _ s H vs Q E hr h=>?_
 ·obtain⟨l,ns,c,rfl,hl,l1,l14,k⟩:=h
  have at1:∀z:Int,0≤z→z<(ns.length:Int)→∃n∈ns,atI (ns.map V.int) z=some (.int n):=λz z0 z1=>by
   obtain⟨j,rfl⟩:=d9 z0
   have hj:j<ns.length:=by omega
   refine⟨ns[j],gD hj,yP ?_⟩
   rw[mD,hU hj]
   rfl
  refine⟨_,(qB (jE (qR vV (qM yT (pv 0) qG) qG (qT _)) (qC (qL (qS jB (pv 1) (qM yT (qM uQ (pv 0) qG) (jA qZ (by rfl) T.b_len gH (qA (pv 1) qE))) (λ_ _=>rfl)))) qQ) (qC (qL (qS jB (pv 1) (qM yT (qM yT (qM uQ (pv 0) qG) qG) (jA (q6X rfl) (by rfl) T.b_min (by kernel_rfl) (qA qG (qA (jA qZ (by rfl) T.b_len gH (qA (pv 1) qE)) qE)))) (λ_ _=>rfl))))),?_⟩
  try dsimp-beta-proj-iota-zeta-eta only[wishK,cxK]
  refine⟨_,rfl,iI ⟨(by show(0:Int)<8;decide),rfl,_,rfl,ite2 (λ_=>?_) (λ_=>?_)⟩⟩
  ·have mv:=q0P (c / 8) (ns.length:Int) (by omega)
   obtain⟨n,hn,e⟩:=at1 _ mv.1 mv.2
   refine⟨_,rfl,_,rfl,iI ⟨⟨by decide,by decide⟩,_,rfl,l,_,rfl,.inl (SqL.of hl),?_⟩⟩
   rw[h9]
   exact(iI ⟨(by show(0:Int)<(ns.length:Int);omega),iL (k:=_) (v:=.int n) (SqL.of hl) e (k n hn)⟩)
  ·obtain⟨h,eh,h1,h2⟩:∃h:Int,(if((ns.length:Nat):Int)<2 then((ns.length:Nat):Int)else 2)=h∧1≤h∧h≤(ns.length:Int):=by
    by_cases z:((ns.length:Nat):Int)<2
    ·exact⟨_,kI z,by omega,by omega⟩
    ·exact⟨_,kF z,by omega,by omega⟩
   have mv:=q0P (c / 8%6) h (by omega)
   obtain⟨n,hn,e⟩:=at1 _ mv.1 (by omega)
   refine⟨_,rfl,_,rfl,iI ⟨⟨by decide,by decide⟩,iI ⟨(by show(0:Int)<6;decide),_,rfl,l,_,rfl,.inl (SqL.of hl),?_⟩⟩⟩
   rw[h9]
   refine⟨_,_,rfl,?_⟩
   rw[eh]
   exact(iI ⟨(by show(0:Int)<h;omega),iL (k:=_) (v:=.int n) (SqL.of hl) e (k n hn)⟩)
noncomputable def spCd(t:Adr):Sp:=λvs H Q _=>∃v cl F p,∃cs:List Int,∃P tk:Nat,vs=[v,.ref cl,.int (P:Int)]∧PapA H F v p∧H cl=some (.lst (cs.map V.int))∧1≤P∧P≤16∧p.why=Str.ofString "even"∧p.b<cs.length∧p.mv.length=P∧tk<cs.length∧(∀m∈p.mv,∃n x y,m=[n,x,y]∧y / (P:Int)=(tk:Int)∧x / (P:Int)=(p.b:Int))∧cs.getD p.b 0<cs.getD tk 0∧Q (.bl true) H
theorem q6E(T:Txt K mg t)(S:Fns K t):S.law_changed.Ok0 P w mg base 1 (spCd t):=by
 refine S.law_changed.F.ok0 zG λcdv A _ s H vs Q E hr h=>?_
 ·obtain⟨v,cl,F,p,cs,P,tk,rfl,⟨pa,l1,l2,us,rs,rfl,ha,h1,ty,h2,pm,_⟩,hc,p1,p16,ew,b1,lm,t1,mv,lt,kk⟩:=h
  refine⟨_,(qB (jE (PW.pt (qAW (qR q2U (qS jC (pv 0) qG (λ_ _=>rfl)) q1A (qT _)) (q7J (qR q2U (jA qZ (by rfl) T.b_len gH (qA (qS jC (pv 0) qG (λ_ _=>rfl)) qE)) (pv 2) (qT _))))) (qC (qL zK)) qQ) (qB (qV (i:=3) zG.nd rfl (Or.inl rfl) (qM uQ (qS jC (qS jB (qS jC (pv 0) qG (λ_ _=>rfl)) qG (λ_ _=>rfl)) qG (λ_ _=>rfl)) (pv 2))) (qB (uO g4 rfl (y8 (qS jC (pv 0) qG (λ_ _=>rfl))) (qX (i:=4) zG.nd rfl (Or.inl rfl)) (qC (jE (PW.pt (qAW (qR q2U (qM uQ (qS jC (pv 4) qG (λ_ _=>rfl)) (pv 2)) (pv 3) (qT _)) (q7J (qR q2U (qM uQ (qS jC (pv 4) qG (λ_ _=>rfl)) (pv 2)) (qS jC (pv 0) qG (λ_ _=>rfl)) (qT _))))) (qC (qL zK)) qQ))) (qC (qL (uC q8T (qS jB (pv 1) (pv 3) (λ_ _=>rfl)) (qS jB (pv 1) (qS jC (pv 0) qG (λ_ _=>rfl)) (λ_ _=>rfl)) (qT _))))))),?_⟩
  try dsimp-beta-proj-iota-zeta-eta only[wishK,cxK]
  rw[ew]at ha
  have ha':=SqT.of (K:=K) ha
  have ul:=pm.len
  refine⟨_,rfl,pa,_,0,.str (Str.ofString "even"),rfl,rfl,ha',rfl,rfl,_,rfl,iteF ?_⟩
  refine⟨_,rfl,pa,_,3,.ref l2,rfl,rfl,ha',rfl,l2,us,rfl,.inl (SqL.of h2),_,rfl,rfl,_,rfl,?_⟩
  rw[v7,hG (show((us.length:Nat):Int)=(P:Int) by omega)]
  refine iteF ?_
  obtain⟨u0,eu⟩:∃u0,us[0]?=some u0:=⟨_,hU (by omega)⟩
  obtain⟨m0,em,tp,rfl,htp⟩:=Paired.at pm eu
  obtain⟨n0,x0,y0,rfl,d1,d2⟩:=mv m0 (m8 em)
  refine⟨_,rfl,pa,_,3,.ref l2,rfl,rfl,ha',rfl,l2,us,0,.ref tp,rfl,rfl,SqL.of h2,(show atI us ((0:Nat):Int)=_ from yP eu),iT (k:=2) (v:=.int y0) (SqT.of htp) rfl ⟨_,rfl,iI ⟨⟨by omega,by omega⟩,?_⟩⟩⟩
  try dsimp only
  rw[d1]
  refine⟨_,rfl,pa,_,3,.ref l2,rfl,rfl,ha',rfl,l2,rfl,⟨_,SqL.of h2⟩,?_⟩
  refine uP (K:=K) (xs:=us) (λi σ' H'=>∃y,σ'=[some (.ref pa),some (.ref cl),some (.int (P:Int)),some (.int (tk:Int)),y]∧H'=H) ⟨_,rfl,rfl⟩ (λi σ' H' hi hp=>by obtain⟨_,_,rfl⟩:=hp;exact SqL.of h2) (λi v σ' H' hv hp=>?_) (λσ' H' hp=>?_)
  ·obtain⟨y,rfl,rfl⟩:=hp
   obtain⟨m1,em1,tp1,rfl,htp1⟩:=Paired.at pm hv
   obtain⟨n1,x1,y1,rfl,e1,e2⟩:=mv m1 (m8 em1)
   refine⟨_,rfl,iT (k:=2) (v:=.int y1) (SqT.of htp1) rfl ⟨_,rfl,iI ⟨⟨by omega,by omega⟩,_,rfl,rfl,_,rfl,?_⟩⟩⟩
   try dsimp only
   rw[v7,hG e1]
   refine iteF ⟨_,rfl,iT (k:=1) (v:=.int x1) (SqT.of htp1) rfl ⟨_,rfl,iI ⟨⟨by omega,by omega⟩,_,rfl,pa,_,2,.int (p.b:Int),rfl,rfl,ha',rfl,rfl,_,rfl,?_⟩⟩⟩
   try dsimp only
   rw[v7,hG e2]
   exact iteF ⟨_,rfl,rfl⟩
  ·obtain⟨y,rfl,rfl⟩:=hp
   refine⟨_,rfl,_,rfl,iL (k:=_) (v:=.int (cs.getD tk 0)) (SqL.of hc) (atV t1) ⟨_,rfl,_,rfl,pa,_,2,.int (p.b:Int),rfl,rfl,ha',rfl,iL (k:=_) (v:=.int (cs.getD p.b 0)) (SqL.of hc) (atV b1) (iI ?_)⟩⟩
   try dsimp only
   rw[hG lt]
   exact kk
noncomputable def Frn(H:Hp)(zs:List V):Prop:=∃z r,zs=z::r∧∀a xs,z=.ref a→H a=some (.tup xs)→xs.length<3
theorem PapA.frn{H H':Hp}{F:List Addr}{v:V}{p:Pa}{q:Addr}{zs:List V}(h:PapA H F v p)(m3:∀m∈p.mv,m.length=3)(e:H q=some (.lst zs))(f:Frn H zs)(kk:Keep [q] H H'):PapA H' F v p:=by
 obtain⟨pa,l1,l2,us,rs,e1,a,b,c,d,g,g1,g2⟩:=h
 obtain⟨z,r,rfl,hz⟩:=f
 have n1:l1∉[q]:=λy=>by
  rw[hV.mp y,e]at b
  cases b
  obtain⟨T,hT,_⟩:=Paired.at (i:=0) c rfl
  obtain⟨T',e',tp,rfl,h'⟩:=Paired.at (i:=0) c rfl
  have:=hz tp _ rfl h'
  simp at this
 have n2:l2∉[q]:=λy=>by
  rw[hV.mp y,e]at d
  cases d
  obtain⟨m,e',tp,rfl,h'⟩:=Paired.at (i:=0) g rfl
  have:=hz tp _ rfl h'
  rw[h9,m3 m (m8 e')]at this
  omega
 exact⟨pa,l1,l2,us,rs,e1,kk.tp _ _ a,kk.k _ _ n1 b,q0L kk c,kk.k _ _ n2 d,Paired.mapP g λv d ⟨p',e',h'⟩=>⟨p',e',kk.tp _ _ h'⟩,g1,g2⟩
theorem qBX{H:Hp}{cs:List Int}(h:cs≠[]):Frn H (cs.map V.int):=by
 cases cs with
 |nil=>exact absurd rfl h
 |cons c r=>exact⟨_,_,rfl,λa xs e=>by cases e⟩
noncomputable def spPs(t:Adr):Sp:=λvs H Q _=>∃pl cl ps,∃cs:List Int,∃F qs,∃P c:Nat,vs=[.ref pl,.ref cl,.int (P:Int),.int (c:Int)]∧H pl=some (.lst ps)∧Paired (PapA H F) ps qs∧H cl=some (.lst (cs.map V.int))∧pl≠cl∧(∀q∈qs,∀m∈q.mv,m.length=3)∧1≤P∧P≤16∧cs≠[]∧cs.length≤16∧qs.length≤20∧whoL P cs qs∧qs.length≤c∧(2≤qs.length→∀m M,m∈cs→(∀a∈cs,m≤a)→M∈addL cs qs→(∀a∈addL cs qs,M≤a)→M=m+1)∧∀H',H' cl=some (.lst ((addL cs qs).map V.int))→Keep [cl] H H'→Q (.bl true) H'
theorem q6T(T:Txt K mg t)(S:Fns K t):S.law_papers.Ok0 P w mg base 2 (spPs t):=by
 refine S.law_papers.F.ok0 vD λcdv A _ s H vs Q E hr h=>?_
 ·obtain⟨pl,cl,ps,cs,F,qs,P,c,rfl,hp,pp,hc,ne,m3,p1,p16,cne,c16,q20,wh,lc,grow,kk⟩:=h
  have s9:(99999:Nat)<sizeLine:=by decide
  have ul:=pp.len
  refine⟨_,(qB (jE (qR q8T (jA qZ (by rfl) T.b_len gH (qA (pv 0) qE)) (pv 3) (qT _)) (qC (qL zK)) qQ) (qB (qV (i:=4) vD.nd rfl (Or.inl rfl) (jA (q2G rfl) (by rfl) T.b_min (by kernel_rfl) (qA (pv 1) qE))) (qB (uO g4 rfl (q09 rfl T.b_range (qA (jA qZ (by rfl) T.b_len gH (qA (pv 0) qE)) qE)) (qX (i:=5) vD.nd rfl (Or.inl rfl)) (qB (qV (i:=6) vD.nd rfl (Or.inl rfl) (qS jB (pv 0) (pv 5) (λ_ _=>rfl))) (q2F (jE (qR vV (pv 5) (qM y9 (jA qZ (by rfl) T.b_len gH (qA (pv 0) qE)) qG) (qT _)) (qC (jE (qR q2U (qS jC (pv 6) qG (λ_ _=>rfl)) q1A (qT _)) (qC (qL zK)) qQ)) (qC (jE (yX (yE (qW (q6E T S).mono hr rfl T.mg_law_changed T.kp_law_changed S.law_changed.b .nil qK (qA (pv 6) (qA (pv 1) (qA (pv 2) qE)))))) (qC (qL zK)) qQ))) (qC (q2Z (qM yC (qS jB (pv 1) (qS jC (pv 6) qG (λ_ _=>rfl)) (λ_ _=>rfl)) qG) (q40 (pv 1) (qS jC (pv 6) qG (λ_ _=>rfl)) yU)))))) (qC (qL (qCR (uC q3M (jA qZ (by rfl) T.b_len gH (qA (pv 0) qE)) qG (qT _)) (q1C (uC vV (jA (q2G rfl) (by rfl) T.b_min (by kernel_rfl) (qA (pv 1) qE)) (qM yC (pv 4) qG) (qT _))))))))),?_⟩
  try dsimp-beta-proj-iota-zeta-eta only[wishK,cxK]
  refine⟨_,rfl,pl,ps,rfl,.inl (SqL.of hp),_,rfl,iI ⟨_,rfl,?_⟩⟩
  rw[kD (show ¬((ps.length:Nat):Int)>(c:Int) by omega)]
  refine iteF ?_
  refine⟨_,rfl,cl,cs,rfl,SqL.of hc,r9.mpr cne,λm hm le=>?_⟩
  refine⟨_,rfl,pl,ps,rfl,.inl (SqL.of hp),_,rfl,by omega,by omega,?_⟩
  rw[mK]
  have ixp:∀{i:Nat} {H':Hp},i<ps.length→Keep [cl] H H'→∃v q,ps[i]?=some v∧qs[i]?=some q∧PapA H' F v q:=fun {i H'} hi k'=>by
   obtain⟨q,eq,hq⟩:=Paired.at pp (hU hi)
   exact⟨_,q,hU hi,eq,hq.frn (m3 q (m8 eq)) hc (qBX cne) k'⟩
  refine q0A (λi σ' H'=>∃y5 y6,∃cs':List Int,σ'=[some (.ref pl),some (.ref cl),some (.int (P:Int)),some (.int (c:Int)),some (.int m),y5,y6]∧H' cl=some (.lst (cs'.map V.int))∧Keep [cl] H H'∧cs'.length=cs.length∧whoL P cs' (qs.drop i)∧addL cs' (qs.drop i)=addL cs qs) ⟨_,_,cs,rfl,hc,Keep.refl,rfl,wh,rfl⟩ (λi σ' H' hi hp'=>?_) (λσ' H' hp'=>?_)
  ·obtain⟨y5,y6,cs',rfl,hc',k',lc',wh',ad'⟩:=hp'
   obtain⟨v,q,ev,eq,hq⟩:=ixp hi k'
   have hp2:=k'.k _ _ (λz=>ne (hV.mp z)) hp
   have iq:i<qs.length:=by omega
   have eq':qs[i]=q:=by rw[hU iq]at eq;exact kQ eq
   rw[gT iq,eq']at wh' ad'
   refine⟨_,rfl,_,rfl,pl,ps,_,v,rfl,rfl,SqL.of hp2,by rw[Int.zero_add];exact yP ev,?_⟩
   refine⟨λσ' H''=>σ'=[some (.ref pl),some (.ref cl),some (.int (P:Int)),some (.int (c:Int)),some (.int m),some (.int (0+(i:Int))),some v]∧H''=H'∧q.b<cs'.length,?_,?_⟩
   ·refine⟨_,rfl,_,rfl,pl,ps,rfl,.inl (SqL.of hp2),iI ⟨rfl,_,rfl,?_⟩⟩
    rw[v7]
    have hq':=hq
    obtain⟨pa,l1,l2,us,rs,rfl,ha,_⟩:=hq'
    by_cases z:i+1=qs.length
    ·rw[hG (by omega)]
     rw[List.drop_eq_nil_of_le (by omega)]at wh'
     obtain⟨ew,qb⟩:=wh'
     rw[ew]at ha
     exact iteT ⟨_,rfl,iT (k:=0) (v:=.str (Str.ofString "rule")) (SqT.of ha) rfl ⟨rfl,_,rfl,iteF ⟨rfl,rfl,qb⟩⟩⟩
    ·rw[kD (by omega)]
     rw[gT (show i+1<qs.length by omega)]at wh'
     obtain⟨⟨w1,w2,w3,tk,w4,w5,w6⟩,_⟩:=wh'
     exact iteF ⟨_,rfl,_,rfl,_,rfl,.ref pa,cl,F,q,cs',P,tk,rfl,hq,hc',p1,p16,w1,w2,w3,w4,w5,w6,_,rfl,iteF ⟨rfl,rfl,w2⟩⟩
   rintro σ' H'' ⟨rfl,rfl,qb⟩
   obtain⟨pa,l1,l2,us,rs,rfl,ha,_⟩:=hq
   have wh2:whoL P (cs'.set q.b (cs'.getD q.b 0+1)) (qs.drop (i+1)):=by
    by_cases z:i+1=qs.length
    ·rw[List.drop_eq_nil_of_le (by omega)]
     trivial
    ·rw[gT (show i+1<qs.length by omega)]at wh' ⊢
     exact wh'.2
   refine⟨_,rfl,_,rfl,iT (k:=2) (v:=.int (q.b:Int)) (SqT.of ha) rfl (iL (k:=_) (v:=.int (cs'.getD q.b 0)) (SqL.of hc') (atV qb) (iI ⟨_,rfl,_,rfl,iT (k:=2) (v:=.int (q.b:Int)) (SqT.of ha) rfl ⟨cl,_,_,q.b,rfl,rfl,hc',q32 (by rw[h9];exact qb),?_⟩⟩))⟩
   rw[setV]
   exact⟨_,_,_,rfl,qI,k'.trans (Keep.upd hc' (λ_ z=>by cases z) (by simp)),by rw[gG];exact lc',wh2,ad'⟩
  ·obtain⟨y5,y6,cs',rfl,hc',k',lc',wh',ad'⟩:=hp'
   rw[ul,sG]at ad'
   have ad':cs'=addL cs qs:=ad'
   rw[ad']at hc' lc'
   have hp2:=k'.k _ _ (λz=>ne (hV.mp z)) hp
   refine⟨_,rfl,pl,ps,rfl,.inl (SqL.of hp2),iI ?_⟩
   refine⟨_,rfl,?_⟩
   by_cases z:qs.length<2
   ·rw[hG (show((ps.length:Nat):Int)<2 by omega)]
    exact iteT (kk H' hc' k')
   ·rw[kD (show ¬((ps.length:Nat):Int)<2 by omega)]
    refine iteF ⟨_,rfl,cl,_,rfl,SqL.of hc',by rw[lc'];exact r9.mpr cne,λM hM le'=>⟨_,rfl,iI ⟨rfl,?_⟩⟩⟩
    have e:=grow (by omega) m M hm le hM le'
    show Q (.bl (decide (V.int M=V.int (m+1)))) H'
    rw[v7,hG e]
    exact kk H' hc' k'
noncomputable def Tup2(H:Hp)(v:V)(d:Int×Int):Prop:=∃p,v=.ref p∧H p=some (.tup [.int d.1,.int d.2])
noncomputable def spRw(t:Adr):Sp:=λvs H Q _=>∃rp rs,∃c:Nat,∃l:List (Int×Int),vs=[.ref rp,.int (c:Int)]∧H rp=some (.lst rs)∧Paired (Tup2 H) rs l∧l.length≤100∧c≤16∧RwO c l∧Q (.bl true) H
theorem qA3(T:Txt K mg t)(S:Fns K t):S.law_rows.Ok0 P w mg base 1 (spRw t):=by
 refine S.law_rows.F.ok0 zQ λcdv A _ s H vs Q E hr h=>?_
 ·obtain⟨rp,rs,c,l,rfl,hr0,pr,l100,c16,rw0,kk⟩:=h
  have ul:=pr.len
  have hs:=SqL.of (K:=K) hr0
  have s9:(99999:Nat)<sizeLine:=by decide
  refine⟨_,(qB (uO g4 rfl (q09 rfl T.b_range (qA (jA qZ (by rfl) T.b_len gH (qA (pv 0) qE)) qE)) (qX (i:=2) zQ.nd rfl (Or.inl rfl)) (qC (uO g4 rfl (q41 rfl T.b_range (qA (qM yC (pv 2) qG) (qA (jA qZ (by rfl) T.b_len gH (qA (pv 0) qE)) qE))) (qX (i:=3) zQ.nd rfl (Or.inl rfl)) (qB (qV (i:=4) zQ.nd rfl (Or.inl rfl) (qM y9 (qS jC (qS jB (pv 0) (pv 3) (λ_ _=>rfl)) qG (λ_ _=>rfl)) (qS jC (qS jB (pv 0) (pv 2) (λ_ _=>rfl)) qG (λ_ _=>rfl)))) (qC (jE (qR q8T (qM y9 (qS jC (qS jB (pv 0) (pv 3) (λ_ _=>rfl)) qG (λ_ _=>rfl)) (qS jC (qS jB (pv 0) (pv 2) (λ_ _=>rfl)) qG (λ_ _=>rfl))) (qM yS (qM y9 (pv 1) qG) (pv 4)) (qT _)) (qC (qL zK)) qQ)))))) (qC (qL zK))),?_⟩
  try dsimp-beta-proj-iota-zeta-eta only[wishK,cxK]
  refine⟨_,rfl,rp,rs,rfl,.inl hs,_,rfl,by omega,by omega,?_⟩
  rw[mK]
  refine q0A (λi σ' H'=>∃y2 y3 y4,σ'=[some (.ref rp),some (.int (c:Int)),y2,y3,y4]∧H'=H) ⟨_,_,_,rfl,rfl⟩ (λi σ' H' hi hp=>?_) (λσ' H' hp=>?_)
  ·obtain⟨y2,y3,y4,rfl,rfl⟩:=hp
   obtain⟨a,ea,pa,epa,ha⟩:=Paired.at pr (hU hi)
   refine⟨_,rfl,iI ⟨_,rfl,rp,rs,rfl,.inl hs,_,_,rfl,⟨by omega,by omega,by omega,by omega⟩,?_⟩⟩
   refine q0A (D:={ nx:=λσ' H''=>∃y2 y3 y4,σ'=[some (.ref rp),some (.int (c:Int)),y2,y3,y4]∧H''=H',rt:=Q,bk:=λ_ H'=>Q (.bl true) H',ct:=λσ' H''=>∃y2 y3 y4,σ'=[some (.ref rp),some (.int (c:Int)),y2,y3,y4]∧H''=H' }) (λj σ' H''=>∃y3 y4,σ'=[some (.ref rp),some (.int (c:Int)),some (.int (0+(i:Int))),y3,y4]∧H''=H') ⟨_,_,rfl,rfl⟩ (λj σ' H'' hj hp=>?_) (λσ' H'' hp=>?_)
   ·obtain⟨y3,y4,rfl,rfl⟩:=hp
    have hj':i+1+j<rs.length:=by omega
    obtain⟨b,eb,pb,epb,hb⟩:=Paired.at pr (hU hj')
    have at1:atI rs (0+(i:Int)+1+(j:Int))=some (.ref pb):=by
     rw[show 0+(i:Int)+1+(j:Int)=((i+1+j:Nat):Int) by omega]
     exact yP (by rw[hU hj',epb])
    have at0:atI rs (0+(i:Int))=some (.ref pa):=by
     rw[Int.zero_add]
     exact yP (by rw[hU hi,epa])
    refine⟨_,rfl,_,rfl,rp,rs,_,.ref pb,rfl,rfl,hs,at1,iT (k:=0) (v:=.int b.1) (SqT.of hb) rfl ⟨_,rfl,_,rfl,rp,rs,_,.ref pa,rfl,rfl,hs,at0,iT (k:=0) (v:=.int a.1) (SqT.of ha) rfl (iI ?_)⟩⟩
    refine⟨_,rfl,_,rfl,rp,rs,_,.ref pb,rfl,rfl,hs,at1,iT (k:=1) (v:=.int b.2) (SqT.of hb) rfl ⟨_,rfl,_,rfl,rp,rs,_,.ref pa,rfl,rfl,hs,at0,iT (k:=1) (v:=.int a.2) (SqT.of ha) rfl (iI ⟨_,rfl,iI ⟨_,rfl,iI ⟨.inl ⟨by omega,by omega⟩,iI ⟨_,rfl,?_⟩⟩⟩⟩)⟩⟩
    obtain⟨ia,ea'⟩:=kE.mp ea
    obtain⟨ib,eb'⟩:=kE.mp eb
    have le:=rO.mp rw0 i (i+1+j) ia ib (by omega)
    rw[ea',eb']at le
    try dsimp only
    rw[kD (by omega)]
    exact iteF ⟨_,_,rfl,rfl⟩
   ·obtain⟨y3,y4,rfl,rfl⟩:=hp
    exact⟨_,_,_,rfl,rfl⟩
  ·obtain⟨y2,y3,y4,rfl,rfl⟩:=hp
   exact kk
theorem qBY{hl:List Int}{y:Int}:(∀m,m∈gvn hl [y]↔m=y∧y∈hl)∧(gvn hl [y]=[]↔y∉hl):=by
 have a:∀m,m∈gvn hl [y]↔m=y∧y∈hl:=λm=>by
  unfold gvn
  rw[mJ,kU,hV]
  constructor
  ·rintro⟨h,e⟩
   exact⟨e,by rw[←e];exact h⟩
  ·rintro⟨e,h⟩
   exact⟨by rw[e];exact h,e⟩
 refine⟨a,?_⟩
 rw[List.eq_nil_iff_forall_not_mem]
 constructor
 ·intro h z
  exact h y ((a y).mpr ⟨rfl,z⟩)
 ·intro h m hm
  exact h ((a m).mp hm).2
theorem qJJ{s:XS}(lc:s.cl.length=s.q.B):((List.range s.q.B).map λb=>s.cl.getD b 0)=s.cl:=by
 rw[←lc]
 refine rH (by simp) λi h1 h2=>?_
 simp[hU h2]
noncomputable def RE(H H':Hp):Prop:=∀b o,(∀ps,o≠ .tbl ps)→H b=some o→H' b=some o
theorem RE.keep{H Hi Hj:Hp}{F:List Addr}(r:RE H Hi)(k:Keep F Hi Hj)(f:∀b∈F,H b=none∨∃ps,H b=some (.tbl ps)):RE H Hj:=λb o nb e=>k.k b o (λz=>by
 rcases f b z with z|⟨ps,z⟩
 ·rw[z]at e;cases e
 ·rw[z]at e;exact nb ps (kQ e).symm) (r b o nb e)
theorem RE.same{H Hi Hj:Hp}(r:RE H Hi)(s:Same Hi Hj):RE H Hj:=λb o nb e=>s b o (r b o nb e)
theorem RE.sq{H Hi:Hp}{sa:Addr}{xs:List V}(r:RE H Hi)(h:SqL K H sa xs):SqL K Hi sa xs:=by
 rcases h with(h|⟨ob,h⟩)|h
 ·exact .inl (.inl (r _ _ (λ_ z=>by cases z) h))
 ·exact .inl (.inr ⟨ob,r _ _ (λ_ z=>by cases z) h⟩)
 ·exact .inr h
theorem RE.fr{H Hi:Hp}{b:Addr}(r:RE H Hi)(n:Hi b=none):H b=none∨∃ps,H b=some (.tbl ps):=by
 cases z:H b with
 |none=>exact .inl rfl
 |some o=>
  by_cases y:∃ps,o=.tbl ps
  ·obtain⟨ps,rfl⟩:=y
   exact .inr ⟨ps,rfl⟩
  ·rw[r b o (λps e=>y ⟨ps,e⟩) z]at n
   cases n
theorem qF4{α:Type}[DecidableEq α]:∀{l m:List α},l.Nodup→(∀x∈l,x∈m)→l.length≤m.length
 | [],_,_,_=>mO _
 |a::l,m,nd,h=>by
  obtain⟨n1,n2⟩:=m9.mp nd
  have am:=h a kW
  have:=qF4 (l:=l) (m:=m.erase a) n2 λx hx=>(List.mem_erase_of_ne (λz=>n1 (by rw[←z];exact hx))).mpr (h x (hX _ hx))
  rw[List.length_erase_of_mem am]at this
  have:=cS am
  rw[mG]
  omega
theorem TbF.updK{H H':Hp}{p:Addr}{zs:List V}(h:TbF t H)(e:H p=some (.lst zs))(kk:Keep [p] H H'):TbF t H':=
 h.gen λb o to e'=>kk.k _ _ (λz=>yO to e' e vE (hV.mp z)) e'
theorem XX.frn{H H':Hp}{x:Sto}{k:Tm}{sh sr:Int}{r:Addr}{pp:Addr}{X:Sx}(h:XX t H x k sh sr r [] pp X)(m3:M3 X.ps){p:Addr}{zs:List V}(e:H p=some (.lst zs))(f:Frn H zs)(np:p∉x.a.li::fx t x r pp)(kk:Keep [p] H H'):XX t H' x k sh sr r [] pp X:=by
 obtain⟨ps,h1,h2⟩:=h.hp
 obtain⟨m,st,_⟩:=h.j.e
 have n1:∀{y},y∈x.a.li::fx t x r pp→y∉[p]:=λhy z=>np (by rw[←hV.mp z];exact hy)
 refine⟨h.j.keep kk (λy hy z=>?_) (TbF.updK st.tb e kk),h.er,h.ru.keep kk (λy hy=>n1 (by rw[hV.mp hy];simp)),h.of,h.ep,⟨ps,kk.k _ _ (n1 (by simp)) h1,?_⟩,h.np,h.nr⟩
 ·rcases gO.mp hy with hy|hy
  ·have hy:y=x.s∨y=x.tm:=by simpa using hy
   rw[hV.mp z]at hy
   rcases hy with h|h
   ·rw[h,st.o]at e;cases e
   ·rw[h,st.te]at e;cases e
  ·rcases kL.mp hy with h|h
   ·exact n1 (by rw[h];simp) z
   ·exact n1 (by simp[h]) z
 ·have:∀{l:List V} {qs:List Pa},Paired (PapA H (fx t x r pp)) l qs→M3 qs→Paired (PapA H' (fx t x r pp)) l qs:=fun {l qs} hh=>by
   induction hh with
   |nil=>exact λ_=>.nil
   |cons a b ih=>exact λm3=>.cons (a.frn (m3 _ kW) e f kk) (ih λq hq=>m3 q (hX _ hq))
  exact this h2 m3
theorem qJK(T:Txt K mg t)(S:Fns K t)(B:BmIn base mg):S.law.Ok0 P w mg base 18 (q48 K [t.T_Plain_free,t.T_Even_block_to_change]):=by
 refine S.law.F.ok0 yI λcdv A _ s H vs Q E hr h=>?_
 ·obtain⟨a,ns,rfl,hS,hlen,hT0,k⟩:=h
  have hT:H t.T_Plain_free=some (.tbl #[]):=hT0 _ (by simp)
  have hTB:H t.T_Even_block_to_change=some (.tbl #[]):=hT0 _ (by simp)
  have hu:=q79 hr
  have s9:(99999:Nat)<sizeLine:=by decide
  refine⟨_,(qB (q2Z (qW (q8M T S).mono hr rfl T.mg_law_shape T.kp_law_shape S.law_shape.b .nil qK (qA (pv 0) qE)) (qIX rfl (uA (qX (i:=1) yI.nd rfl (Or.inl rfl)) (uA (qX (i:=2) yI.nd rfl (Or.inl rfl)) (uA (qX (i:=3) yI.nd rfl (Or.inl rfl)) (uA (qX (i:=4) yI.nd rfl (Or.inl rfl)) q4Y)))))) (qB (qV (i:=5) yI.nd rfl (Or.inl rfl) (qM yC qG (qM yT (qW (jR T S).mono hr rfl T.mg_law_cell_at T.kp_law_cell_at S.law_cell_at.b .nil qK (qA (pv 0) (qA qG qE))) qG))) (qB (qV (i:=6) yI.nd rfl (Or.inl rfl) (qM y9 (qM y9 (pv 1) qG) (pv 4))) (qB (qV (i:=7) yI.nd rfl (Or.inr rfl) (q51 T.mk_Chip (q8G T S).mono hr rfl T.mg_Chip S.b_Chip_init_2 S.v_Chip_init_2 qK (qA (pv 1) (qA (pv 2) qE)))) (qB (qV (i:=8) yI.nd rfl (Or.inl rfl) (q51 T.mk_Terms (q6P T S).mono hr rfl T.mg_Terms S.b_Terms_init .nil qK (qA (pv 1) (qA (pv 2) (qA qG (qA (pv 3) (qA (pv 4) (qA (pv 5) qE)))))))) (qB (qV (i:=9) yI.nd rfl (Or.inl rfl) (q51 T.mk_Even (q6S T S).mono hr rfl T.mg_Even S.Store_init.b .nil qK (qA (pv 7) (qA (pv 8) (qA (qW (qA1 T S).mono hr rfl T.mg_law_rule T.kp_law_rule S.law_rule.b .nil qK (qA (qM uQ (qW (jR T S).mono hr rfl T.mg_law_cell_at T.kp_law_cell_at S.law_cell_at.b .nil qK (qA (pv 0) (qA qG qE))) qG) qE)) qE))))) (qB (qV (i:=10) yI.nd rfl (Or.inl rfl) (qW (q8N T S).mono hr rfl T.mg_law_names T.kp_law_names S.law_names.b .nil qK (qA (pv 0) (qA (pv 3) qE)))) (qB (uO g4 rfl (y8 (pv 10)) (qX (i:=11) yI.nd rfl (Or.inl rfl)) (qC (j8 (jV q1H (pv 9) T.cl_Even T.m_Even_write (q2C T S B).mono hr S.Plain_write.b .nil (qA (pv 11) (qA qG qE)))))) (qB (qV (i:=12) yI.nd rfl (Or.inl rfl) (qM zM (jX (qA qG qE)) (pv 1))) (qB (qV (i:=13) yI.nd rfl (Or.inl rfl) (jX (qA (uD (qA qG (qA qG qE))) qE q1I))) (qB (qV (i:=14) yI.nd rfl (Or.inl rfl) qG) (qB (uO g4 rfl (q41 rfl T.b_range (qA qG (qA (jA (q6X rfl) (by rfl) T.b_min (by kernel_rfl) (qA (jA qZ (by rfl) T.b_len gH (qA (pv 0) qE)) (qA qG qE))) qE))) (qX (i:=15) yI.nd rfl (Or.inl rfl)) (qB (qV (i:=16) yI.nd rfl (Or.inl rfl) (qS jB (pv 0) (pv 15) (λ_ _=>rfl))) (qB (qV (i:=17) yI.nd rfl (Or.inl rfl) (qW (qA2 T S).mono hr rfl T.mg_law_pick T.kp_law_pick S.law_pick.b .nil qK (qA (qM yT (qM yS (qM yC (pv 16) (pv 15)) qG) qG) (qA (pv 10) qE)))) (q2F (jE (qR vV (qM yT (pv 16) qG) qG (qT _)) (qC (j8 (jV q1H (pv 9) T.cl_Even T.m_Even_give_up (q4F T S B).mono hr S.Plain_give_up.b .nil (qA (jX (qA (pv 17) qE)) qE qDO)))) (qC (j8 (jV q1H (pv 9) T.cl_Even T.m_Even_write (q2C T S B).mono hr S.Plain_write.b .nil (qA (pv 17) (qA (qM yT (qM yC (qM yS (pv 16) qG) (pv 15)) (qM qCV qG qG)) qE)))))) (qB (qV (i:=18) yI.nd rfl (Or.inl rfl) (qD7 qFD (qJ (pv 9) rfl) (qFB (pv 14)) qFA)) (qB (qV (i:=14) yI.nd rfl (Or.inl rfl) (qM yC (pv 14) (jA qZ (by rfl) T.b_len gH (qA (pv 18) qE)))) (qB (jE (yX (yE (qW (q6T T S).mono hr rfl T.mg_law_papers T.kp_law_papers S.law_papers.b .nil qK (qA (pv 18) (qA (pv 12) (qA (pv 2) (qA (pv 6) qE))))))) (qC (qL zK)) qQ) (qC (j8 (qB3 wA rW rX vT (pv 13) (qA (uD (qA (jA (q2G rfl) (by rfl) T.b_min (by kernel_rfl) (qA (pv 12) qE)) (qA (qM yC (qS jC (qS jB (pv 13) (qJV qHS qG) (λ_ _=>rfl)) qG (λ_ _=>rfl)) (jA (qC3 rfl) (by rfl) T.b_max (by kernel_rfl) (qA qG (qA (qM y9 (jA qZ (by rfl) T.b_len gH (qA (pv 18) qE)) qG) qE)))) qE))) qE q1I))))))))))) (qB (jE (PW.pt (qAW (qR (qIO hr.units) (pv 12) (uS ["_law_chip","_law_block"] [7] rfl (q09 rfl T.b_range (qA (pv 1) qE)) (λ_ _ _ _ _=>(qX (i:=1) (show List.Nodup (["_law_chip","_law_block"]:List Str)from by decide) rfl (Or.inl rfl))) (λ_ _ _ _ _=>q53) (λ_ _ _ _ _=>(qY (pv 0) T.cl_Chip T.m_Chip_cleared (uF T S).mono hr S.Chip_cleared.b .nil qK (qA (pv 1) qE))) (by kernel_rfl) (yG (by decide))) (qT _)) (q7J (qR q2U (j9 (pv 9) T.cl_Even T.m_Even_least (q2Y T S).mono hr S.Even_least.b .nil qK) (jA (q2G rfl) (by rfl) T.b_min (by kernel_rfl) (qA (pv 12) qE)) (qT _))))) (qC (qL zK)) qQ) (qC (qL (qW (qA3 T S).mono hr rfl T.mg_law_rows T.kp_law_rows S.law_rows.b .nil qK (qA (pv 13) (qA (pv 6) qE)))))))))))))))))),?_⟩
  try dsimp-beta-proj-iota-zeta-eta only[wishK,cxK]
  refine⟨_,rfl,a,ns,rfl,hS,λc P1 i sh hc1 hc4 hP1 hP2 hi2 hs1 hs2 p0 H1 n0 s1 h1=>?_⟩
  refine⟨p0,_,rfl,SqL.of h1,rfl,_,_,rfl,_,_,rfl,_,_,rfl,_,_,rfl,rfl,?_⟩
  have hcp:c*P1≤4*4:=Nat.mul_le_mul hc4 hP2
  have sh14:sh≤14:=by omega
  refine⟨_,rfl,a,ns,4,rfl,s1.seq hS,by decide,_,_,rfl,rfl,(by show(0:Int)<3;decide),iI ?_⟩
  have c4:=q0P (yF ns 4) 3 (by decide)
  try dsimp only
  obtain⟨w,ew⟩:∃w:Int,1+yF ns 4%3=w:=⟨_,rfl⟩
  rw[ew]
  have w1:1≤w:=by omega
  have w3:w≤3:=by omega
  clear c4 ew
  refine⟨_,rfl,iI ⟨_,rfl,iI ?_⟩⟩
  refine⟨_,rfl,_,rfl,?_⟩
  dsimp only[tNil]
  refine qKM (by omega) (by omega) (by omega) (by omega) (by decide) (by decide) ?_
  refine λch ca H6 hc sC fC=>?_
  refine⟨_,rfl,_,rfl,_,rfl,_,rfl,_,rfl,?_⟩
  dsimp only[tNil,c9,rR]
  refine qKO (by omega) (by omega) (by omega) (by omega) (by decide) (by decide) (by omega) (by
   rw[show((c+1+i:Nat):Int)-1-(i:Int)=(c:Int) by omega,←dO]
   omega) (by omega) (by omega) (by omega) (by omega) ?_
  intro tm td H7 s7 htm
  have s07:=(s1.trans sC).trans s7
  refine⟨_,rfl,_,rfl,_,rfl,a,ns,4,rfl,s07.seq hS,by decide,_,_,rfl,rfl,⟨by decide,by decide⟩,_,rfl,λru f H8 hR8 s8 nru=>?_⟩
  have s08:=s07.trans s8
  have hc8:=hc.same (s7.trans s8)
  have htm8:=s8 _ _ htm
  have tb8:TbF t H8:=⟨#[],s08 _ _ hT,.inl rfl,#[],s08 _ _ hTB,.inl rfl⟩
  refine λsA sd nA nsd nn=>?_
  have sM:Same H8 (upd (upd H8 sd (.own sA)) sA (.ins t.C_Even sd [])):=q2H nA nsd
  refine⟨sA,sd,tm,td,ch,ca,_,_,_,_,_,_,c+1+i,P1,rfl,qI,sM _ _ htm8,hc8.same sM,rfl,rfl,by omega,tb8.same sM,λkb pp H9 st9 hp9 npp fk off up=>⟨rfl,?_⟩⟩
  have s89:Same H8 H9:=λb o e=>up b o (qH e nA) (sM b o e)
  have s09:=s08.trans s89
  obtain⟨_,_,_,er8⟩:=hR8.ins
  have npp8:H8 pp=none:=Same.free sM npp
  obtain⟨kt,ekt⟩:∃kt:Tm,kt=⟨i,w,true⟩:=⟨_,rfl⟩
  obtain⟨ix0,ge0⟩:=qGL (k:=kt) (B:=c+1+i) (P:=P1) (by omega) hP1 (by omega) (by rw[ekt];show 1+i< _;omega) (by rw[ekt];exact w1)
  obtain⟨X,eX⟩:∃X:Sto,X=⟨sA,sd,tm,td,ch,ca,kb,.ref ru,.ref pp⟩:=⟨_,rfl⟩
  have of:Off t X [ru]:=by
   rw[eX]
   exact qJI (hc.same s7) htm (s07 _ _ hT) (s07 _ _ hTB) (λu hu=>by rw[hV.mp hu];exact nru) (λu hu=>by rw[hV.mp hu];exact⟨_,er8⟩) nA sM fk
  rw[←eX]at st9 off
  have hx9:XX t H9 X kt 64 (sh:Int) ru [] pp ⟨newX (c+1+i) P1,.rk f,[]⟩:=qJH (by rw[ekt];exact st9) (by rw[eX]) (hR8.keep (Keep.same s89) (F:=[]) (by simp)) of (by rw[eX]) hp9 off (λz=>by rw[hV.mp z,er8]at npp8;cases npp8) (by omega) (by omega) hP1 (by omega) ix0.w
  have frX:∀b∈fx t X ru pp,H b=none∨∃ps,H b=some (.tbl ps):=by
   intro b hb
   rw[eX]at hb
   have hb:b=pp∨b=ru∨b=t.T_Even_block_to_change∨b=t.T_Plain_free∨b∈foot ch ca∨b∈bf kb:=by simpa[sf]using hb
   rcases hb with hb|hb|hb|hb|hb|hb
   ·exact .inl (by rw[hb];exact s08.free npp8)
   ·exact .inl (by rw[hb];exact s07.free nru)
   ·exact .inr ⟨_,by rw[hb];exact hTB⟩
   ·exact .inr ⟨_,by rw[hb];exact hT⟩
   ·exact .inl (Same.free s1 (fC b (hX _ hb)))
   ·exact .inl (Same.free s08 (Same.free sM (fk b hb)))
  refine⟨_,rfl,_,rfl,a,ns,sh,rfl,s09.seq hS,sh14,λms lms bms nl HN nN sN hN=>?_⟩
  have s0N:=s09.trans sN
  have hxN:=hx9.same sN
  have nlF:nl∉fx t X ru pp:=λz=>by
   obtain⟨o,e⟩:=hx9.inF nl z
   rw[nN]at e;cases e
  have y0:Yd kt 64 sh ⟨newX (c+1+i) P1,.rk f,[]⟩ [] 0:=by
   refine⟨⟨ix0,Wt.of ge0,trivial,List.nodup_nil,λy hy=>absurd hy (by simp),λn _=>?_,λy hy=>absurd hy (by simp),mO _,?_,by omega,by omega⟩,rfl,λq hq=>(by cases hq),ge0,mO _,mO _⟩
   ·show(∃p,(n,p)∈([]:Mp))↔_
    simp
   ·show sh+2≤(c+1+i-(1+kt.ie))*P1
    rw[ekt]
    show sh+2≤(c+1+i-(1+i))*P1
    rw[show c+1+i-(1+i)=c by omega]
    exact hs2
  have rtN:RE H HN:=λb o _ e=>s0N b o e
  have ev:kt.ev=true:=by rw[ekt]
  have eie:kt.ie=i:=by rw[ekt]
  have eB0:(newX (c+1+i) P1).q.B=c+1+i:=rfl
  have eP0:(newX (c+1+i) P1).q.P=P1:=rfl
  have rm0:(newX (c+1+i) P1).rmX=(c+1+i)*P1:=qGO
  have cl0:(newX (c+1+i) P1).cl=List.replicate (c+1+i) 0:=rfl
  rw[show sA=X.s by rw[eX],show ch=X.c by rw[eX]]
  clear hx9 st9 off hp9 npp fk up sM tb8 htm8 hc8 s08 s07 s8 s7 htm sC fC hc s1 h1 nsd nn nA nru s89 s09 s0N npp8 of er8 hR8 eX ekt
  generalize newX (c+1+i) P1=x0 at hxN y0 ix0 ge0 eB0 eP0 rm0 cl0
  have hcl:((c+1+i:Nat):Int)-1-(i:Int)=(c:Int):=by omega
  rw[hcl]
  obtain⟨F,eF⟩:∃F:Option V→Option V→Option V→Option V→Option V→Option V→Option V→Option V→St,F=λy11 y12 y13 y14 y15 y16 y17 y18=>[some (.ref a),some (.int ((c+1+i:Nat):Int)),some (.int (P1:Int)),some (.int (sh:Int)),some (.int (i:Int)),some (.int w),some (.int (c:Int)),some (.ref X.c),some (.ref tm),some (.ref X.s),some (.ref nl),y11,y12,y13,y14,y15,y16,y17,y18]:=⟨_,rfl⟩
  refine⟨_,rfl,nl,rfl,⟨_,SqL.of hN⟩,?_⟩
  refine uP (K:=K) (xs:=ms.map V.int) (λu σ' H'=>∃y11 Y KD,σ'=F y11 none none none none none none none∧XX t H' X kt 64 (sh:Int) ru [] pp Y∧Yd kt 64 sh Y KD u∧Y.ps=[]∧Y.s.cl=List.replicate (c+1+i) 0∧Y.s.rmX+u=(c+1+i)*P1∧Y.s.q.B=c+1+i∧Y.s.q.P=P1∧(∀m∈KD.map (·.1),m∈ms)∧KD.length≤u∧H' nl=some (.lst (ms.map V.int))∧RE H H') ⟨none,_,[],by rw[eF];rfl,hxN,y0,rfl,cl0,rm0,eB0,eP0,by simp,kM _,hN,rtN⟩ (λu σ' H' hi hp=>by obtain⟨_,_,_,_,_,_,_,_,_,_,_,_,_,hN,_⟩:=hp;exact SqL.of hN) (λu v σ' H2 hv hp=>?_) (λσ' H2 hp=>?_)
  ·obtain⟨y11,Y,KD,eσ,hx,yd,eps,ecl,erm,eB,eP,sub,ld,hN,rt⟩:=hp
   rw[eF]at eσ
   subst eσ
   rw[mD]at hv
   obtain⟨y,hy,rfl⟩:=mH.mp hv
   have hu':=(kE.mp hy).1
   have ym:=m8 hy
   obtain⟨y0',y1⟩:=bms y ym
   have rcn:=yd.rcn
   have psn:=yd.psn
   have y2:y∈KD.map (·.1)∨KD.length<sh:=.inr (by omega)
   have hc:=yd.d.can y0' y1 y2
   have ff:¬(hold Y.s.q y=false∧(sh:Int)≤((hdN Y.s.q.V).length:Int)):=λ⟨f1,f2⟩=>by
    have pl:=yd.d.pm.length_eq
    rw[h9]at pl
    have f2:(sh:Int)≤((((Y.s.q.V.map (·.1)).filter λn=>decide (n≠64)).length:Nat):Int):=f2
    omega
   obtain⟨Z,qs,p,hZ,ao,wq,lq,lfZ,m3Z⟩:=yd.ask (v:=1) ev y0' (by omega) hc
   have rd:Y.s.rd kt=true:=hG (by
    rw[eie,eP]
    rw[gZ,gZ]at erm
    rw[gZ]
    omega)
   obtain⟨r1,r2,r3⟩:=qJ9 yd.d.x rd y0' (by omega) (hc.imp id λw=>w.1) hZ
   refine(iV rfl (iM hx.j.o rfl ⟨_,rfl,X,kt,64,_,ru,[],pp,Y,y,1,17,_,rfl,hx,ev,by omega,by omega,by decide,inBi y0' (by omega),inBi (by decide) (by decide),ff,hc.imp id λw=>w.1,hZ,λH3 h3 k3=>?_⟩))
   have:=ao.rl
   have:=ao.ln
   have nd17:=q84 yd.d.x
   refine⟨_,Z,putW KD y 1,by rw[eF];rfl,h3,⟨yd.d.wrote y0' y1 y2 ao,lfZ,m3Z,ao.ge,by omega,by rw[ao.ps,kP];omega⟩,by rw[r1];exact eps,by rw[r2];exact ecl,by omega,by rw[ao.eB];exact eB,by rw[ao.eP];exact eP,λm hm=>?_,?_,k3.k _ _ nlF hN,rt.keep k3 frX⟩
   ·obtain⟨q,hq,e⟩:=kZ.mp hm
    rw[q5T yd.d.nd,jD]at hq
    rcases hq with rfl|hq
    ·rw[←e];exact ym
    ·exact sub m (kZ.mpr ⟨q,hq.1,e⟩)
   ·unfold putW
    split
    ·rw[h9];omega
    ·rw[kP];exact wW ld 1
  obtain⟨y11,Y0,KD0,eσ,hx0,yd0,eps0,ecl0,_,eB00,eP00,sub0,ld0,hN0,rt0⟩:=hp
  rw[eF]at eσ
  subst eσ
  rw[h9,lms]at yd0 ld0
  refine⟨sz1,λl0 HA n0 sA0 h0=>⟨_,rfl,l0,_,_,rfl,rfl,h0,by omega,by omega,λcl HB nB sB hB=>?_⟩⟩
  rw[show((c+1+i:Nat):Int).toNat=c+1+i by omega]at hB
  have sAB:=sA0.trans sB
  rw[show List.replicate (c+1+i) (V.int 0)=Y0.s.cl.map V.int by rw[ecl0,wG]]at hB
  refine⟨sz2,λtp0 HC nC sC hC=>⟨sz1,λrp HD nD sD hD=>?_⟩⟩
  have sBD:=sC.trans sD
  have sAD:=sAB.trans sBD
  have hxD:=hx0.same sAD
  have hxH:=hx0
  have hND:=sAD _ _ hN0
  have hclD:=sBD _ _ hB
  have ne0:Y0.s.cl≠[]:=λz=>by
   rw[z]at ecl0
   have:=dR List.length ecl0
   rw[gF]at this
   simp at this
   omega
  have nin:∀{H5:Hp} {y:Addr},XX t H5 X kt 64 (sh:Int) ru [] pp Y0→H5 y=none→y∉X.a.li::fx t X ru pp:=fun {H5 y} h5 ny z=>by
   rcases kL.mp z with z|z
   ·obtain⟨m,hc',_⟩:=h5.chip
    obtain⟨o,e,_⟩:=hc'.has (show X.a.li∈X.a.li::foot X.c X.a by simp)
    rw[←z,ny]at e;cases e
   ·obtain⟨o,e⟩:=h5.inF y z
    rw[ny]at e;cases e
  have ncl:=nin (hx0.same sA0) nB
  have nrp:=nin ((hx0.same sAB).same sC) nD
  have nclF:cl∉fx t X ru pp:=λz=>ncl (hX _ z)
  have nrpF:rp∉fx t X ru pp:=λz=>nrp (hX _ z)
  have clrp:cl≠rp:=qH (sC _ _ hB) nD
  have clnl:nl≠cl:=qH (sA0 _ _ hN0) nB
  have rpnl:nl≠rp:=qH (sC _ _ (sAB _ _ hN0)) nD
  have lst0:Y0.s.lst=0:=by
   obtain⟨m,e,hm,_⟩:=q5V ne0
   unfold XS.lst
   rw[e]
   rw[ecl0]at hm
   exact(List.mem_replicate.mp hm).2
  have frC:∀b∈cl::rp::fx t X ru pp,H b=none∨∃ps,H b=some (.tbl ps):=λb hb=>by
   rcases kL.mp hb with e|hb
   ·rw[e];exact(rt0.same sA0).fr nB
   ·rcases kL.mp hb with e|hb
    ·rw[e];exact((rt0.same sAB).same sC).fr nD
    ·exact frX b hb
  have hS2:=(rt0.same sAD).sq hS
  refine⟨_,rfl,a,_,rfl,.inl hS2,_,_,rfl,?_⟩
  obtain⟨hi,eh,h46,hln⟩:∃h:Nat,(if(46:Int)<((ns.map V.int).length:Nat)then(46:Int)else((ns.map V.int).length:Nat))=(h:Int)∧h≤46∧h≤ns.length:=by
   rw[h9]
   by_cases z:(46:Int)<(ns.length:Nat)
   ·exact⟨46,kI z,by omega,by omega⟩
   ·exact⟨ns.length,kF z,by omega,by omega⟩
  rw[eh]
  refine⟨_,_,rfl,⟨by decide,by decide,by omega,by omega⟩,?_⟩
  have pr0:Paired (Tup2 HD) [.ref tp0] ([]++[(Y0.s.lst,(0:Int))]):=.cons ⟨tp0,rfl,by rw[lst0];exact sD _ _ hC⟩ .nil
  refine q0A (λu σ' H'=>∃y15 y16 y17 y18 Y KD rs l tt,σ'=F y11 (some (.ref cl)) (some (.ref rp)) (some (.int ((Y.ps.length:Nat):Int))) y15 y16 y17 y18∧XX t H' X kt 64 (sh:Int) ru [] pp Y∧Yd kt 64 sh Y KD (14+u)∧H' cl=some (.lst (Y.s.cl.map V.int))∧H' rp=some (.lst rs)∧Paired (Tup2 H') rs (l++[(Y.s.lst,tt)])∧l.length=u∧RwO c (l++[(Y.s.lst,tt)])∧Y.s.q.B=c+1+i∧Y.s.q.P=P1∧(∀m∈KD.map (·.1),m∈ms)∧H' nl=some (.lst (ms.map V.int))∧RE H H') ⟨none,none,none,none,Y0,KD0,_,[],0,by rw[eF,eps0];rfl,hxD,⟨yd0.d,yd0.lf,yd0.m3,yd0.ge,by have:=yd0.rcn;omega,by have:=yd0.psn;omega⟩,hclD,hD,pr0,rfl,by unfold RwO;simp,eB00,eP00,sub0,hND,rt0.same sAD⟩ (λu σ' H3 hu' hp=>?_) (λσ' H3 hp=>?_)
  ·obtain⟨y15,y16,y17,y18,Y,KD,rs,l,tt,eσ,hx,yd,hcl,hrp,pr,ll,rw0,eB,eP,sub,hN,rt⟩:=hp
   rw[eF]at eσ
   subst eσ
   have hi6:6+u<ns.length:=by omega
   have u45:u<45:=by omega
   have at1:atI (ns.map V.int) (6+(u:Int))=some (.int ns[6+u]):=by
    refine(show atI (ns.map V.int) ((6+u:Nat):Int)=_ from yP ?_)
    rw[mD,hU hi6]
    rfl
   generalize ns[6+u]=z at at1
   have hS3:=rt.sq hS
   refine⟨_,rfl,_,rfl,a,_,_,.int z,rfl,rfl,hS3,at1,?_⟩
   refine⟨_,rfl,_,rfl,iI (iI ⟨.inr ⟨by decide,by decide⟩,iI ⟨(by show(0:Int)<1000003;decide),_,rfl,nl,ms,_,rfl,hN,by omega,by omega,λy ym=>?_⟩⟩)⟩
   obtain⟨y0',y1⟩:=bms y ym
   have y2:y∈KD.map (·.1)∨KD.length<sh:=by
    by_cases zz:y∈KD.map (·.1)
    ·exact .inl zz
    ·have:=qF4 (l:=y::KD.map (·.1)) (m:=ms) (m9.mpr ⟨zz,yd.d.nd⟩) (λx hx=>by
      rcases kL.mp hx with e|hx
      ·rw[e];exact ym
      ·exact sub x hx)
     rw[mG,h9]at this
     exact .inr (by omega)
   have rcn:=yd.rcn
   have psn:=yd.psn
   have nd17:=q84 yd.d.x
   have ebc:Y.s.q.B-(1+kt.ie)=c:=by rw[eB,eie];omega
   refine⟨λσ' H'=>∃Y' KD' qs,σ'=F y11 (some (.ref cl)) (some (.ref rp)) (some (.int ((Y.ps.length:Nat):Int))) (some (.int (6+(u:Int)))) (some (.int z)) (some (.int y)) y18∧XX t H' X kt 64 (sh:Int) ru [] pp Y'∧Yd kt 64 sh Y' KD' (14+u+1)∧Wk Y Y' qs c∧Y'.s.q.B=c+1+i∧Y'.s.q.P=P1∧(∀m∈KD'.map (·.1),m∈ms)∧Keep (fx t X ru pp) H3 H',?_,?_⟩
   ·refine⟨_,rfl,iI ⟨(by show(0:Int)<8;decide),rfl,_,rfl,ite2 (λ_=>?_) (λ_=>?_)⟩⟩
    ·refine(iV rfl (iM hx.j.o rfl ⟨_,rfl,sz1,λl0 H5 n5 s5 h5=>?_⟩))
     refine⟨X,kt,64,_,ru,[],pp,Y,l0,[y],rfl,hx.same s5,ev,h5,λm hm=>by rw[hV.mp hm];exact inBi y0' (by omega),λzz H6 s6=>?_,λzz=>?_⟩
     ·exact⟨Y,KD,[],by rw[eF];rfl,(hx.same s5).same s6,⟨yd.d,yd.lf,yd.m3,yd.ge,by omega,by omega⟩,Wk.nil,eB,eP,sub,Keep.same (s5.trans s6)⟩
     ·have z':y∈KD.map (·.1):=dQ λw=>zz (qBY.2.mpr λv=>w (yd.d.hl.mp v))
      have hc:=yd.d.can64 (λw=>by rw[w]at z';cases z')
      obtain⟨Z,qs,p,hZ,ao,wq,lq,lfZ,m3Z⟩:=yd.ask (v:=XS.bits (rst Y.s.hl (gvn Y.s.hl [y]))) ev (by decide) (by decide) hc
      rw[ebc]at lq
      refine⟨17,_,by omega,by omega,hc.imp id λw=>w.1,hZ,λH6 h6 k6=>?_⟩
      have:=ao.rl
      have:=ao.ln
      have d':=yd.d.gave ao (g:=gvn Y.s.hl [y]) (λm hm=>by rw[((qBY.1 m).mp hm).1];omega)
      obtain⟨_,f2,f3,_,f5,f6,f7,_⟩:=q33 ao.x (gvn Y.s.hl [y])
      refine⟨_,_,qs,by rw[eF];rfl,h6,⟨d',f5.trans lfZ,m3Z,by show _ *(Z.s.forgs _).q.P≤(Z.s.forgs _).rmX;rw[f7,f2];exact ao.ge,by show(Z.s.forgs _).rc.length≤_;rw[f3];omega,by show Z.ps.length≤_;rw[ao.ps,kP];omega⟩,(wq.wk lq).forgs ao.x _,f6.trans (ao.eB.trans eB),f7.trans (ao.eP.trans eP),λm hm=>?_,(Keep.same s5).trans k6⟩
      obtain⟨q,hq,e⟩:=kZ.mp hm
      exact sub m (kZ.mpr ⟨q,(mJ.mp hq).1,e⟩)
    ·have hc:=yd.d.can y0' y1 y2
     have ff:¬(hold Y.s.q y=false∧(sh:Int)≤((hdN Y.s.q.V).length:Int)):=λ⟨f1,f2⟩=>by
      have f1:decide (y∈(Y.s.q.V.map (·.1)).filter λn=>decide (n≠64))=false:=f1
      rw[decide_eq_decide.mpr yd.d.pm.mem_iff]at f1
      have f1:=dY f1
      have pl:=yd.d.pm.length_eq
      rw[h9]at pl
      have f2:(sh:Int)≤((((Y.s.q.V.map (·.1)).filter λn=>decide (n≠64)).length:Nat):Int):=f2
      rcases y2 with w|w
      ·exact f1 w
      ·omega
     have mv:=q0P (z*48271+(6+(u:Int))) (10 ^ (30:Int).toNat) (by decide)
     have mv2:(z*48271+(6+(u:Int)))%10 ^ (30:Int).toNat≤10 ^ 30-1:=by have:_ <(10:Int) ^ 30:=mv.2;omega
     obtain⟨Z,qs,p,hZ,ao,wq,lq,lfZ,m3Z⟩:=yd.ask (v:=(z*48271+(6+(u:Int)))%10 ^ (30:Int).toNat) ev y0' (by omega) hc
     rw[ebc]at lq
     refine(iV rfl (iM hx.j.o rfl ⟨_,rfl,_,rfl,iI ⟨.inr ⟨by decide,by decide⟩,_,rfl,iI (iI ⟨⟨by decide,by decide,by decide⟩,iI ⟨(by show(0:Int)<10 ^ (30:Int).toNat;decide),X,kt,64,_,ru,[],pp,Y,y,_,17,_,rfl,hx,ev,by omega,by omega,by decide,inBi y0' (by omega),inBi mv.1 mv2,ff,hc.imp id λw=>w.1,hZ,λH5 h5 k5=>?_⟩⟩)⟩⟩))
     have:=ao.rl
     have:=ao.ln
     refine⟨Z,_,qs,by rw[eF];rfl,h5,⟨yd.d.wrote y0' y1 y2 ao,lfZ,m3Z,ao.ge,by omega,by rw[ao.ps,kP];omega⟩,wq.wk lq,ao.eB.trans eB,ao.eP.trans eP,λm hm=>?_,k5⟩
     obtain⟨q,hq,e⟩:=kZ.mp hm
     rw[q5T yd.d.nd,jD]at hq
     rcases hq with rfl|hq
     ·rw[←e];exact ym
     ·exact sub m (kZ.mpr ⟨q,hq.1,e⟩)
   rintro σ' H4 ⟨Y',KD',qs,eσ,hx4,yd4,wk,eB4,eP4,sub4,k4⟩
   rw[eF]at eσ
   subst eσ
   obtain⟨psv,hpp,ppd⟩:=hx4.hp
   have lpv:=ppd.len
   rw[wk.ps]at lpv ppd
   rw[kP]at lpv
   refine(iV rfl (iF hx4.j.o T.cl_Even T.na_Even_papers rfl ⟨_,rfl,_,rfl,pp,psv,hx4.ep,SqL.of hpp,λpl npl=>?_⟩))
   rw[qEV (by omega)]
   have s5:Same H4 (upd H4 pl (.lst (psv.drop Y.ps.length))):=Same.upd npl
   have hpl:(upd H4 pl (.lst (psv.drop Y.ps.length))) pl=some (.lst (psv.drop Y.ps.length)):=qI
   generalize upd H4 pl (.lst (psv.drop Y.ps.length))=H5 at s5 hpl ⊢
   have hx5:=hx4.same s5
   have hcl5:=s5 _ _ (k4.k _ _ nclF hcl)
   have hrp5:=s5 _ _ (k4.k _ _ nrpF hrp)
   have plcl:pl≠cl:=(qH (k4.k _ _ nclF hcl) npl).symm
   have plrp:pl≠rp:=(qH (k4.k _ _ nrpF hrp) npl).symm
   have pd5:Paired (PapA H5 (fx t X ru pp)) (psv.drop Y.ps.length) qs:=by
    have:=qBS Y.ps.length ppd
    rw[List.drop_left]at this
    exact Paired.mapP this λ_ _ z=>z.keep (Keep.same s5) (G:=[]) (by simp)
   have ldr:(psv.drop Y.ps.length).length=qs.length:=pd5.len
   have bY:0<Y.s.q.B:=by omega
   have bY':0<Y'.s.q.B:=by omega
   have clne:Y.s.cl≠[]:=λz=>by have:=yd.d.x.w.lc;rw[z]at this;simp at this;omega
   have m3q:∀q∈qs,∀m∈q.mv,m.length=3:=λq hq=>yd4.m3 q (by rw[wk.ps];exact kN _ hq)
   have lqc:=wk.lq
   have wh':=wk.wh
   rw[eP]at wh'
   refine⟨_,rfl,_,rfl,pl,_,rfl,.inl (SqL.of hpl),iI ?_⟩
   refine⟨_,rfl,_,rfl,_,rfl,_,rfl,pl,cl,_,Y.s.cl,fx t X ru pp,qs,P1,c,rfl,hpl,pd5,hcl5,plcl,m3q,by omega,by omega,clne,by rw[yd.d.x.w.lc];omega,by omega,wh',lqc,λq2 m M hm le hM le'=>?_,λH6 hcl6 k6=>?_⟩
   ·rw[←wk.cl]at hM le'
    rw[q58 yd.d.x.w bY hm le,q58 yd4.d.x.w bY' hM le']
    exact wk.l2 q2
   rw[←wk.cl]at hcl6
   have hx6:=hx5.frn yd4.m3 hcl5 (qBX clne) ncl k6
   have hrp6:=k6.k _ _ (λz=>clrp (hV.mp z).symm) hrp5
   have hpl6:=k6.k _ _ (λz=>plcl (hV.mp z)) hpl
   have k36:Keep (cl::rp::fx t X ru pp) H3 H6:=((k4.mono λy hy=>hX _ (hX _ hy)).trans (Keep.same s5)).trans (k6.mono λy hy=>by rw[hV.mp hy];simp)
   have pr6:Paired (Tup2 H6) rs (l++[(Y.s.lst,tt)]):=Paired.mapP pr λv d ⟨p',e',h'⟩=>⟨p',e',k36.tp _ _ h'⟩
   have lrs:=pr6.len
   rw[kP,mP]at lrs
   refine⟨_,rfl,iteF ?_⟩
   refine⟨_,rfl,.inl ⟨rfl,_,SqL.of hrp6⟩,_,rfl,cl,_,rfl,SqL.of hcl6,by rw[yd4.d.x.w.lc];omega,λM hM le=>?_⟩
   rw[q58 yd4.d.x.w bY' hM le]
   obtain⟨vl,evl,tl,rfl,htl⟩:∃vl,rs[rs.length-1]?=some vl∧∃tl,vl=.ref tl∧H6 tl=some (.tup [.int Y.s.lst,.int tt]):=by
    have hlt:rs.length-1<rs.length:=by omega
    obtain⟨d,ed,p',e',h'⟩:=Paired.at pr6 (hU hlt)
    refine⟨_,hU hlt,p',e',?_⟩
    rw[gP (by omega),show rs.length-1-l.length=0 by omega]at ed
    cases ed
    exact h'
   refine⟨_,rfl,_,rfl,rp,rs,-1,.ref tl,rfl,rfl,SqL.of hrp6,by rw[qDW (by omega)];exact evl,iT (k:=1) (v:=.int tt) (SqT.of htl) rfl ⟨_,rfl,pl,_,rfl,.inl (SqL.of hpl6),iI ⟨_,_,rfl,_,_,rfl,rfl,sz2,λtq H7 n7 s7 h7=>⟨rp,rs,_,rfl,rfl,s7 _ _ hrp6,by omega,?_⟩⟩⟩⟩
   rw[ldr]at h7
   have hrp7:=s7 _ _ hrp6
   have hx7:=hx6.same s7
   have fr7:Frn H7 rs:=by
    cases rs with
    |nil=>simp at lrs
    |cons v r=>
     obtain⟨d,_,p',e',h'⟩:=Paired.at (i:=0) pr6 rfl
     refine⟨v,r,rfl,λa xs e h=>?_⟩
     rw[e']at e
     cases e
     rw[s7 _ _ h']at h
     cases h
     show 2<3
     decide
   have k8:=Keep.upd (F:=[rp]) (o:=.lst (rs++[.ref tq])) hrp7 (λ_ z=>by cases z) (by simp)
   have hrp8:(upd H7 rp (.lst (rs++[.ref tq]))) rp=_:=qI
   generalize upd H7 rp (.lst (rs++[.ref tq]))=H8 at k8 hrp8 ⊢
   have hx8:=hx7.frn yd4.m3 hrp7 fr7 nrp k8
   have k38:Keep (cl::rp::fx t X ru pp) H3 H8:=(k36.trans (Keep.same s7)).trans (k8.mono λy hy=>by rw[hV.mp hy];simp)
   have pr8:Paired (Tup2 H8) (rs++[.ref tq]) (l++[(Y.s.lst,tt)]++[(Y'.s.lst,tt+(if(qs.length:Int)-1>0 then(qs.length:Int)-1 else 0))]):=L2.Paired.snoc (Paired.mapP pr6 λv d ⟨p',e',h'⟩=>⟨p',e',k8.tp _ _ (s7 _ _ h')⟩) ⟨tq,rfl,k8.tp _ _ h7⟩
   refine⟨some (.int (6+(u:Int))),some (.int z),some (.int y),some (.ref pl),Y',KD',rs++[.ref tq],l++[(Y.s.lst,tt)],tt+(if(qs.length:Int)-1>0 then(qs.length:Int)-1 else 0),?_,hx8,yd4,k8.k _ _ (λz=>clrp (hV.mp z)) (s7 _ _ hcl6),hrp8,pr8,by rw[kP,ll];rfl,wk.row (by omega) rw0,eB4,eP4,sub4,k38.k _ _ (λz=>?_) hN,rt.keep k38 frC⟩
   ·rw[eF,wk.ps,kP,sL,←ldr]
    rfl
   ·rcases kL.mp z with e|z
    ·exact clnl e
    ·rcases kL.mp z with e|z
     ·exact rpnl e
     ·exact nlF z
  obtain⟨y15,y16,y17,y18,Y,KD,rs,l,tt,eσ,hx,yd,hcl,hrp,pr,ll,rw0,eB,eP,sub,hN,rt⟩:=hp
  rw[eF]at eσ
  subst eσ
  have bY:0<Y.s.q.B:=by omega
  obtain⟨m,hc,okm,elf,erc,ecl,ebl,_,_,_⟩:=hx.chip
  refine⟨_,rfl,_,rfl,_,rfl,by omega,by omega,λD H4 nD s4 hD=>?_⟩
  rw[mK]
  refine q47 (D:=D) (λj H5=>Same H3 H5∧H5 D=some (.lst ((((List.range (c+1+i)).take j).map λb=>Y.s.cl.getD b 0).map V.int))) ⟨s4,hD⟩ (λj H5 hj hp=>?_) (λH5 hp=>?_)
  ·obtain⟨sm,hd⟩:=hp
   have hj':j<((List.range (c+1+i))).length:=by rw[mZ];exact hj
   refine⟨_,rfl,X.c,X.a.dx,_,rfl,(hc.same sm).ins,rfl,_,rfl,X.c,X.a,m,_,rfl,hc.same sm,okm,by omega,by omega,?_⟩
   rw[show(0+(j:Int)).toNat=j by omega,ecl]
   refine⟨_,hd,?_,λb o e=>?_,?_⟩
   ·rw[h9,h9,gL,mZ]
    omega
   ·rw[qD (qH e nD)]
    exact sm _ _ e
   ·rw[qI,←mW hj',m7,m7]
    simp
  ·obtain⟨sm,hd⟩:=hp
   rw[List.take_of_length_le (by rw[mZ];exact kM _),←eB,qJJ yd.d.x.w.lc]at hd
   have hx5:=hx.same sm
   have hcl5:=sm _ _ hcl
   refine⟨qE7 (SqL.of hcl5) (SqL.of hd),_,rfl,iteF ?_⟩
   refine(iV rfl (iM hx5.j.o rfl ⟨X,kt,_,_,Y.s,rfl,hx5.j,λH6 s6=>?_⟩))
   refine⟨_,rfl,cl,Y.s.cl,rfl,SqL.of (s6 _ _ hcl5),by rw[yd.d.x.w.lc];omega,λM hM le=>⟨rfl,_,rfl,?_⟩⟩
   rw[q58 yd.d.x.w bY hM le,v7,hG rfl]
   refine iteF ⟨_,rfl,_,rfl,rp,rs,c,_,rfl,s6 _ _ (sm _ _ hrp),Paired.mapP pr λv d ⟨p',e',h'⟩=>⟨p',e',s6 _ _ (sm _ _ h')⟩,?_,by omega,rw0,k _⟩
   rw[kP,mP]
   omega
theorem qJL{P:Program}{w:World}{K:W.Frag}{mg:Str→Option Value}{t:Adr}(T:Txt K mg t)(S:Fns K t)(B:BmIn base mg):S.law.Ok0 P w mg base 18 (q48 K [t.T_Plain_free,t.T_Even_block_to_change]):=Classical.byContradiction λn=>by
 have hs:hkB hkE:=by
  unfold hkE
  exact Classical.epsilon_spec ⟨⟨P,w,K,mg,t⟩,S,base,T,B,n⟩
 obtain⟨S',b',T',B1,n'⟩:=hs
 exact n' (qJK T' S' B1)
end
theorem qJM{l:W.OpenLaw}{w:World}{K:W.Frag}{h:Heap}{mg:Str→Option Value}{fa z0 z1 z2 z3 z4 z5 z6 z7 z8 z9 z10 z11 z12 z13 z14 z15 z16 z17 z18 z19 z20 z21 z22 z23 z24 z25 z26 z27 z28 z29 z30 z31 z32 z33 z34 z35 z36 z37 z38 z39 z40 z41 z42 z43 z44 z45 z46 z47 z48 z49 z50 z51 z52 z53 z54 z55 z56 z57 z58 z59 z60 z61 z62 z63 z64 z65 z66 z67 z68 z69 z70 z71 z72 z73 z74 z75 z76 z77 z78 z79 z80 z81 z82 z83 z84 z85 z86 z87 z88 z89 z90 z91 z92 z93 z94:Addr}(X:K.In h)(G:h.Ns mainGlobals mg)(hfa:mg "law"=some (.ref fa))
 {z95 z96 z107 z108 z119 z120 z131 z132:Option Addr} {z97 z109 z121 z133:Array (Option Value)} {z98 z99 z100 z101 z103 z110 z111 z112 z113 z115 z122 z123 z124 z125 z126 z127 z134 z135 z136 z137 z138 z139:Value} {z128:Option Addr} {z129:Nat} {z130:Array (Option Value)} {e0_Chip_init:Tok} {z140:Option Addr} {z141:Nat} {z142:Array (Option Value)} {e0_Terms_init:Tok} {e1_Terms_init:Tok} {tk_MOST_TOLD:Tok} {tk_ROLL:Tok} {tk_NAMES:Tok}
 (z143:W.nsIn K mainGlobals "Book"=some (some (.ref z82)))
 (z144:Cls K z82)
 (z145:qO K z82 "blocks")
 (z146:qO K z82 "pages")
 (z147:qO K z82 "stamp")
 (z148:qO K z82 "where")
 (z149:qO K z82 "live")
 (z150:qO K z82 "filled")
 (z151:qO K z82 "born")
 (z152:Meth K z82 "mark" z11)
 (z153:Meth K z82 "note" z12)
 (z154:Meth K z82 "forget" z13)
 (z155:Meth K z82 "emptied" z14)
 (z156:Meth K z82 "live_pages" z15)
 (z157:Meth K z82 "held" z16)
 (z158:Mk K z82 z10)
 (z159:W.nsIn K mainGlobals "Plain"=some (some (.ref z83)))
 (z160:W.nsIn K mainGlobals "Even"=some (some (.ref z84)))
 (z161:Cls K z84)
 (z162:qO K z84 "chip")
 (z163:qO K z84 "terms")
 (z164:qO K z84 "book")
 (z165:qO K z84 "rule")
 (z166:qO K z84 "papers")
 (z167:Meth K z84 "least" z45)
 (z168:Meth K z84 "clearable" z46)
 (z169:Meth K z84 "options" z47)
 (z170:Meth K z84 "choice" z48)
 (z171:Meth K z84 "block_to_change" z49)
 (z172:Meth K z84 "reserve" z32)
 (z173:Meth K z84 "tally" z33)
 (z174:Meth K z84 "space" z34)
 (z175:Meth K z84 "full_ones" z35)
 (z176:Meth K z84 "with_dead_page" z36)
 (z177:Meth K z84 "choice_by_rule" z37)
 (z178:Meth K z84 "moved" z38)
 (z179:Meth K z84 "value_to_move" z39)
 (z180:Meth K z84 "wiped" z40)
 (z181:Meth K z84 "clear_out" z41)
 (z182:Meth K z84 "make_room" z42)
 (z183:Meth K z84 "make_ready" z43)
 (z184:Meth K z84 "make_rooms" z44)
 (z185:Meth K z84 "good" z18)
 (z186:Meth K z84 "free" z19)
 (z187:Meth K z84 "part" z20)
 (z188:Meth K z84 "spot" z21)
 (z189:Meth K z84 "ready" z22)
 (z190:Meth K z84 "set_down" z23)
 (z191:Meth K z84 "lay" z24)
 (z192:Meth K z84 "write" z25)
 (z193:Meth K z84 "give_up" z26)
 (z194:Meth K z84 "held" z27)
 (z195:Meth K z84 "check_sheet" z28)
 (z196:Meth K z84 "check_share" z29)
 (z197:Mk K z84 z31)
 (z198:W.nsIn K mainGlobals "Chip"=some (some (.ref z85)))
 (z199:Cls K z85)
 (z200:qO K z85 "blocks")
 (z201:qO K z85 "pages")
 (z202:qO K z85 "most")
 (z203:qO K z85 "limits")
 (z204:qO K z85 "borne")
 (z205:qO K z85 "clearings")
 (z206:qO K z85 "deed_counts")
 (z207:qO K z85 "broken")
 (z208:qO K z85 "deeds_left")
 (z209:qO K z85 "record")
 (z210:Meth K z85 "put" z52)
 (z211:Meth K z85 "wipe" z53)
 (z212:Meth K z85 "read" z54)
 (z213:Meth K z85 "is_dark" z55)
 (z214:Meth K z85 "cleared" z56)
 (z215:Meth K z85 "failed" z57)
 (z216:Meth K z85 "check_page" z58)
 (z217:Meth K z85 "check_block" z59)
 (z218:Meth K z85 "check_power" z60)
 (z219:Meth K z85 "check_deed" z61)
 (z220:Meth K z85 "is_spent" z62)
 (z221:Meth K z85 "do_deed" z63)
 (z222:Mk K z85 z51)
 (z223:W.nsIn K mainGlobals "Rule"=some (some (.ref z86)))
 (z224:Cls K z86)
 (z225:Meth K z86 "goes_ahead" z66)
 (z226:Meth K z86 "choose" z67)
 (z227:W.makesIn K z86=true)
 (z228:W.findIn K (.ref z86) "__init__"=some (some (.builtin "object.__init__")))
 (z229:W.keepIn K (.ref z86)=true)
 (z230:W.nsIn K mainGlobals "Fewest"=some (some (.ref z87)))
 (z231:Cls K z87)
 (z232:Meth K z87 "goes_ahead" z68)
 (z233:Meth K z87 "choose" z67)
 (z234:W.makesIn K z87=true)
 (z235:W.findIn K (.ref z87) "__init__"=some (some (.builtin "object.__init__")))
 (z236:W.keepIn K (.ref z87)=true)
 (z237:W.nsIn K mainGlobals "Eldest"=some (some (.ref z88)))
 (z238:Cls K z88)
 (z239:Meth K z88 "goes_ahead" z69)
 (z240:Meth K z88 "choose" z67)
 (z241:W.makesIn K z88=true)
 (z242:W.findIn K (.ref z88) "__init__"=some (some (.builtin "object.__init__")))
 (z243:W.keepIn K (.ref z88)=true)
 (z244:W.nsIn K mainGlobals "Worth"=some (some (.ref z89)))
 (z245:Cls K z89)
 (z246:Meth K z89 "goes_ahead" z70)
 (z247:Meth K z89 "choose" z67)
 (z248:W.makesIn K z89=true)
 (z249:W.findIn K (.ref z89) "__init__"=some (some (.builtin "object.__init__")))
 (z250:W.keepIn K (.ref z89)=true)
 (z251:W.nsIn K mainGlobals "Terms"=some (some (.ref z90)))
 (z252:Cls K z90)
 (z253:qO K z90 "blocks")
 (z254:qO K z90 "pages")
 (z255:qO K z90 "sheets")
 (z256:qO K z90 "share")
 (z257:qO K z90 "ill")
 (z258:qO K z90 "spread")
 (z259:Meth K z90 "closed" z72)
 (z260:Mk K z90 z71)
 (z261:W.nsIn K mainGlobals "PowerGone"=some (some (.ref z91)))
 (z262:W.excIn K z91 bmVE "ValueError.__new__"=true)
 (z263:W.nsIn K mainGlobals "NoRoom"=some (some (.ref z92)))
 (z264:W.excIn K z92 bmVE "ValueError.__new__"=true)
 (z265:ClM K z83 "__init__" z17)
 (z266:W.codeHdIn K z0 z1=true)
 (z267:W.codeHdIn K z2 z3=true)
 (z268:z1≠z3)
 (z269:GFn K "is_whole" z4)
 (z270:GFn K "is_within" z5)
 (z271:GFn K "is_shape" z6)
 (z272:GFn K "is_value" z7)
 (z273:GFn K "mark_of" z8)
 (z274:GFn K "bits_of" z9)
 (z275:GFn K "paper_of" z30)
 (z276:GFn K "limits_of" z50)
 (z277:GFn K "is_unbeaten" z64)
 (z278:GFn K "first_unbeaten" z65)
 (z279:GFn K "_law_cell_at" z73)
 (z280:GFn K "_law_shape" z74)
 (z281:GFn K "_law_names" z75)
 (z282:GFn K "_law_pick" z76)
 (z283:GFn K "_law_rule" z77)
 (z284:GFn K "_law_changed" z78)
 (z285:GFn K "_law_papers" z79)
 (z286:GFn K "_law_rows" z80)
 (z287:W.nsIn K mainGlobals "MOST_TOLD"=some (some (.int 1000000 tk_MOST_TOLD)))
 (z288:W.nsIn K mainGlobals "ROLL"=some (some (.int 64 tk_ROLL)))
 (z289:W.nsIn K mainGlobals "NAMES"=some (some (.int 128 tk_NAMES)))
 (z290:W.nsIn K mainGlobals "bool"=some none)
 (z291:W.nsIn K mainGlobals "int"=some none)
 (z292:W.nsIn K mainGlobals "isinstance"=some none)
 (z293:W.nsIn K mainGlobals "len"=some none)
 (z294:W.nsIn K mainGlobals "list"=some none)
 (z295:W.nsIn K mainGlobals "max"=some none)
 (z296:W.nsIn K mainGlobals "min"=some none)
 (z297:W.nsIn K mainGlobals "range"=some none)
 (z298:W.nsIn K mainGlobals "sorted"=some none)
 (z299:FnX K "is_whole" "is_whole" q34 z4)
 (z300:FnX K "is_within" "is_within" q1O z5)
 (z301:FnX K "is_shape" "is_shape" q35 z6)
 (z302:FnX K "is_value" "is_value" q36 z7)
 (z303:FnX K "mark_of" "mark_of" q4B z8)
 (z304:FnX K "bits_of" "bits_of" q4C z9)
 (z305:FnX K "__init__" "Book.__init__" q1P z10)
 (z306:FnX K "mark" "Book.mark" q1Q z11)
 (z307:FnX K "note" "Book.note" q1R z12)
 (z308:FnX K "forget" "Book.forget" zS z13)
 (z309:FnX K "emptied" "Book.emptied" zA z14)
 (z310:FnX K "live_pages" "Book.live_pages" uU z15)
 (z311:FnX K "held" "Book.held" q1S z16)
 (z312:FnX K "__init__" "Plain.__init__" q0T z17)
 (z313:FnX K "good" "Plain.good" q0U z18)
 (z314:K.lookup z19=some ⟨z98,z95,.func (W.fnOf "free" "Plain.free" (yB jQ) (jP jQ) (qF jQ) .none z99 z100 z101 z96 (.ref z0) z103),z97⟩)
 (z315:W.codeIn K (.ref z0) "Plain.free"=true)
 (z316:FnX K "part" "Plain.part" q0V z20)
 (z317:FnX K "spot" "Plain.spot" q0W z21)
 (z318:FnX K "ready" "Plain.ready" zT z22)
 (z319:FnX K "set_down" "Plain.set_down" v9 z23)
 (z320:FnX K "lay" "Plain.lay" q1T z24)
 (z321:FnX K "write" "Plain.write" zU z25)
 (z322:FnX K "give_up" "Plain.give_up" vK z26)
 (z323:FnX K "held" "Plain.held" q0X z27)
 (z324:FnX K "check_sheet" "Plain.check_sheet" yY z28)
 (z325:FnX K "check_share" "Plain.check_share" yZ z29)
 (z326:FnX K "paper_of" "paper_of" q37 z30)
 (z327:FnX K "__init__" "Store.__init__" q0Y z31)
 (z328:FnX K "reserve" "Store.reserve" vL z32)
 (z329:FnX K "tally" "Store.tally" zV z33)
 (z330:FnX K "space" "Store.space" zW z34)
 (z331:FnX K "full_ones" "Store.full_ones" uV z35)
 (z332:FnX K "with_dead_page" "Store.with_dead_page" yJ z36)
 (z333:FnX K "choice_by_rule" "Store.choice_by_rule" yK z37)
 (z334:FnX K "moved" "Store.moved" zX z38)
 (z335:FnX K "value_to_move" "Store.value_to_move" yN z39)
 (z336:FnX K "wiped" "Store.wiped" zY z40)
 (z337:FnX K "clear_out" "Store.clear_out" uW z41)
 (z338:FnX K "make_room" "Store.make_room" uX z42)
 (z339:FnX K "make_ready" "Store.make_ready" uG z43)
 (z340:FnX K "make_rooms" "Store.make_rooms" uH z44)
 (z341:FnX K "least" "Even.least" q0Z z45)
 (z342:FnX K "clearable" "Even.clearable" vA z46)
 (z343:FnX K "options" "Even.options" zB z47)
 (z344:FnX K "choice" "Even.choice" zZ z48)
 (z345:K.lookup z49=some ⟨z110,z107,.func (W.fnOf "block_to_change" "Even.block_to_change" (yB qU) (jP qU) (qF qU) .none z111 z112 z113 z108 (.ref z2) z115),z109⟩)
 (z346:W.codeIn K (.ref z2) "Even.block_to_change"=true)
 (z347:FnX K "limits_of" "limits_of" q1U z50)
 (z348:K.lookup z51=some ⟨z122,z119,.func (W.fnOf "__init__" "Chip.__init__" (yB uM) (jP uM) (qF uM) (.ref z93) z123 z124 z125 z120 z126 z127),z121⟩)
 (z349:W.codeIn K z126 "Chip.__init__"=true)
 (z350:K.lookup z93=some ⟨.type "tuple",z128,.seq #[.int 1000000 e0_Chip_init,.none] z129,z130⟩)
 (z351:FnX K "put" "Chip.put" q38 z52)
 (z352:FnX K "wipe" "Chip.wipe" q1V z53)
 (z353:FnX K "read" "Chip.read" q1W z54)
 (z354:FnX K "is_dark" "Chip.is_dark" zC z55)
 (z355:FnX K "cleared" "Chip.cleared" zD z56)
 (z356:FnX K "failed" "Chip.failed" q00 z57)
 (z357:FnX K "check_page" "Chip.check_page" uY z58)
 (z358:FnX K "check_block" "Chip.check_block" uI z59)
 (z359:FnX K "check_power" "Chip.check_power" uJ z60)
 (z360:FnX K "check_deed" "Chip.check_deed" uZ z61)
 (z361:FnX K "is_spent" "Chip.is_spent" vM z62)
 (z362:FnX K "do_deed" "Chip.do_deed" zE z63)
 (z363:FnX K "is_unbeaten" "is_unbeaten" q01 z64)
 (z364:FnX K "first_unbeaten" "first_unbeaten" vB z65)
 (z365:FnX K "goes_ahead" "Rule.goes_ahead" v3 z66)
 (z366:FnX K "choose" "Rule.choose" q02 z67)
 (z367:FnX K "goes_ahead" "Fewest.goes_ahead" u6 z68)
 (z368:FnX K "goes_ahead" "Eldest.goes_ahead" u7 z69)
 (z369:FnX K "goes_ahead" "Worth.goes_ahead" uK z70)
 (z370:K.lookup z71=some ⟨z134,z131,.func (W.fnOf "__init__" "Terms.__init__" (yB yW) (jP yW) (qF yW) (.ref z94) z135 z136 z137 z132 z138 z139),z133⟩)
 (z371:W.codeIn K z138 "Terms.__init__"=true)
 (z372:K.lookup z94=some ⟨.type "tuple",z140,.seq #[.int 0 e0_Terms_init,.int 1000000 e1_Terms_init] z141,z142⟩)
 (z373:FnX K "closed" "Terms.closed" zF z72)
 (z374:FnX K "_law_cell_at" "_law_cell_at" q03 z73)
 (z375:FnX K "_law_shape" "_law_shape" q1X z74)
 (z376:FnX K "_law_names" "_law_names" q1Y z75)
 (z377:FnX K "_law_pick" "_law_pick" q39 z76)
 (z378:FnX K "_law_rule" "_law_rule" q3A z77)
 (z379:FnX K "_law_changed" "_law_changed" q04 z78)
 (z380:FnX K "_law_papers" "_law_papers" q10 z79)
 (z381:FnX K "_law_rows" "_law_rows" q3B z80)
 (z382:W.nsIn K mainGlobals "law"=some (some (.ref z81)))
 (z383:FnX K "law" "law" qEY z81):
 ∃fd:FuncData,(∀(s:Shared) (v:Value),BindsTo s fd ⟨[v],[]⟩ [("_law_script",v)])∧∀base:Heap,K.In base→base.Ns mainGlobals mg→BmIn base mg→FnOk l.prog w K mg base (CX0) 18 fa fd ["_law_script"] (q48 K [z1,z3]):=by
 have e:=hfa.symm.trans (gR X G z382)
 cases e
 let t:Adr:=⟨z4,z5,z6,z7,z8,z9,z10,z11,z12,z13,z14,z15,z16,z17,z18,z19,z20,z21,z22,z23,z24,z25,z26,z27,z28,z29,z30,z31,z32,z33,z34,z35,z36,z37,z38,z39,z40,z41,z42,z43,z44,z45,z46,z47,z48,z49,z50,z51,z52,z53,z54,z55,z56,z57,z58,z59,z60,z61,z62,z63,z64,z65,z66,z67,z68,z69,z70,z71,z72,z73,z74,z75,z76,z77,z78,z79,z80,fa,z82,z83,z84,z85,z86,z87,z88,z89,z90,z91,z92,tk_MOST_TOLD,tk_ROLL,tk_NAMES,z0,z1,z2,z3⟩
 have T:Txt K mg t:=⟨gR X G z143,z144,z145,z146,z147,z148,z149,z150,z151,z152,z153,z154,z155,z156,z157,z158,gR X G z159,gR X G z160,z161,z162,z163,z164,z165,z166,z167,z168,z169,z170,z171,z172,z173,z174,z175,z176,z177,z178,z179,z180,z181,z182,z183,z184,z185,z186,z187,z188,z189,z190,z191,z192,z193,z194,z195,z196,z197,gR X G z198,z199,z200,z201,z202,z203,z204,z205,z206,z207,z208,z209,z210,z211,z212,z213,z214,z215,z216,z217,z218,z219,z220,z221,z222,gR X G z223,z224,z225,z226,⟨z227,z228,z229⟩,gR X G z230,z231,z232,z233,⟨z234,z235,z236⟩,gR X G z237,z238,z239,z240,⟨z241,z242,z243⟩,gR X G z244,z245,z246,z247,⟨z248,z249,z250⟩,gR X G z251,z252,z253,z254,z255,z256,z257,z258,z259,z260,gR X G z261,z262,gR X G z263,z264,z265,z266,z267,z268,gR X G z269.1,z269.2,gR X G z270.1,z270.2,gR X G z271.1,z271.2,gR X G z272.1,z272.2,gR X G z273.1,z273.2,gR X G z274.1,z274.2,gR X G z275.1,z275.2,gR X G z276.1,z276.2,gR X G z277.1,z277.2,gR X G z278.1,z278.2,gR X G z279.1,z279.2,gR X G z280.1,z280.2,gR X G z281.1,z281.2,gR X G z282.1,z282.2,gR X G z283.1,z283.2,gR X G z284.1,z284.2,gR X G z285.1,z285.2,gR X G z286.1,z286.2,gR X G z287,gR X G z288,gR X G z289,rS X G z290,rS X G z291,rS X G z292,rS X G z293,rS X G z294,rS X G z295,rS X G z296,rS X G z297,rS X G z298⟩
 let S:Fns K t:=⟨fn1 z299,
  fn1 z300,
  fn1 z301,
  fn1 z302,
  fn1 z303,
  fn1 z304,
  fn1 z305,
  fn1 z306,
  fn1 z307,
  fn1 z308,
  fn1 z309,
  fn1 z310,
  fn1 z311,
  fn1 z312,
  fn1 z313,
  _,
  FunT.mk' (st:=jQ) z314 z315,
  jS.all λus hl=>by rw[lnx hl];rfl,
  fn1 z316,
  fn1 z317,
  fn1 z318,
  fn1 z319,
  fn1 z320,
  fn1 z321,
  fn1 z322,
  fn1 z323,
  fn1 z324,
  fn1 z325,
  fn1 z326,
  fn1 z327,
  fn1 z328,
  fn1 z329,
  fn1 z330,
  fn1 z331,
  fn1 z332,
  fn1 z333,
  fn1 z334,
  fn1 z335,
  fn1 z336,
  fn1 z337,
  fn1 z338,
  fn1 z339,
  fn1 z340,
  fn1 z341,
  fn1 z342,
  fn1 z343,
  fn1 z344,
  _,
  FunT.mk' (st:=qU) z345 z346,
  jS.all λus hl=>by rw[lnx hl];rfl,
  fn1 z347,
  _,
  (.ref z93),
  FunD.mk' (st:=uM) z348 z349,
  λs us kin hl=>by rw[lnx (us:=us) (n:=5) (by simpa using hl)];exact rF rfl (kin _ _ z350) rfl rfl rfl,
  [.none],
  λs us kin hl=>by rw[lnx (us:=us) (n:=4) (by simpa using hl)];exact rF rfl (kin _ _ z350) rfl rfl rfl,
  (.cons rfl .nil),
  [.int 1000000 e0_Chip_init,.none],
  λs us kin hl=>by rw[lnx (us:=us) (n:=3) (by simpa using hl)];exact rF rfl (kin _ _ z350) rfl rfl rfl,
  (.cons ⟨_,rfl⟩ (.cons rfl .nil)),
  fn1 z351,
  fn1 z352,
  fn1 z353,
  fn1 z354,
  fn1 z355,
  fn1 z356,
  fn1 z357,
  fn1 z358,
  fn1 z359,
  fn1 z360,
  fn1 z361,
  fn1 z362,
  fn1 z363,
  fn1 z364,
  fn1 z365,
  fn1 z366,
  fn1 z367,
  fn1 z368,
  fn1 z369,
  _,
  (.ref z94),
  FunD.mk' (st:=yW) z370 z371,
  λs us kin hl=>by rw[lnx (us:=us) (n:=7) (by simpa using hl)];exact rF rfl (kin _ _ z372) rfl rfl rfl,
  [.int 1000000 e1_Terms_init],
  λs us kin hl=>by rw[lnx (us:=us) (n:=6) (by simpa using hl)];exact rF rfl (kin _ _ z372) rfl rfl rfl,
  (.cons ⟨_,rfl⟩ .nil),
  [.int 0 e0_Terms_init,.int 1000000 e1_Terms_init],
  λs us kin hl=>by rw[lnx (us:=us) (n:=5) (by simpa using hl)];exact rF rfl (kin _ _ z372) rfl rfl rfl,
  (.cons ⟨_,rfl⟩ (.cons ⟨_,rfl⟩ .nil)),
  fn1 z373,
  fn1 z374,
  fn1 z375,
  fn1 z376,
  fn1 z377,
  fn1 z378,
  fn1 z379,
  fn1 z380,
  fn1 z381,
  fn1 z383⟩
 exact⟨_,FnX.bind1 (by intros;rfl) S.law.F,λbase _ _ bm=>qJL T S bm⟩
theorem walk{l:W.OpenLaw}{q:Program}{loose:List Str}{XP:(Str→Option Value)→Heap→Prop}{YP:World→Heap→Prop}{d:DefRec}{K:Params→W.Frag}(hn:l.most=some 63)(hdf:d.params.defaults=[])
 (hY:∀(w:World) (h:Heap),YP w h→(K w.params).In h∧∀T∈([304,577]:List Addr),h.get? T=some (W.tabObj #[])) (hT:∀w:World,∀T∈([304,577]:List Addr),(K w.params).lookup T=none∧∃c,W.codeHdIn (K w.params) c T=true)
 (F:∀(w:World) (mg:Str→Option Value) (fa:Addr) (h:Heap),(K w.params).In h→h.Ns mainGlobals mg→mg d.name=some (.ref fa)→
  ∃fd:FuncData,(∀(s:Shared) (u:Value),BindsTo s fd ⟨[u],[]⟩ [("_law_script",u)])∧∀base:Heap,(K w.params).In base→base.Ns mainGlobals mg→BmIn base mg→FnOk l.prog w (K w.params) mg base (CX0) 18 fa fd ["_law_script"] (q48 (K w.params) [304,577])):
 W.WalkO q loose XP YP l.row.toRowW d [] (λf vs=>PySem.call f vs):=
 L2.qE9 (n:=63) (k:=18) (x:="_law_script") (CX:=λ_=>CX0) (sp:=λw=>q48 (K w.params) [304,577]) [304,577] hn (by decide) hdf ⟨rfl,by decide,by decide⟩ hY hT F (λ_ _ a ns hl hS hT=>⟨a,ns,rfl,hS,hl,hT,λ_=>rfl⟩) (λ_ _ _ _ _ z=>z)
end W1
namespace PySem.W.Fast
theorem tw6754272557358673097:True:=⟨⟩
theorem tw5679183353565549440:True:=⟨⟩
theorem tw13327169191960495072:True:=⟨⟩
theorem tw386284224805279393:True:=⟨⟩
theorem tw9297271697986460098:True:=⟨⟩
theorem tw5442114758080782018:True:=⟨⟩
theorem tw16037598505625308227:True:=⟨⟩
theorem tw15546289230103142499:True:=⟨⟩
theorem tw11855279107946248387:True:=⟨⟩
theorem tw10121505759856153955:True:=⟨⟩
theorem tw16928728734632629637:True:=⟨⟩
theorem tw7018274507341910853:True:=⟨⟩
theorem tw3591820641963149350:True:=⟨⟩
theorem tw4668945458304073958:True:=⟨⟩
theorem tw1314962659828439558:True:=⟨⟩
theorem tw2793624320723750662:True:=⟨⟩
theorem tw8651286531314394086:True:=⟨⟩
theorem tw11822371951512498983:True:=⟨⟩
theorem tw14927586777127703527:True:=⟨⟩
theorem tw2577314782480451304:True:=⟨⟩
theorem tw7701118457410403401:True:=⟨⟩
theorem tw2368516931734622185:True:=⟨⟩
theorem tw16747832938421092523:True:=⟨⟩
theorem tw2173230043280641707:True:=⟨⟩
theorem tw1247239281621402475:True:=⟨⟩
theorem tw14940198782791836523:True:=⟨⟩
theorem tw1467769302172022380:True:=⟨⟩
theorem tw11654010759367777004:True:=⟨⟩
theorem tw15628485998182663116:True:=⟨⟩
theorem tw3939213612227241133:True:=⟨⟩
theorem tw594950610188318158:True:=⟨⟩
theorem tw10014301151514444366:True:=⟨⟩
theorem tw9613554975952146639:True:=⟨⟩
theorem tw15666628363316364527:True:=⟨⟩
theorem tw13332629292728542991:True:=⟨⟩
theorem tw17938343043836840752:True:=⟨⟩
theorem tw8889751368535636241:True:=⟨⟩
theorem tw15398963409834363313:True:=⟨⟩
theorem tw5856568095432684273:True:=⟨⟩
theorem tw2037004513164403762:True:=⟨⟩
theorem tw15922742916086852658:True:=⟨⟩
theorem tw13243805261389830834:True:=⟨⟩
theorem tw17965702482317924178:True:=⟨⟩
theorem tw16460496152139200659:True:=⟨⟩
theorem tw4112216405333831924:True:=⟨⟩
theorem tw8348699473875832564:True:=⟨⟩
theorem tw14193952464039064436:True:=⟨⟩
theorem tw2595621783476308373:True:=⟨⟩
theorem tw14153467995046959957:True:=⟨⟩
theorem tw6082532662050252856:True:=⟨⟩
theorem tw2680662618347077176:True:=⟨⟩
theorem tw8528052982197483801:True:=⟨⟩
theorem tw6768686555461020505:True:=⟨⟩
theorem tw17374604198822381529:True:=⟨⟩
theorem tw14617199439333543131:True:=⟨⟩
theorem tw12825804791407338491:True:=⟨⟩
theorem tw17797486833799081116:True:=⟨⟩
theorem tw2127217136459317660:True:=⟨⟩
theorem tw14758218497899200830:True:=⟨⟩
theorem tw16066200837265442526:True:=⟨⟩
theorem tw8007948202613332926:True:=⟨⟩
theorem tw4648147337309135999:True:=⟨⟩
theorem tw6388131880848522431:True:=⟨⟩
theorem tw4235836451202339016:True:=⟨⟩
theorem tw12448912402687626356:True:=⟨⟩
theorem tw3201554032577878249:True:=⟨⟩
theorem tw15548520063633806265:True:=⟨⟩
theorem tw15076150285517449889:True:=⟨⟩
theorem tw8137877404140759439:True:=⟨⟩
theorem tw11469388101856498204:True:=⟨⟩
theorem tw6200652329014862738:True:=⟨⟩
theorem tw2047826696399390565:True:=⟨⟩
theorem tw1687397075630467619:True:=⟨⟩
theorem tw5688885412843393700:True:=⟨⟩
theorem tw14097697693393228157:True:=⟨⟩
theorem tw9088005810565193645:True:=⟨⟩
theorem tw12106278474780503770:True:=⟨⟩
theorem tw4960198246261479129:True:=⟨⟩
theorem tw14578661754985043307:True:=⟨⟩
theorem tw2932340439087729655:True:=⟨⟩
theorem tw6956340865644321965:True:=⟨⟩
theorem tw10573616408729524444:True:=⟨⟩
theorem tw2939930654060893625:True:=⟨⟩
theorem tw17481885278226445968:True:=⟨⟩
theorem tw15037034533273041083:True:=⟨⟩
theorem tw13071089527892118366:True:=⟨⟩
theorem tw17365890644277891270:True:=⟨⟩
theorem tw9263536876192235345:True:=⟨⟩
theorem tw17124267686203900383:True:=⟨⟩
theorem tw10503809067202075049:True:=⟨⟩
theorem tw9420348639432802324:True:=⟨⟩
theorem tw4585444030553261812:True:=⟨⟩
theorem tw17728838792237156105:True:=⟨⟩
theorem tw15991635229579224222:True:=⟨⟩
theorem tw8459338854154624614:True:=⟨⟩
theorem tw14590572596298929511:True:=⟨⟩
theorem tw8759090716202941002:True:=⟨⟩
theorem tw528368801605857877:True:=⟨⟩
theorem tw18314716122199428046:True:=⟨⟩
theorem tw12432057294604341656:True:=⟨⟩
theorem tw17747643160591345232:True:=⟨⟩
theorem tw4293246285742145373:True:=⟨⟩
theorem tw15301522215924516666:True:=⟨⟩
theorem tw8113780501083869640:True:=⟨⟩
theorem tw4346854360090417840:True:=⟨⟩
theorem tw16933504453935048144:True:=⟨⟩
theorem tw1924537863575637346:True:=⟨⟩
theorem tw17167230285470785218:True:=⟨⟩
theorem tw8904882971805782242:True:=⟨⟩
theorem tw13527197920257401202:True:=⟨⟩
theorem tw359363957864326513:True:=⟨⟩
theorem tw6174163579403916046:True:=⟨⟩
theorem tw2932415367805114049:True:=⟨⟩
theorem tw8400586736134398355:True:=⟨⟩
theorem tw3297695751841763591:True:=⟨⟩
theorem tw1724893394203536563:True:=⟨⟩
theorem tw6880493627252426285:True:=⟨⟩
theorem tw660701870709154021:True:=⟨⟩
theorem tw9532601067230739220:True:=⟨⟩
theorem tw7141445130036766097:True:=⟨⟩
theorem tw14523207392656503656:True:=⟨⟩
theorem tw9763198414394609176:True:=⟨⟩
theorem tw12530121806249149802:True:=⟨⟩
theorem tw15637099270350556766:True:=⟨⟩
theorem tw15663119577859265199:True:=⟨⟩
theorem tw7022604675046837673:True:=⟨⟩
theorem tw15769245853471821144:True:=⟨⟩
theorem tw16264248143797663674:True:=⟨⟩
theorem tw10716132822373086415:True:=⟨⟩
theorem tw15366548484841376644:True:=⟨⟩
theorem tw6788277130473712625:True:=⟨⟩
theorem tw3086432641061050409:True:=⟨⟩
theorem tw7847420647407301282:True:=⟨⟩
theorem tw2319915519474480604:True:=⟨⟩
theorem tw10152207194958654463:True:=⟨⟩
theorem tw16326335723638463309:True:=⟨⟩
theorem tw2290190162043341785:True:=⟨⟩
theorem tw8753632445608909506:True:=⟨⟩
theorem tw16412793997513248938:True:=⟨⟩
theorem tw17851142322485719675:True:=⟨⟩
theorem tw14655392048385622993:True:=⟨⟩
theorem tw12625972031555826573:True:=⟨⟩
theorem tw12947607428701640679:True:=⟨⟩
theorem tw12954913605730587692:True:=⟨⟩
theorem tw11126848116264050587:True:=⟨⟩
theorem tw1284468314962087245:True:=⟨⟩
theorem tw3048584660160455269:True:=⟨⟩
theorem tw7012527805798591007:True:=⟨⟩
theorem tw11661348140368548918:True:=⟨⟩
theorem tw1980691977585613696:True:=⟨⟩
theorem tw2578432429638648613:True:=⟨⟩
theorem tw14181672025425543423:True:=⟨⟩
theorem tw14100009681610772654:True:=⟨⟩
theorem tw11576392584577322002:True:=⟨⟩
theorem tw4025557999355400667:True:=⟨⟩
theorem tw8882016216682537232:True:=⟨⟩
theorem tw12499041210506055692:True:=⟨⟩
theorem tw9040055430516287416:True:=⟨⟩
theorem tw15899324636350131780:True:=⟨⟩
theorem tw18112848804107709245:True:=⟨⟩
theorem tw4423154030657123186:True:=⟨⟩
theorem tw17682056385129045951:True:=⟨⟩
theorem tw12791596069505649849:True:=⟨⟩
theorem tw924915906286683346:True:=⟨⟩
theorem tw17934376945901381528:True:=⟨⟩
theorem tw17429482447022786421:True:=⟨⟩
theorem tw6539486272664407039:True:=⟨⟩
theorem tw15978971961993661996:True:=⟨⟩
theorem tw12009990889703915500:True:=⟨⟩
theorem tw10161171160165346251:True:=⟨⟩
theorem tw1841901910524430941:True:=⟨⟩
theorem tw3097346879810750527:True:=⟨⟩
theorem tw5744363514889003490:True:=⟨⟩
theorem tw11159291431727012685:True:=⟨⟩
theorem tw10766033650391777291:True:=⟨⟩
theorem tw2434316885312709629:True:=⟨⟩
theorem tw10061610979968638754:True:=⟨⟩
theorem tw14797609246659510651:True:=⟨⟩
theorem tw11871699660599847291:True:=⟨⟩
theorem tw1866855717157888614:True:=⟨⟩
theorem tw13399495026183278641:True:=⟨⟩
theorem tw4774379947739136293:True:=⟨⟩
theorem tw10559040335270598248:True:=⟨⟩
theorem tw5659096495526482608:True:=⟨⟩
theorem tw6852733155652973479:True:=⟨⟩
theorem tw8786091606135081678:True:=⟨⟩
theorem tw11149175385143613157:True:=⟨⟩
theorem tw5685475254769204387:True:=⟨⟩
theorem tw1922914785177641403:True:=⟨⟩
theorem tw16437753576385650388:True:=⟨⟩
theorem tw805092986452129270:True:=⟨⟩
theorem tw14742692509450989666:True:=⟨⟩
theorem tw1823156358660656742:True:=⟨⟩
theorem tw14525342648049001395:True:=⟨⟩
theorem tw8697227794840395375:True:=⟨⟩
theorem tw8951303078645440802:True:=⟨⟩
theorem tw9330910457078211997:True:=⟨⟩
theorem tw12808598565315816006:True:=⟨⟩
theorem tw13692430696847439955:True:=⟨⟩
theorem tw7414258807778950782:True:=⟨⟩
theorem tw6819236549531299:True:=⟨⟩
theorem tw935892481323007007:True:=⟨⟩
theorem tw11294511962264362758:True:=⟨⟩
theorem tw5574990634823000257:True:=⟨⟩
theorem tw2740244243886444499:True:=⟨⟩
theorem tw17760415144599664909:True:=⟨⟩
theorem tw9658075282190135727:True:=⟨⟩
theorem tw909603983093307503:True:=⟨⟩
theorem tw8384669503190672182:True:=⟨⟩
theorem tw4110903906373286100:True:=⟨⟩
theorem tw8402544273876174920:True:=⟨⟩
theorem tw4227367427656277880:True:=⟨⟩
theorem tw11101168452435957596:True:=⟨⟩
theorem tw10422760376032479066:True:=⟨⟩
theorem tw16337383759628762069:True:=⟨⟩
theorem tw3340423920603681754:True:=⟨⟩
theorem tw1695600903814822279:True:=⟨⟩
theorem tw4664890566136933520:True:=⟨⟩
theorem tw2228295471666958258:True:=⟨⟩
theorem tw7821729519752680409:True:=⟨⟩
theorem tw17041270954186768993:True:=⟨⟩
theorem tw15917764594637012498:True:=⟨⟩
theorem tw11750977938936761596:True:=⟨⟩
theorem tw2763318450996090759:True:=⟨⟩
theorem tw14330994653140554075:True:=⟨⟩
theorem tw5806192807820990155:True:=⟨⟩
theorem tw11880389962757217253:True:=⟨⟩
theorem tw2855614169983780642:True:=⟨⟩
theorem tw17678373542205726992:True:=⟨⟩
theorem tw16822511872926495790:True:=⟨⟩
theorem tw16408322598018852508:True:=⟨⟩
theorem tw10778217481861260045:True:=⟨⟩
theorem tw2969388539731347302:True:=⟨⟩
theorem tw16317965884093563684:True:=⟨⟩
theorem tw11013818152100057240:True:=⟨⟩
theorem tw13563060388475429793:True:=⟨⟩
theorem tw13227632068916660463:True:=⟨⟩
theorem tw6315370384890848219:True:=⟨⟩
theorem tw10160493781150343681:True:=⟨⟩
theorem tw893678550205759838:True:=⟨⟩
theorem tw3053660484270672320:True:=⟨⟩
theorem tw5891331629327633783:True:=⟨⟩
theorem tw4914048681158481339:True:=⟨⟩
theorem tw13003055211562686525:True:=⟨⟩
theorem tw11915467475369521098:True:=⟨⟩
theorem tw14844009569965042970:True:=⟨⟩
theorem tw16970382242898366887:True:=⟨⟩
theorem tw5593905690495984639:True:=⟨⟩
theorem tw14145356252911886810:True:=⟨⟩
theorem tw6025086008546975707:True:=⟨⟩
theorem tw5291171989077059517:True:=⟨⟩
theorem tw4710701045540602213:True:=⟨⟩
theorem tw754911596818320352:True:=⟨⟩
theorem tw15266021461354439107:True:=⟨⟩
theorem tw10975368008840139266:True:=⟨⟩
theorem tw18422838591397747301:True:=⟨⟩
theorem tw3862029713873691761:True:=⟨⟩
theorem tw18221012479731483809:True:=⟨⟩
theorem tw6282708314271811404:True:=⟨⟩
theorem tw15674816262631223056:True:=⟨⟩
theorem tw17460052280287220507:True:=⟨⟩
theorem tw2892848351943079295:True:=⟨⟩
theorem tw1956890234629356952:True:=⟨⟩
theorem tw16172611855815063845:True:=⟨⟩
theorem tw13174411226259740935:True:=⟨⟩
theorem tw6283880384462873946:True:=⟨⟩
theorem tw11784857412069601033:True:=⟨⟩
theorem tw8804751073978589446:True:=⟨⟩
theorem tw11639505631800943995:True:=⟨⟩
theorem tw14350312501874053651:True:=⟨⟩
theorem tw6347140138458566211:True:=⟨⟩
theorem tw12844840133284260669:True:=⟨⟩
theorem tw17401977801219683912:True:=⟨⟩
theorem tw2890727165339032028:True:=⟨⟩
theorem tw597944780267516509:True:=⟨⟩
theorem tw7676015053549121812:True:=⟨⟩
theorem tw6186707731755581830:True:=⟨⟩
theorem tw6185918800223563541:True:=⟨⟩
theorem tw4422654222901408950:True:=⟨⟩
theorem tw15726711660920823508:True:=⟨⟩
theorem tw10789265139815794646:True:=⟨⟩
theorem tw17149679937104248991:True:=⟨⟩
theorem tw6405736287831206312:True:=⟨⟩
theorem tw4586517162075941503:True:=⟨⟩
theorem tw17452707662207624551:True:=⟨⟩
theorem tw18121784714606565430:True:=⟨⟩
theorem tw3209387797441474514:True:=⟨⟩
theorem tw17368943268212111335:True:=⟨⟩
theorem tw7680979423176135832:True:=⟨⟩
theorem tw14109216617022562914:True:=⟨⟩
theorem tw10367434868854518930:True:=⟨⟩
theorem tw4084177922714346106:True:=⟨⟩
theorem tw5521289764534554933:True:=⟨⟩
theorem tw16768622516716860187:True:=⟨⟩
theorem tw5385696558614386789:True:=⟨⟩
theorem tw18011247202526496814:True:=⟨⟩
theorem tw17735243089587818806:True:=⟨⟩
theorem tw8066836891907540239:True:=⟨⟩
theorem tw12113221886348883460:True:=⟨⟩
theorem tw5246870844357438337:True:=⟨⟩
theorem tw4962754232753693482:True:=⟨⟩
theorem tw1702552857399483453:True:=⟨⟩
theorem tw3084545308078916850:True:=⟨⟩
theorem tw15814569957558674005:True:=⟨⟩
theorem tw9927103122411421705:True:=⟨⟩
theorem tw5687603495005436093:True:=⟨⟩
theorem tw13069456101393673738:True:=⟨⟩
theorem tw3087840469326966705:True:=⟨⟩
theorem tw8151754363719498392:True:=⟨⟩
theorem tw810790144505789771:True:=⟨⟩
theorem tw9226648731280436819:True:=⟨⟩
theorem tw3690858004222151780:True:=⟨⟩
theorem tw7594206199408827014:True:=⟨⟩
theorem tw17896807062492366518:True:=⟨⟩
theorem tw4529971540286688298:True:=⟨⟩
theorem tw6824448658772319142:True:=⟨⟩
theorem tw9522162694578748576:True:=⟨⟩
theorem tw7494254691422339477:True:=⟨⟩
theorem tw16988233008262287155:True:=⟨⟩
theorem tw1565816531815225975:True:=⟨⟩
theorem tw9010402452726257264:True:=⟨⟩
theorem tw7918677342126055154:True:=⟨⟩
theorem tw14834595063343122981:True:=⟨⟩
theorem tw15625038832484560490:True:=⟨⟩
theorem tw6530449676959156036:True:=⟨⟩
theorem tw2695475199144330156:True:=⟨⟩
theorem tw14126532787239740353:True:=⟨⟩
theorem tw11916905268985157870:True:=⟨⟩
theorem tw5089240487900016875:True:=⟨⟩
theorem tw480250562565895115:True:=⟨⟩
theorem tw11805780907905985236:True:=⟨⟩
theorem tw3983507981162140539:True:=⟨⟩
theorem tw3679270913966152789:True:=⟨⟩
theorem tw10531151146847208568:True:=⟨⟩
theorem tw11171278029227887773:True:=⟨⟩
theorem tw16723265308293388936:True:=⟨⟩
theorem tw3926378996788424790:True:=⟨⟩
theorem tw1034722228566599837:True:=⟨⟩
theorem tw9937971758698685969:True:=⟨⟩
theorem tw16376494319477605285:True:=⟨⟩
theorem tw10355827433140329664:True:=⟨⟩
theorem tw18199253182387594895:True:=⟨⟩
theorem tw16908413871736635876:True:=⟨⟩
theorem tw7416453289460149027:True:=⟨⟩
theorem tw1752828271920372532:True:=⟨⟩
theorem tw1221492291447597693:True:=⟨⟩
theorem tw7110307861923007913:True:=⟨⟩
theorem tw8714154312187580083:True:=⟨⟩
theorem tw2928288774755219003:True:=⟨⟩
theorem tw15799402061345025161:True:=⟨⟩
theorem tw16646212969879969790:True:=⟨⟩
theorem tw16403590493732889584:True:=⟨⟩
theorem tw8050328837920839071:True:=⟨⟩
theorem tw14883080899486829303:True:=⟨⟩
theorem tw8329062615116567398:True:=⟨⟩
theorem tw4499443672341899221:True:=⟨⟩
theorem tw13936007929963343253:True:=⟨⟩
theorem tw6673408656304117874:True:=⟨⟩
theorem tw359925022487503272:True:=⟨⟩
theorem tw1811908257869046195:True:=⟨⟩
theorem tw17668453212094433046:True:=⟨⟩
theorem tw7461753334668195811:True:=⟨⟩
theorem tw670492518419482876:True:=⟨⟩
theorem tw15182443707797264380:True:=⟨⟩
theorem tw11914543301743845320:True:=⟨⟩
theorem tw3920003239662112090:True:=⟨⟩
theorem tw5524156206663783217:True:=⟨⟩
theorem tw2644571951780811576:True:=⟨⟩
theorem tw15720107194320532097:True:=⟨⟩
theorem tw13619303792952977793:True:=⟨⟩
theorem tw1215018526385882384:True:=⟨⟩
theorem tw11683709885830996624:True:=⟨⟩
theorem tw7814190171612252200:True:=⟨⟩
theorem tw4527096001606551569:True:=⟨⟩
theorem tw16384597226930645515:True:=⟨⟩
theorem tw14749740936388081663:True:=⟨⟩
theorem tw2007138038075248013:True:=⟨⟩
theorem tw1548038128157155964:True:=⟨⟩
theorem tw13493263967277208996:True:=⟨⟩
theorem tw4624331529259093859:True:=⟨⟩
theorem tw6571384568550445234:True:=⟨⟩
theorem tw5261540803874422748:True:=⟨⟩
theorem tw17637477774047097022:True:=⟨⟩
theorem tw12304647373575505632:True:=⟨⟩
theorem tw8231662714974870893:True:=⟨⟩
theorem tw8122779110979830964:True:=⟨⟩
theorem tw3560678632203174887:True:=⟨⟩
theorem tw13280434922666256756:True:=⟨⟩
theorem tw6341426623524487433:True:=⟨⟩
theorem tw1402556411660109187:True:=⟨⟩
theorem tw2074694698754237083:True:=⟨⟩
theorem tw9546476352355452906:True:=⟨⟩
theorem tw16614349261005863692:True:=⟨⟩
theorem tw14189142480992209010:True:=⟨⟩
theorem tw12001581098960860758:True:=⟨⟩
theorem tw6297046670755160472:True:=⟨⟩
theorem tw16183065502318299539:True:=⟨⟩
theorem tw2008898367511801578:True:=⟨⟩
theorem tw15909382882911201871:True:=⟨⟩
theorem tw7735275360190638632:True:=⟨⟩
theorem tw9980845961917786060:True:=⟨⟩
theorem tw6887494809215829365:True:=⟨⟩
theorem tw6274116527326922588:True:=⟨⟩
theorem tw3790333206699902219:True:=⟨⟩
theorem tw18411243432038156955:True:=⟨⟩
theorem tw15985190557118654620:True:=⟨⟩
theorem tw7967688757740885402:True:=⟨⟩
theorem tw6176842132529785890:True:=⟨⟩
theorem tw17535783663349362091:True:=⟨⟩
theorem tw1499789039652610520:True:=⟨⟩
theorem tw7681321211180464870:True:=⟨⟩
theorem tw4428107814820043246:True:=⟨⟩
theorem tw14836133459225785621:True:=⟨⟩
theorem tw13329914941215980946:True:=⟨⟩
theorem tw15038025287423010366:True:=⟨⟩
theorem tw13199464434329167100:True:=⟨⟩
theorem tw9711789644423056199:True:=⟨⟩
theorem tw6228390157105642182:True:=⟨⟩
theorem tw5202384241580284492:True:=⟨⟩
theorem tw4950275984807229424:True:=⟨⟩
theorem tw3456674364588511054:True:=⟨⟩
theorem tw3054121605501120381:True:=⟨⟩
theorem tw18383000986116987961:True:=⟨⟩
theorem tw17651377049373105551:True:=⟨⟩
theorem tw16401836311301119016:True:=⟨⟩
theorem tw15680917314564389327:True:=⟨⟩
theorem tw14826268610275849382:True:=⟨⟩
theorem tw14433585429887437828:True:=⟨⟩
theorem tw14102661789756038083:True:=⟨⟩
theorem tw13689570136858517428:True:=⟨⟩
theorem tw13068642385780513222:True:=⟨⟩
theorem tw11144219387445505957:True:=⟨⟩
theorem tw11143923607848564003:True:=⟨⟩
theorem tw10783975870676871862:True:=⟨⟩
theorem tw13497955622774022745:True:=⟨⟩
theorem tw777674709799418303:True:=⟨⟩
theorem tw5258161490443262616:True:=⟨⟩
theorem tw10042802394665245728:True:=⟨⟩
theorem tw9308170394271535367:True:=⟨⟩
theorem tw9302245559185537511:True:=⟨⟩
theorem tw8716786077255828771:True:=⟨⟩
theorem tw7528173252813137516:True:=⟨⟩
theorem tw7351354817595103415:True:=⟨⟩
theorem tw7228823596014827258:True:=⟨⟩
theorem tw5549714441446691510:True:=⟨⟩
theorem tw549923806920457634:True:=⟨⟩
theorem tw4999811916524857666:True:=⟨⟩
theorem tw4496606220996433157:True:=⟨⟩
theorem tw4321423744727665269:True:=⟨⟩
theorem tw3921037191406501958:True:=⟨⟩
theorem tw3869813148172696036:True:=⟨⟩
theorem tw3532839149172360112:True:=⟨⟩
theorem tw18271844821579408859:True:=⟨⟩
theorem tw17735895899391323817:True:=⟨⟩
theorem tw15954383705357315818:True:=⟨⟩
theorem tw15828218845883616162:True:=⟨⟩
theorem tw15412269708296329234:True:=⟨⟩
theorem tw1462212133715835581:True:=⟨⟩
theorem tw14615988573099029638:True:=⟨⟩
theorem tw14001579087301711118:True:=⟨⟩
theorem tw13991921749795220261:True:=⟨⟩
theorem tw1306697175339343939:True:=⟨⟩
theorem tw12783451063980352275:True:=⟨⟩
theorem tw12310521490995028889:True:=⟨⟩
theorem tw12243254362833128050:True:=⟨⟩
theorem tw10666857666012296453:True:=⟨⟩
theorem tw10438623609386115308:True:=⟨⟩
theorem tw10052088299499128038:True:=⟨⟩
theorem tw8828542214598906677:True:=⟨⟩
theorem tw4922176426137897292:True:=⟨⟩
theorem tw4497345919504517655:True:=⟨⟩
theorem tw4139211844063634873:True:=⟨⟩
theorem tw17657622299926291663:True:=⟨⟩
theorem tw14215656765174893278:True:=⟨⟩
theorem tw7931009472844288025:True:=⟨⟩
theorem tw6605320311130946226:True:=⟨⟩
end PySem.W.Fast
set_option genInjectivity false in
set_option genSizeOf false in
structure PySem.W.Fast:Prop where
 (tw8946430707259873803 tw15724365176993407584 tw15289888433916051553 tw13508911704012330383 tw15414291824877403495 tw985964229133125945 tw7417042612987495664 tw7104964249950266710 tw15564669470604550374 tw13831973836948073944 tw10967021295098692182 tw8965876287322717830 tw5520067860885061532 tw2229052274653097932 tw10573484140851795939 tw9636191597784559897 tw9188428606858512809 tw6371307948569869154 tw43872856061191071 tw16965016584416417309 tw15090084424303917191 tw12662279835458326949 tw1201260336596140311 tw11923491920691102291 tw9069124582302634091 tw764046914319116324 tw16657599529076783847 tw10090650890600706558 tw8634118487329766541 tw9611699071321789925 tw8460179453353772356 tw7854171056292636118 tw7757120462074568708 tw7632839893706436857 tw6637568277768500646 tw6304291645687778329 tw4868960189340454110 tw2384653512812358691 tw237115868634625082 tw2087884689979293546 tw17076116161100141325 tw15683633265802415296 tw11758624743615836745 tw1088884792648496667 tw9103351078101565534 tw16645615572360135514 tw8495624420244081293 tw7572545347797941332 tw6314650204709582518 tw1949233791758402127 tw12133014376206777674 tw10495541517061598045 tw12072839308188319274 tw16033134089893292076 tw2847607414342603615 tw29166477304471588 tw10543956893979708168 tw16969254384737453710 tw15413897774070819437 tw7432038563967650267 tw5319670969858481316 tw3335609526629909425 tw14377389125923604331 tw13349204560272680308 tw13249503424416970867 tw11945914424257859929 tw10330005693075982675 tw10155741000514759937 tw9672524729828540235 tw9390013933118523328 tw9069782427637395428 tw8328553391814762938 tw8175516640861528399 tw720766659743950218 tw611819193151165233 tw4027313112263969604 tw16351290716021978900 tw12912338318724511092 tw12528314056836981873 tw6488561537406334504 tw9646064396464680659 tw17975511089966834752 tw11550528539988118387 tw3408484452212178650 tw13737773002287582661 tw3342572135754365949 tw8836397884873461149 tw7664169971039126129 tw6927937028928754673 tw16878663908024133437 tw10692626867516930590 tw13387904658778972072 tw9330831784185606158 tw9164487338699160941 tw8399539112226449531 tw7736034423888468910 tw7334255132142436090 tw6049959261113744857 tw5087365848286088702 tw4836191624294736193 tw4677006216063197947 tw4001929091133943211 tw306487084724361339 tw2670227300272861047 tw2607891107979471000 tw2156559746011358043 tw1863903244738380510 tw18433510294855290856 tw18330348517306311954 tw16655666299418118282 tw16396892515840110528 tw13222237861891229551 tw10095073288498458717 tw9042489861368935081 tw8948742975149218409 tw5076593060712807207 tw3175643377511774950 tw18405048879410584934 tw1819444242845685013 tw13267054043247240165 tw1215987780349966668 tw10586010331474208278 tw8122974234430262032 tw8808673376360831227 tw8624154295377937351 tw7133258998597914817 tw5579296052221076939 tw4863231681712549038 tw4724454623382792122 tw437880278763807867 tw3391119752790462038 tw2793859563477882483 tw2258719882729158519 tw18120572345746304993 tw17233036772643288158 tw15057228749762584445 tw13366103406984015133 tw12831586604018750752 tw12219581004078414083 tw11267791356630393863 tw10858787730782105785 tw9282592469418960542 tw8744707703165870254 tw6519910903137123193 tw4096256037259893204 tw3094645649406933581 tw17871523722744747943 tw15651125220789938006 tw14452650586807901994 tw14294216336888779181 tw11667072326827126518 tw289591226362475345 tw6644086255235340088 tw1180033939147140362 tw9012991845931042385 tw16775287707387185814 tw15922873616245604571 tw17015462038922952980 tw9386257542317238142 tw8828402222222022096 tw8304382754862871807 tw8008598655172456578 tw7331738624696164890 tw6423614098976969440 tw3124860460523264268 tw2399648547117212422 tw17195868682120300480 tw16137099076391900583 tw15994351506834006092 tw15856078092678201821 tw15790861936002500011 tw15021861846602513058 tw14568431165245522865 tw13818703318302597089 tw13513765574976284673 tw13424156754305417637 tw11110984566229514890 tw3383279329643319551 tw3115215196014893685 tw7068181338666598453 tw4105409364754321716 tw17212549350707181200 tw12097383544923861377 tw8769098294615666493 tw841661192497279517 tw8058542847456443912 tw7945839729200825253 tw7698866931373700171 tw6958408155850796616 tw6513786058266534889 tw6381464831836330821 tw6219052086088699765 tw6187035815557181 tw6085920906891556047 tw5913966924218873516 tw57720950763034705 tw5650081400618656361 tw5164448532862973298 tw5065606789826762235 tw5049734273136851577 tw4650731160430389198 tw4628230926644070862 tw4428569536355675891 tw4268778123560740034 tw4176269655645430257 tw3807349885310271266 tw379088774689548050 tw3698360126637129506 tw3548678759092058475 tw3485322074434222752 tw3374615523546321606 tw3323964183990244015 tw3146651802859362678 tw3108672812186535271 tw3027421545277847962 tw2637882834082829200 tw257820401106907596 tw2274136257318522950 tw2254894215383549171 tw18188501606264223492 tw17774025683259796184 tw17671831591319824866 tw1676984000852938258 tw16652785031321348949 tw15460089549828604526 tw14818051477739621497 tw14392888002973035404 tw1427198678855455760 tw14147799079064544813 tw14053886830150102458 tw13714771790737050032 tw1330745582863990923 tw13130547848269503079 tw13087198534247982641 tw13044300866171445385 tw12799582507140294923 tw12621105503360626004 tw11425474880724294277 tw11261466257885525679 tw10983667664867917560 tw10605825260912738733 tw10493636782790857444 tw10351070766579948802 tw9977949936421350818 tw9904228274189710791 tw9830894371655725511 tw979703550079677547 tw9731022056336423076 tw9709592164083346073 tw9653225412035998586 tw9621173802775316365 tw9603268774701675085 tw947323154479858228 tw9452000248995044725 tw9445121409670498392 tw9384259849169645530 tw9336109913942268213 tw9332711580077204257 tw9323752382932827223 tw928754522726729284 tw92604678904608163 tw9255298847288759433 tw9242777801643394890 tw9237950144365832790 tw9209011018319336794 tw9204427459266733553 tw9181594579087851110 tw9159819532575688168 tw9044828625276063577 tw904100890153803791 tw9025671959260720899 tw8986882172667879090 tw8949029809623023570 tw8922517306757635442 tw8899101075714480615 tw8838791758740908440 tw8762698509213081968 tw8747164192190169470 tw8614670962546823139 tw85831509774877640 tw8523900566869960951 tw8487787729169476572 tw8482945914391696248 tw8464515278685672477 tw8307875932055309300 tw8157159497769270160 tw8143701796881153394 tw8134849879679948047 tw8125144416497180531 tw8106608674159233939 tw8080550007933107925 tw8015585633890945702 tw8013826902646806338 tw8005848433920061587 tw7999356065668911007 tw7994074210144285456 tw792693791791391364 tw7918738277910452262 tw7848124108063639941 tw780929167541253303 tw7808269481342136759 tw7722869228055609093 tw7693269211615774948 tw7607579053414250714 tw7593175246617293531 tw7540973498320166150 tw7501386792608951878 tw7413951524085140989 tw741174300363327616 tw7334843194060512073 tw7333240861628157341 tw7283956800037975423 tw7155768537042936815 tw7150326367656607458 tw7059359187441411482 tw7050979592091633112 tw7019456707004201565 tw6911638394899528122 tw6683161933477719756 tw66069165213422826 tw6579314095862773833 tw6497682691593179930 tw6476606101865346253 tw6466147560475498654 tw6402343902185495864 tw6357862658375905916 tw6337488287745696196 tw6298312616493648835 tw6239000010843173126 tw6150574961376733628 tw6107373169871074299 tw6095589971169069560 tw6081858389938627606 tw603640141134797215 tw6030885507312401915 tw6012455202982395494 tw6003453942928119373 tw5978772324829081421 tw5965146180448447763 tw5964003415083000943 tw5939224748329539668 tw5826982305906654729 tw5753423173957296914 tw5753205039245712754 tw5661173689285032976 tw5660418185152644477 tw560743243723144970 tw5462468084777415900 tw5405054004500619216 tw5362512377055259591 tw5362367818454940033 tw531397602982928511 tw5309710121647794195 tw5194337510394469373 tw5121746428295281491 tw5106204615223851825 tw5091511373108732326 tw4884254754238688399 tw4799389474688985068 tw4798072830921031861 tw4724101615250162549 tw468339725957319357 tw4615592226654346448 tw4612390620473212455 tw4605194185783750201 tw4561170160784364325 tw4547927857835910506 tw4517975849250385925 tw4495384557217709327 tw4484367724577324340 tw4447754443476141146 tw4385203283699499594 tw4325402618566725081 tw4237053490516380648 tw4236372831574465031 tw4234774484909447367 tw4223715408063516310 tw4207643781234698553 tw420264834257790250 tw413893757950714115 tw4095079580943744743 tw3892259430328185891 tw3864982644672522033 tw3862298785221553037 tw3767291349145432532 tw3704322684919657469 tw36822855147641782 tw3661459150608939674 tw365872045006206530 tw3622836798609382561 tw3617170646726695786 tw3577512489742535372 tw3576183356058770071 tw3549296595210615666 tw3515548075196557996 tw3480257283213996476 tw342658572082304891 tw3413789071484849452 tw3362311352417940569 tw3314688516406883565 tw3240332876411690460 tw3202314669743317811 tw3163419648871737449 tw3126554556684279915 tw3112711735642394635 tw3094680287944747844 tw3073059584026097019 tw2972220541267693286 tw2880740085700537357 tw2865121810162352487 tw2861148889779658979 tw2802938459427670772 tw276277965385332131 tw2729700506885782226 tw2692857678715584081 tw2684982768210159405 tw2658243649428296833 tw2631344135335986261 tw2606270800800341696 tw2604153295969333848 tw2260477220327460592 tw2242622476208358515 tw2206934331416494256 tw2157326800228795106 tw2010285351466953408 tw1948947627175140438 tw18425737246599699612 tw18383639997477863414 tw1836263049253526842 tw18336736568619811832 tw18308696107390094098 tw18280716832069695858 tw18239968374181190513 tw18217040653543663997 tw18208047143241305670 tw18203823420266287101 tw18163854255637068414 tw18145583607372345304 tw18120618160297489585 tw18104648625446931990 tw18060477628340741911 tw18021564715411754805 tw18003758090701863404 tw1797807831573743700 tw17967330594477160707 tw17882013019471821352 tw17774085086467432651 tw17703626094730521214 tw17698871887315938498 tw1765018994927988578 tw17637432462155485176 tw17596253472843580517 tw17564846378052917764 tw17480758526059114865 tw17480685688884387514 tw17435259354680008645 tw17321391852811575041 tw17319227994266069546 tw17306957188042016994 tw17299772230998367387 tw17256779564032752340 tw17242641035299318151 tw1719490685280741429 tw17087235273024359609 tw17016983798747464804 tw16987067857107395437 tw16934647599142796715 tw16900276961135396179 tw16846159383635343100 tw1678101070950579069 tw16778735423163672700 tw16754792980733078920 tw16749217946603271697 tw16747127559505446763 tw16733651298802603859 tw16727646836567979000 tw16709177255706281723 tw16668694963543740352 tw16634370975871304649 tw16625289101793248946 tw165596059919101150 tw16469019626812480380 tw16464411516343402286 tw1640792969340997343 tw16338434030113289095 tw16305481513308204281 tw16269888803009126129 tw16268318891460173413 tw1620619747217739626 tw16165486993299483976 tw1614805292115418288 tw16143343503295208397 tw16135312715851045924 tw16099930725207545516 tw16094215718418488123 tw16040509598016241780 tw16036027233927659486 tw15970804467109695023 tw15944561746939645062 tw15929893277983219989 tw15892244475853271593 tw15812701830011765460 tw15724738740748626267 tw15720974037477612664 tw15705102745977289510 tw15652718061257058747 tw15633647349725309713 tw15589129044502768793 tw15561367398687347141 tw15543022774839985688 tw15535843720137717452 tw15495833747695349972 tw15484539572534801372 tw15471966750012306294 tw15467511204754135855 tw1546695348509737629 tw15456216823633382644 tw15321566683342322833 tw15310728611363091356 tw15279573195270417224 tw15212587823965022170 tw15179570655267892798 tw15139314892072185740 tw15115413279257903493 tw1511452462551543278 tw15045612056848720507 tw14972476415931464058 tw14919482111846333109 tw14900709309488339417 tw14895034264984997255 tw14881196626693859203 tw14867954662253103683 tw14731786600599305572 tw1472446386449074536 tw14654470255747445237 tw1462909154889754372 tw14598897129341676975 tw1458660444489199542 tw14579259567496225509 tw14461327831695788302 tw14451234121808557374 tw14450273489823808241 tw14435346306029821292 tw14346250920761585005 tw14283897260100544051 tw14198730687534836738 tw14125941925451060217 tw14075052867598834618 tw14069353522121582542 tw1401074198826435622 tw13983212665723447031 tw13932245155370223688 tw13912953383597566228 tw13861789973873461863 tw13743672988595311084 tw13657642304569580242 tw13654837219327013737 tw13607793728993669459 tw13514120494322988475 tw13502741635337409359 tw13464069435476495396 tw13414080843647995108 tw13408580405212491502 tw13407487604857797134 tw13354572092895809477 tw13351778482083875311 tw1326116483547454163 tw13160976007842431975 tw13156703371185926521 tw13083138023252954250 tw13012169863825447086 tw12987458968720110780 tw12902059301347118455 tw12844657791365818406 tw12823966883200030989 tw12639102984066760946 tw12582480067297786764 tw12507856381433399291 tw12464328354462820368 tw12319148923134634118 tw12266072322524409668 tw12189622944457148891 tw12120989416417242378 tw12061013077942597634 tw11980301844172632687 tw11970836870920704831 tw11796821559274922422 tw1178722182758368240 tw11786102759229632027 tw11785157443956019078 tw11757709204363791777 tw11745896093252743236 tw11738309778187437053 tw11595157812468308351 tw11568185426570154771 tw11564574192572868178 tw11560266123220980763 tw11513590096764207881 tw11505058450192339596 tw11492765095378867214 tw11369238046900840008 tw11350628655550019218 tw11320403310298055259 tw11311307469021933227 tw11267814885026526475 tw11202472220396752854 tw11197196753147073656 tw11125547459894422827 tw11100747532200649079 tw11078745385164353418 tw11072072847684518968 tw11008647850953614299 tw10987905390679067636 tw1094759638549529566 tw10869511906594086352 tw10859752174261303831 tw10852429441385494429 tw10848059867709562833 tw10831509361739946343 tw10742806191042499321 tw10622661840289868413 tw10602812433899646075 tw1057700945758049665 tw10563840318680760767 tw10516656450262882355 tw10440250258274618106 tw10382601088607978474 tw10360441006281568194 tw10304713791186160085 tw10089025366164188751 tw10085165876457245964 tw10076012298103640121 tw1001281319351278727:True)
open PySem PySem.W PyProof.Rows
set_option maxRecDepth 100000 in
theorem PySem.Challenge.cw_wornpages_k46_whole_who_with_whom_holds : PySem.Challenge.rw_wornpages_k46_whole_who_with_whom.Holds := by
 w_on;o_law;k_head;(case hw=>w_witness2)
 k_fill
 refine W1.walk (l:=PySem.Challenge.rw_wornpages_k46_whole_who_with_whom) rfl rfl (λw h Y=>⟨W.km_in_of Y,λT hT=>W.km_tabs_of Y T (by simp at hT ⊢;exact hT.symm)⟩) (?T) ?F
 case T=>
  intro w T hT
  have hT:T=304∨T=577:=by simpa using hT
  rcases hT with rfl|rfl
  ·exact⟨by kernel_rfl,306,by kernel_rfl⟩
  ·exact⟨by kernel_rfl,581,by kernel_rfl⟩
 case F=>
  intro w mg fa h KX G hmg
  refine' W1.qJM (z1:=304) (z0:=306) (z3:=577) (z2:=581) KX G hmg ?_ ?_ ?_ ?_ ?_ ?_ ?_ ?_ ?_ ?_ ?_ ?_ ?_ ?_ ?_ ?_ ?_ ?_ ?_ ?_ ?_ ?_ ?_ ?_ ?_ ?_ ?_ ?_ ?_ ?_ ?_ ?_ ?_ ?_ ?_ ?_ ?_ ?_ ?_ ?_ ?_ ?_ ?_ ?_ ?_ ?_ ?_ ?_ ?_ ?_ ?_ ?_ ?_ ?_ ?_ ?_ ?_ ?_ ?_ ?_ ?_ ?_ ?_ ?_ ?_ ?_ ?_ ?_ ?_ ?_ ?_ ?_ ?_ ?_ ?_ ?_ ?_ ?_ ?_ ?_ ?_ ?_ ?_ ?_ ?_ ?_ ?_ ?_ ?_ ?_ ?_ ?_ ?_ ?_ ?_ ?_ ?_ ?_ ?_ ?_ ?_ ?_ ?_ ?_ ?_ ?_ ?_ ?_ ?_ ?_ ?_ ?_ ?_ ?_ ?_ ?_ ?_ ?_ ?_ ?_ ?_ ?_ ?_ ?_ ?_ ?_ ?_ ?_ ?_ ?_ ?_ ?_ ?_ ?_ ?_ ?_ ?_ ?_ ?_ ?_ ?_ ?_ ?_ ?_ ?_ ?_ ?_ ?_ ?_ ?_ ?_ ?_ ?_ ?_ ?_ ?_ ?_ ?_ ?_ ?_ ?_ ?_ ?_ ?_ ?_ ?_ ?_ ?_ ?_ ?_ ?_ ?_ ?_ ?_ ?_ ?_ ?_ ?_ ?_ ?_ ?_ ?_ ?_ ?_ ?_ ?_ ?_ ?_ ?_ ?_ ?_ ?_ ?_ ?_ ?_ ?_ ?_ ?_ ?_ ?_ ?_ ?_ ?_ ?_ ?_ ?_ ?_ ?_ ?_ ?_ ?_ ?_ ?_ ?_ ?_ ?_ ?_ ?_ ?_ ?_ ?_ ?_ ?_ ?_ ?_ ?_ ?_ ?_ ?_ ?_ ?_ ?_ ?_ ?_ ?_ ?_ ?_ ?_ ?_ ?_ ?_
  any_goals first|k_is|(refine' L2.FnX.of ?fa ?fb;(case fa=>k_is);(case fb=>k_is))|((first|apply And.intro|apply L2.Meth.mk|apply L2.Mk.mk|apply L2.Cls.mk|apply L2.XAt.mk|apply L2.BIni.mk|apply L2.ClM.mk|apply L2.XRd.mk)<;>first|k_is|kernel_rfl)|(show W.findIn _ _ _=_;k_is)
  all_goals first|k_exc|kts_exm|kit_is|kernel_rfl|decide
