import PyProof.Rows.All
import Wide.All
import OpenK.AllK
import Wide.FinOn
import Lean
import PyProof.EqAt
import PyProof.EqKinds
import PyProof.TupleCall
import PyProof.StationsW
import PyProof.NsDelKeeps
import PyProof.PassesOwn
import PyProof.ZipIter
import PyProof.NeKinds
import PyProof.CompFree
import KE.KDictList
import PyProof.ConsumeWalk
import PyProof.WalkInts
import PyProof.WalksMore
import PyProof.SumAny
import PyProof.Rows.MinMaxN
import PyProof.Rows.SortWalk
import PyProof.ListRange
import KE.KTupSum
import PyProof.EnumFor
import PyProof.EnumMake
import PyProof.EnumStmt
import OpenK.KMake
import PyProof.DictWalks
import PyProof.FitsBits
import PyProof.CompUse
import KE.KSortTup
import PyProof.MinMaxWalk
import PyProof.SeqI3
import PyProof.DictItems
import KE.KItemsList
import KE.KEqDict
import KE.KDictSum
import PyProof.DictValues
import KE.KLam
import KE.KNestM
import PyProof.ExcClass3
import PySem.Challenge.RW_wornpages_k32_options
set_option Elab.async false
set_option linter.all false
set_option maxRecDepth 100000
set_option maxHeartbeats 0
noncomputable abbrev hC:=@decide_eq_true
noncomputable abbrev hG:=@decide_eq_false
noncomputable abbrev hI:=@List.length_map
noncomputable abbrev hU:=@List.mem_cons_of_mem
noncomputable abbrev hV:=@List.getElem?_eq_getElem
noncomputable abbrev kB:=@if_neg
noncomputable abbrev kC:=@List.getElem?_eq_some_iff
noncomputable abbrev kD:=@PySem.wpAny_bind
noncomputable abbrev kE:=@PySem.Heap.get?_push_of_some
noncomputable abbrev kF:=@if_pos
noncomputable abbrev kI:=@List.mem_singleton
noncomputable abbrev kJ:=@List.getD_eq_getElem?_getD
noncomputable abbrev kL:=@List.mem_cons
noncomputable abbrev kN:=@Nat.le_refl
noncomputable abbrev kO:=@List.mem_map
noncomputable abbrev kP:=@Option.some.inj
noncomputable abbrev kQ:=@Bool.false_ne_true
noncomputable abbrev kU:=@decide_eq_true_eq
noncomputable abbrev kW:=@List.mem_cons_self
noncomputable abbrev kX:=@PySem.Heap.lt_size
noncomputable abbrev kY:=@Int.toNat_natCast
noncomputable abbrev kZ:=@PySem.wpAny_pure
noncomputable abbrev mB:=@List.getElem?_map
noncomputable abbrev mC:=@List.length_append
noncomputable abbrev mD:=@List.length_filter_le
noncomputable abbrev mE:=@List.take_append_getElem
noncomputable abbrev mF:=@List.size_toArray
noncomputable abbrev mG:=@List.map_cons
noncomputable abbrev mH:=@List.length_range
noncomputable abbrev mI:=@Nat.le_trans
noncomputable abbrev mJ:=@List.mem_append_right
noncomputable abbrev mK:=@PySem.Heap.get?_push_size
noncomputable abbrev mL:=@of_decide_eq_true
noncomputable abbrev mM:=@List.mem_filter
noncomputable abbrev mO:=@Bool.and_eq_true
noncomputable abbrev mP:=@List.mem_range
noncomputable abbrev mQ:=@List.length_cons
noncomputable abbrev mR:=@List.filter_cons
noncomputable abbrev mU:=@Option.map_eq_some_iff
noncomputable abbrev mV:=@List.map_append
noncomputable abbrev mW:=@Nat.ne_of_lt
noncomputable abbrev mY:=@Nat.lt_of_lt_of_le
noncomputable abbrev mZ:=@PySem.Heap.get?_update_other
noncomputable abbrev m8:=@Nat.zero_le
noncomputable abbrev gA:=@Array.length_toList
noncomputable abbrev gB:=@List.nodup_cons
noncomputable abbrev gC:=@List.take_length
noncomputable abbrev gD:=@List.length_singleton
noncomputable abbrev gE:=@List.length_take
noncomputable abbrev gF:=@List.length_set
noncomputable abbrev gG:=@List.length_replicate
noncomputable abbrev gH:=@List.filter_append
noncomputable abbrev gI:=@PySem.sizeLine_eq
noncomputable abbrev gJ:=@List.getElem_mem
noncomputable abbrev gK:=@List.mem_of_getElem?
noncomputable abbrev gL:=@Int.le_refl
noncomputable abbrev gM:=@List.mem_append
noncomputable abbrev gN:=@Nat.mul_le_mul_right
noncomputable abbrev gO:=@PySem.boot_len
noncomputable abbrev gP:=@PySem.mem_of_lookup
noncomputable abbrev gQ:=@PySem.W.mg_of
noncomputable abbrev gR:=@List.pairwise_cons
noncomputable abbrev gS:=@PySem.W.kia_one
noncomputable abbrev gT:=@PySem.PassesOwn.never
noncomputable abbrev gU:=@List.mem_append_left
noncomputable abbrev gW:=@List.Pairwise.filter
noncomputable abbrev gX:=@of_decide_eq_false
noncomputable abbrev gY:=@List.append_nil
noncomputable abbrev gZ:=@Int.natCast_mul
noncomputable abbrev g0:=@congrArg
noncomputable abbrev g5:=@PySem.wpAny_truthy_bool
noncomputable abbrev g7:=@Nat.lt_succ_of_lt
noncomputable abbrev g9:=@List.pairwise_map
noncomputable abbrev dA:=@List.getElem?_eq_none
noncomputable abbrev dB:=@PySem.wpAny_holding
noncomputable abbrev dC:=@PySem.wpAny_mono
noncomputable abbrev dD:=@Nat.lt_of_le_of_lt
noncomputable abbrev dE:=@List.replicate_succ
noncomputable abbrev dG:=@List.map_congr_left
noncomputable abbrev dH:=@List.find?_cons
noncomputable abbrev dJ:=@List.find?_some
noncomputable abbrev dL:=@List.mem_of_find?_eq_some
noncomputable abbrev dM:=@Decidable.byContradiction
noncomputable abbrev dN:=@Nat.lt_succ_self
noncomputable abbrev dO:=@List.lookup_cons
noncomputable abbrev dP:=@List.all_eq_true
noncomputable abbrev dQ:=@Int.natCast_ediv
noncomputable abbrev dR:=@List.sum_cons
noncomputable abbrev dS:=@List.length_filterMap_le
noncomputable abbrev dU:=@Nat.le_succ
noncomputable abbrev dW:=@List.getElem?_replicate
noncomputable abbrev dX:=@PySem.wpAny_newObj_type
noncomputable abbrev dY:=@PySem.F.plainAttrs_dict
noncomputable abbrev dZ:=@Bool.not_eq_true'
noncomputable abbrev d3:=@decide_eq_false_iff_not
noncomputable abbrev d5:=@List.countP_eq_length_filter
noncomputable abbrev d6:=@beq_eq_false_iff_ne
noncomputable abbrev d7:=@List.filter_eq_self
noncomputable abbrev d8:=@PySem.BindsTo.of_defaults
noncomputable abbrev d9:=@PySem.Calls.callWith_builtin
noncomputable abbrev rA:=@List.map_map
noncomputable abbrev rB:=@List.pairwise_lt_range
noncomputable abbrev rC:=@PySem.W.mg_none_of
noncomputable abbrev rD:=@Nat.lt_irrefl
noncomputable abbrev rE:=@Nat.add_mul
noncomputable abbrev rF:=@Nat.one_mul
noncomputable abbrev rG:=@List.not_mem_nil
noncomputable abbrev rH:=@PySem.Calls.spliced_cons
noncomputable abbrev rJ:=@PySem.wpAny_Call_Name_kw
noncomputable abbrev rK:=@List.getElem?_append_right
noncomputable abbrev rL:=@List.find?_eq_none
noncomputable abbrev rM:=@PySem.W.methodCall_KW
noncomputable abbrev rN:=@PySem.Obj.isFreed_of_fields
noncomputable abbrev rO:=@List.drop_eq_getElem_cons
noncomputable abbrev rP:=@List.exists_mem_of_ne_nil
noncomputable abbrev rQ:=@PySem.wpAny_passesOwn
noncomputable abbrev rR:=@Bool.eq_iff_iff
noncomputable abbrev rS:=@List.nil_append
noncomputable abbrev rT:=@List.filter_map
noncomputable abbrev rU:=@List.filter_nil
noncomputable abbrev rV:=@Sum.inl.inj
noncomputable abbrev rW:=@List.getElem?_set_ne
noncomputable abbrev rX:=@Nat.ne_of_gt
noncomputable abbrev rZ:=@List.nodup_append
noncomputable abbrev r6:=@beq_iff_eq
noncomputable abbrev r9:=@List.any_cons
noncomputable abbrev wA:=@PySem.F.slot_list_append
noncomputable abbrev wB:=@PySem.F.type_list_append
noncomputable abbrev wC:=@PyProof.Rows.slot_tuple_getitem
noncomputable abbrev wD:=@List.filterMap_cons
noncomputable abbrev wE:=@Int.eq_ofNat_of_zero_le
noncomputable abbrev wF:=@List.any_eq_true
noncomputable abbrev wG:=@PySem.F.plainAttrs_list
noncomputable abbrev wH:=@Ne.symm
noncomputable abbrev wI:=@List.mem_filterMap
noncomputable abbrev wJ:=@PySem.W.callWith_K
noncomputable abbrev wK:=@Nat.succ_mul
noncomputable abbrev wL:=@Nat.mul_comm
noncomputable abbrev wM:=@List.map_replicate
noncomputable abbrev wN:=@Bool.or_eq_true
noncomputable abbrev wO:=@PyProof.Rows.listUpdate_at
noncomputable abbrev wP:=@PySem.Heap.get?_update_self
noncomputable abbrev wQ:=@PySem.F.slot_dict_pop
noncomputable abbrev wR:=@PyProof.Rows.callWith_type1
noncomputable abbrev wS:=@List.flatten_cons
noncomputable abbrev wT:=@List.filter_congr
noncomputable abbrev wU:=@List.foldl_append
noncomputable abbrev wV:=@PySem.PassesOwn.leaving
noncomputable abbrev wW:=@PySem.W.looks_findIn
noncomputable abbrev wX:=@PySem.wpAny_field
noncomputable abbrev wY:=@PySem.Calls.evalArgs_plain
noncomputable abbrev wZ:=@PySem.wpAny_call_entry
noncomputable abbrev cA:=@List.ext_getElem
noncomputable abbrev cB:=@List.pairwise_iff_getElem
noncomputable abbrev cC:=@List.getElem_of_mem
noncomputable abbrev cD:=@PySem.F.slot_dict_valueiterator_iter
noncomputable abbrev cE:=@List.filter_sublist
noncomputable abbrev cF:=@Option.isSome_iff_exists
noncomputable abbrev cG:=@PySem.F.slot_dict_itemiterator_iter
noncomputable abbrev cH:=@PySem.tupleKind_room_in1
noncomputable abbrev cI:=@PySem.Obj.data_mapFields
noncomputable abbrev cJ:=@List.getElem_range
noncomputable abbrev cK:=@List.mem_mergeSort
noncomputable abbrev cL:=@List.getElem?_set_self
noncomputable abbrev cM:=@PySem.Heap.size_push
noncomputable abbrev cN:=@Nat.le_of_eq
noncomputable abbrev cO:=@PySem.Calls.spliced_nil
noncomputable abbrev cP:=@PySem.codeAny_mono
noncomputable abbrev cQ:=@List.append_assoc
noncomputable abbrev cR:=@Option.isSome_map
noncomputable abbrev cS:=@PySem.call_meetsIn
noncomputable abbrev cT:=@Nat.add_zero
noncomputable abbrev cU:=@PySem.F.slot_dict_get
noncomputable abbrev cV:=@List.countP_mono_left
noncomputable abbrev cW:=@List.Pairwise.sublist
noncomputable abbrev cX:=@PySem.W.any_some
noncomputable abbrev cY:=@PySem.wpAny_call
noncomputable abbrev cZ:=@Option.bind_some
noncomputable abbrev c6:=@List.countP_cons
noncomputable abbrev c8:=@List.getElem_map
noncomputable abbrev c9:=@Nat.mod_eq_of_lt
noncomputable abbrev pA:=@List.cons_append
noncomputable abbrev pB:=@PySem.wpAny_newList
noncomputable abbrev pC:=@PySem.Heap.get?_none_of_le
noncomputable abbrev pD:=@PySem.wpAny_newFunctionEnv
noncomputable abbrev pE:=@Nat.add_le_add_right
noncomputable abbrev pF:=@PySem.wpAny_execs_nil
noncomputable abbrev pG:=@List.length_nil
noncomputable abbrev pH:=@Nat.not_lt_zero
noncomputable abbrev pI:=@Nat.mul_add_mod
noncomputable abbrev pJ:=@Int.natCast_add
noncomputable abbrev pK:=@List.range_succ
noncomputable abbrev pL:=@PySem.W.plainGet_of
noncomputable abbrev pM:=@PySem.W.callWith_K0
noncomputable abbrev pN:=@List.mem_map_of_mem
noncomputable abbrev pO:=@List.map_eq_nil_iff
noncomputable abbrev pP:=@List.getElem?_range
noncomputable abbrev pQ:=@Nat.le_of_lt
noncomputable abbrev pR:=@Int.le_trans
noncomputable abbrev pS:=@Array.getD_eq_getD_getElem?
noncomputable abbrev pT:=@Int.le_of_lt
noncomputable abbrev pU:=@Nat.not_lt
noncomputable abbrev pV:=@Bool.false_eq_true
noncomputable abbrev pW:=@List.map_singleton
noncomputable abbrev pX:=@List.foldl_nil
noncomputable abbrev pZ:=@bne_self_eq_false
noncomputable abbrev p8:=@PySem.wpAny_standAt
noncomputable abbrev p9:=@List.length_drop
noncomputable abbrev sD:=@or_false
noncomputable abbrev sG:=@beq_self_eq_true
noncomputable abbrev sI:=@Nat.le_add_right
noncomputable abbrev sJ:=@Array.toList_inj
noncomputable abbrev sL:=@Array.toList_map
noncomputable abbrev sN:=@List.nodup_range
noncomputable abbrev sO:=@Nat.min_eq_right
noncomputable abbrev sP:=@Nat.zero_add
noncomputable abbrev sQ:=@Int.zero_add
noncomputable abbrev sS:=@List.of_mem_zip
noncomputable abbrev sT:=@List.foldl_cons
set_option genSizeOf false
namespace L2
open PySem PySem.Spec PyProof.Rows
noncomputable abbrev Key:=Sum Int Str
noncomputable def q79:Key→Value→Bool
 | .inl k,v=>Value.isInt k v
 | .inr x,v=>Value.isStrOf x v
noncomputable def keyH(w:World):Key→Int
 | .inl k=>hashInt k
 | .inr x=>hashStr w x
theorem yC:∀{k:Key} {v:Value},q79 k v=true→(∃i t,k=Sum.inl i∧v=Value.int i t)∨(∃x t,k=Sum.inr x∧v=Value.str x t)
 | .inl i,v,h=>by
  obtain⟨t,e⟩:=Value.isInt_shape (k:=i) (v:=v) h
  exact .inl ⟨i,t,rfl,e⟩
 | .inr x,v,h=>by
  obtain⟨t,e⟩:=Value.isStrOf_shape (x:=x) (v:=v) h
  exact .inr ⟨x,t,rfl,e⟩
theorem qC1(i:Int)(t:Tok):q79 (.inl i) (.int i t)=true:=by simp[q79,Value.isInt]
theorem qC2(x:Str)(t:Tok):q79 (.inr x) (.str x t)=true:=by simp[q79,Value.isStrOf]
theorem qHI(a b:Int):decide ((Sum.inl a:Key)=Sum.inl b)=(a==b):=by
 by_cases e:a=b
 ·subst e;simp
 ·have h:¬(Sum.inl a:Key)=Sum.inl b:=λq=>e (rV q)
  rw[hG h]
  exact(d6.mpr e).symm
theorem qHJ(a b:Str):decide ((Sum.inr a:Key)=Sum.inr b)=decide (a=b):=by
 by_cases e:a=b
 ·subst e;simp
 ·have h:¬(Sum.inr a:Key)=Sum.inr b:=λq=>e (Sum.inr.inj q)
  rw[hG h,hG e]
theorem qHK(a:Int)(b:Str):decide ((Sum.inl a:Key)=Sum.inr b)=false:=hG (λq=>nomatch q)
theorem qHL(a:Str)(b:Int):decide ((Sum.inr a:Key)=Sum.inl b)=false:=hG (λq=>nomatch q)
noncomputable def jN(prog:Program)(w:World):PySem.KeyKind prog w Key where
 is:=q79
 hash:=keyH w
 inj:=λv a b ha hb=>by
  rcases yC ha with⟨i,t,rfl,rfl⟩|⟨x,t,rfl,rfl⟩
  ·rcases yC hb with⟨j,u,rfl,e⟩|⟨y,u,rfl,e⟩
   ·injection e with e1 _;rw[e1]
   ·exact nomatch e
  ·rcases yC hb with⟨j,u,rfl,e⟩|⟨y,u,rfl,e⟩
   ·exact nomatch e
   ·injection e with e1 _;rw[e1]
 byValue:=λk v h=>by
  rcases yC h with⟨i,t,rfl,rfl⟩|⟨x,t,rfl,rfl⟩<;>rfl
 pyHash:=λhv h=>by
  rcases yC hv with⟨i,t,rfl,rfl⟩|⟨x,t,rfl,rfl⟩
  ·exact wpAny_pyHash_int h
  ·exact wpAny_pyHash_str h
 eqBool:=λhu hv h=>by
  rcases yC hu with⟨i,t,rfl,rfl⟩|⟨x,t,rfl,rfl⟩
  ·rcases yC hv with⟨j,u,rfl,rfl⟩|⟨y,u,rfl,rfl⟩
   ·rw[qHI]at h;exact wpAny_eqBool_int h
   ·rw[qHK]at h;exact SeqAt.EqAt.int_str i t y u _ _ _ _ h
  ·rcases yC hv with⟨j,u,rfl,rfl⟩|⟨y,u,rfl,rfl⟩
   ·rw[qHL]at h;exact SeqAt.EqAt.str_int x t j u _ _ _ _ h
   ·rw[qHJ]at h;exact wpAny_eqBool_str h
 «strs»:=λk x t v h=>by
  rcases yC h with⟨i,u,rfl,e⟩|⟨y,u,rfl,e⟩
  ·exact nomatch e
  ·injection e with e1 _
   subst e1
   cases v<;>rfl
theorem q8W(prog:Program)(w:World)(i:Int)(t:Tok):(jN prog w).is (.inl i) (.int i t)=true:=qC1 i t
theorem q8X(prog:Program)(w:World)(x:Str)(t:Tok):(jN prog w).is (.inr x) (.str x t)=true:=qC2 x t
inductive V where
 |non|bl (b:Bool)|int (i:Int)|str (x:Str)|byt (b:Array UInt8)|flt (b:UInt64)|ref (a:Addr)|ty (n:String)
 deriving DecidableEq
noncomputable def RelV:V→Value→Prop
 | .non,u=>u=Value.none
 | .bl b,u=>u=Value.bool b
 | .int i,u=>∃t,u=Value.int i t
 | .str x,u=>∃t,u=Value.str x t
 | .byt b,u=>∃t,u=Value.bytes b t
 | .flt b,u=>∃t,u=Value.float b t
 | .ref a,u=>u=Value.ref a
 | .ty n,u=>u=Value.type n
noncomputable abbrev Vals:List V→List Value→Prop:=Paired RelV
theorem Vals.length{xs:List V}{us:List Value}(r:Vals xs us):xs.length=us.length:=Paired.length r
theorem Vals.get:∀{xs:List V} {us:List Value} {i:Nat} {x:V},Vals xs us→xs[i]?=some x→∃u,us[i]?=some u∧RelV x u
 |_,_,_,_,.nil,e=>by simp at e
 |_,_,0,_,.cons r _,e=>by simp at e;subst e;exact⟨_,rfl,r⟩
 |_,_,i+1,x,.cons _ t,e=>by
  obtain⟨u,h1,h2⟩:=Vals.get (i:=i) (x:=x) t (by simpa using e)
  exact⟨u,by simpa using h1,h2⟩
theorem Vals.set{x:V}{u:Value}(r:RelV x u):∀{xs:List V} {us:List Value} (i:Nat),Vals xs us→Vals (xs.set i x) (us.set i u)
 |_,_,_,.nil=>.nil
 |_,_,0,.cons _ t=>.cons r t
 |_,_,i+1,.cons q t=>.cons q (Vals.set r i t)
theorem Vals.append:∀{xs ys:List V} {us ws:List Value},Vals xs us→Vals ys ws→Vals (xs++ys) (us++ws)
 |_,_,_,_,.nil,s=>s
 |_,_,_,_,.cons r t,s=>.cons r (Vals.append t s)
theorem Vals.take:∀{xs:List V} {us:List Value} (n:Nat),Vals xs us→Vals (xs.take n) (us.take n)
 |_,_,0,_=>.nil
 |_,_,_ +1,.nil=>.nil
 |_,_,n+1,.cons r t=>.cons r (Vals.take n t)
theorem Vals.drop:∀{xs:List V} {us:List Value} (n:Nat),Vals xs us→Vals (xs.drop n) (us.drop n)
 |_,_,0,r=>r
 |_,_,_ +1,.nil=>.nil
 |_,_,n+1,.cons _ t=>Vals.drop n t
noncomputable def RelO:Option V→Option Value→Prop
 |some v,some u=>RelV v u
 |none,none=>True
 |_,_=>False
noncomputable def KV{κ:Type}:List (κ×V)→List (κ×Value)→Prop:=Paired λ(p:κ×V) (q:κ×Value)=>p.1=q.1∧RelV p.2 q.2
noncomputable def kV:Key→V
 | .inl i=>.int i
 | .inr x=>.str x
inductive HO where
 |lst (xs:List V)
 |tup (xs:List V)
 |dK (kvs:List (Key×V))|dT (kvs:List (List Key×V))
 |set (S:Int→Bool) (n:Nat)
 |ins (C dx:Addr) (fs:List (Str×V))
 |own (x:Addr)
 |xd (fs:List (Str×V))
 |met (f x:Addr)
 |rng (lo hi:Int)
 |frz (o:Obj) (u:HO)
 |tbl (ps:Array Value)
 |ext (φ:Heap→Prop)
noncomputable abbrev Hp:=Addr→Option HO
noncomputable def upd(H:Hp)(a:Addr)(o:HO):Hp:=λb=>if b=a then some o else H b
theorem qI{H:Hp}{a:Addr}{o:HO}:upd H a o a=some o:=by unfold upd;rw[kF rfl]
theorem qC{H:Hp}{a b:Addr}{o:HO}(h:b≠a):upd H a o b=H b:=by unfold upd;rw[kB h]
theorem q7W{H:Hp}{a:Addr}{o u:HO}:upd (upd H a o) a u=upd H a u:=by
 funext b;unfold upd;split<;>rfl
theorem jS{H:Hp}{a b:Addr}{o u:HO}(h:H a=some o)(h':H b=some u)(d:o≠u):a≠b:=by
 intro e;subst e;rw[h]at h';exact d (kP h')
theorem qF{H:Hp}{a b:Addr}{o:HO}(h:H a=some o)(h':H b=none):a≠b:=by
 intro e;subst e;rw[h]at h';cases h'
section
variable(P:Program)(w:World)
noncomputable def jK(H:Hp)(h:Heap)(a:Addr):HO→Prop
 | .lst xs=>xs.length≤sizeLine∧∃(its:List Value) (n:Nat),Vals xs its∧h.get? a=some { cls:=.type "list",data:=.seq its.toArray n }
 | .tup xs=>xs.length≤sizeLine∧∃its:List Value,Vals xs its∧IsTup h a its.toArray
 | .dK kvs=>kvs.length≤sizeLine∧(a==sysModules)=false∧∃vs,KV kvs vs∧h.DictOf (jN P w) a vs
 | .dT kvs=>kvs.length≤sizeLine∧(a==sysModules)=false∧∃xs:List (List Key×Addr×Value),
   Paired (λ(p:List Key×V) (q:List Key×Addr×Value)=>p.1=q.1∧H q.2.1=some (.tup (p.1.map kV))∧RelV p.2 q.2.2) kvs xs∧
   ∃o es ep,h.get? a=some o∧o.ExactDict∧o.data=.dict es ep∧es.toList=xs.map (entryOfKey (tupleKind (jN P w)))∧(xs.map (·.1)).Nodup
 | .set S n=>h.SetOf (intKind P w) a S n
 | .ins C dx fs=>H dx=some (.own a)∧fs.length≤1000∧dx≠a∧h.get? a=some (PySem.W.instObj C dx)∧
   ∃mA,h.Ns1 dx mA∧(∀f,RelO (fs.lookup f) (mA f))∧PySem.Within mA (fs.map (·.1))
 | .own _=>∃o,h.get? a=some o
 | .xd fs=>∃mA,h.Ns1 a mA∧∀f,RelO (fs.lookup f) (mA f)
 | .rng lo hi=>∃t u v,h.get? a=some { cls:=.type "range",data:=.fields #[.int lo t,.int hi u,.int 1 v] }
 | .frz o u=>h.get? a=some o∧jK H h a u
 | .tbl ps=>h.get? a=some { cls:=.none,data:=.fields ps }
 | .met f x=>h.get? a=some (PySem.W.methodObj (.ref f) (.ref x))
 | .ext φ=>φ h∧(∃o,h.get? a=some o)∧∀h1 h2:Heap,φ h1→(∀o,h1.get? a=some o→h2.get? a=some o)→φ h2
noncomputable def HOk(H:Hp)(h:Heap):Prop:=∀a o,H a=some o→jK P w H h a o
end
section
variable{P:Program}{w:World}{H H':Hp}{h h':Heap}{a:Addr}{o:HO}
theorem jK.lt(x:jK P w H h a o):a<h.objs.size:=by
 cases o with
 |lst xs=>obtain⟨_,_,_,_,e⟩:=x;exact kX e
 |tup xs=>obtain⟨_,_,_,p⟩:=x;exact p.lt
 |dK kvs=>obtain⟨_,_,_,_,o,_,_,e,_⟩:=x;exact kX e
 |dT kvs=>obtain⟨_,_,_,_,o,_,_,e,_⟩:=x;exact kX e
 |set S n=>obtain⟨o,_,_,_,e,_⟩:=x;exact kX e
 |ins C dx fs=>obtain⟨_,_,_,e,_⟩:=x;exact kX e
 |own y=>obtain⟨_,e⟩:=x;exact kX e
 |xd fs=>obtain⟨_,⟨_,_,_,e,_⟩,_⟩:=x;exact kX e
 |rng lo hi=>obtain⟨_,_,_,e⟩:=x;exact kX e
 |frz ob u=>obtain⟨e,_⟩:=x;exact kX e
 |tbl ps=>exact kX (show h.get? a=some _ from x)
 |met f y=>exact kX (show h.get? a=some _ from x)
 |ext φ=>obtain⟨_,⟨_,e⟩,_⟩:=x;exact kX e
theorem Paired.mapP{α β:Type}{F G:α→β→Prop}:∀{l₁:List α} {l₂:List β},Paired F l₁ l₂→(∀a b,F a b→G a b)→Paired G l₁ l₂
 |_,_,.nil,_=>.nil
 |_,_,.cons r t,f=>.cons (f _ _ r) (Paired.mapP t f)
theorem jK.stay(x:jK P w H h a o)(k:∀b u,(b=a∨H b=some (.own a))→h.get? b=some u→h'.get? b=some u)
 (ho:∀b,H b=some (.own a)→H' b=some (.own a)) (ht:∀b xs,H b=some (.tup xs)→H' b=some (.tup xs)):jK P w H' h' a o:=by
 induction o with
 |lst xs=>obtain⟨z,its,n,r,e⟩:=x;exact⟨z,its,n,r,k _ _ (.inl rfl) e⟩
 |tup xs=>obtain⟨z,its,r,ob,e,c⟩:=x;exact⟨z,its,r,ob,k _ _ (.inl rfl) e,c⟩
 |dK kvs=>obtain⟨z,y,vs,r,ob,es,ep,e,c⟩:=x;exact⟨z,y,vs,r,ob,es,ep,k _ _ (.inl rfl) e,c⟩
 |dT kvs=>
  obtain⟨z,y,xs,r,ob,es,ep,e,c⟩:=x
  exact⟨z,y,xs,Paired.mapP r λp q z=>⟨z.1,ht _ _ z.2.1,z.2.2⟩,ob,es,ep,k _ _ (.inl rfl) e,c⟩
 |set S n=>obtain⟨ob,es,ep,t,e,c⟩:=x;exact⟨ob,es,ep,t,k _ _ (.inl rfl) e,c⟩
 |ins C dx fs=>
  obtain⟨d,z,ne,e,mA,⟨od,es,ep,e2,c⟩,r⟩:=x
  exact⟨ho _ d,z,ne,k _ _ (.inl rfl) e,mA,⟨od,es,ep,k _ _ (.inr d) e2,c⟩,r⟩
 |own y=>obtain⟨ob,e⟩:=x;exact⟨ob,k _ _ (.inl rfl) e⟩
 |xd fs=>obtain⟨mA,⟨od,es,ep,e,c⟩,r⟩:=x;exact⟨mA,⟨od,es,ep,k _ _ (.inl rfl) e,c⟩,r⟩
 |rng lo hi=>obtain⟨t,u,v,e⟩:=x;exact⟨t,u,v,k _ _ (.inl rfl) e⟩
 |frz ob u ih=>obtain⟨e,q⟩:=x;exact⟨k _ _ (.inl rfl) e,ih q⟩
 |tbl ps=>
  have e:h.get? a=some { cls:=.none,data:=.fields ps }:=x
  show h'.get? a=some { cls:=.none,data:=.fields ps }
  exact k a _ (.inl rfl) e
 |met f y=>
  have e:h.get? a=some (PySem.W.methodObj (.ref f) (.ref y)):=x
  show h'.get? a=some (PySem.W.methodObj (.ref f) (.ref y))
  exact k a _ (.inl rfl) e
 |ext φ=>obtain⟨p,⟨o,e⟩,st⟩:=x;exact⟨st _ _ p λo q=>k _ _ (.inl rfl) q,⟨o,k _ _ (.inl rfl) e⟩,st⟩
theorem HOk.lt(x:HOk P w H h)(e:H a=some o):a<h.objs.size:=(x a o e).lt
theorem HOk.fresh(x:HOk P w H h)(e:h.objs.size≤a):H a=none:=by
 cases q:H a with
 |none=>rfl
 |some u=>exact absurd (mY (x.lt q) e) (rD _)
theorem HOk.kept(x:HOk P w H h)(k:∀b u,h.get? b=some u→h'.get? b=some u):HOk P w H h':=λa o e=>
 (x a o e).stay (λb u _ q=>k b u q) (λ_ q=>q) λ_ _ q=>q
theorem HOk.laid(x:HOk P w H h)(k:∀b u,h.get? b=some u→h'.get? b=some u)(hp:h.objs.size≤a)(new:jK P w (upd H a o) h' a o):HOk P w (upd H a o) h':=λb u e=>by
 have hn:=x.fresh hp
 by_cases hb:b=a
 ·subst hb;rw[qI]at e;cases e;exact new
 ·rw[qC hb]at e
  exact(x b u e).stay (λc v _ q=>k c v q) (λc q=>by rw[qC (qF q hn)];exact q) λc xs q=>by rw[qC (qF q hn)];exact q
end
noncomputable def Rd(H:Hp)(a:Addr)(u:HO):Prop:=H a=some u∨∃o,H a=some (.frz o u)
theorem Rd.ok{P:Program}{w:World}{H:Hp}{h:Heap}{a:Addr}{u:HO}(r:Rd H a u)(x:HOk P w H h):jK P w H h a u:=by
 rcases r with r|⟨o,r⟩
 ·exact x a u r
 ·obtain⟨_,q⟩:=x a _ r
  exact q
noncomputable def Mut:Option HO→Prop
 |some (.lst _)=>True
 |some (.dK _)=>True
 |some (.dT _)=>True
 |some (.set _ _)=>True
 |some (.ins _ _ _)=>True
 |some (.ext _)=>True
 |_=>False
section
variable{P:Program}{w:World}{H:Hp}{h h':Heap}{x e:Addr}{o':HO}
theorem HOk.write(ok:HOk P w H h)(mu:Mut (H x))(he:e=x∨H e=some (.own x))(k:∀b u,b≠e→h.get? b=some u→h'.get? b=some u)(heo:∃u,h'.get? e=some u)
 (new:jK P w (upd H x o') h' x o'):HOk P w (upd H x o') h':=λb u q=>by
 have nown:∀c y,H c=some (.own y)→c≠x:=λc y r z=>by subst z;rw[r]at mu;exact mu
 have ntup:∀c xs,H c=some (.tup xs)→c≠x:=λc xs r z=>by subst z;rw[r]at mu;exact mu
 by_cases hb:b=x
 ·subst hb;rw[qI]at q;cases q;exact new
 ·rw[qC hb]at q
  by_cases hbe:b=e
  ·have q':H b=some (.own x):=by
    rcases he with z|z
    ·exact absurd (hbe.trans z) hb
    ·rw[hbe];exact z
   rw[q]at q';cases q'
   obtain⟨v,hv⟩:=heo
   exact⟨v,by rw[hbe];exact hv⟩
  ·refine(ok b u q).stay (λc v hc r=>k c v ?_ r) (λc r=>by rw[qC (nown c b r)];exact r) λc xs r=>by rw[qC (ntup c xs r)];exact r
   rcases hc with rfl|hc
   ·exact hbe
   ·rintro rfl
    rcases he with z|z
    ·exact nown c b hc z
    ·rw[hc]at z;cases z;exact hb rfl
end
structure Un(fs ex:List Addr)(H H':Hp)(h h':Heap):Prop where
 keep:∀b o,h.get? b=some o→H b=none→b∉fs→b∉ex→h'.get? b=some o
 slot:∀b o,h.get? b=some o→H b=none→b∈fs→b∉ex→∃sl,h'.get? b=some { o with slots:=sl }
 free:∀b o,h.get? b=some o→H b=none→b∉ex→H' b=none
 there:∀b o,h.get? b=some o→b∉ex→∃o',h'.get? b=some o'
 tups:∀b xs,H b=some (.tup xs)→H' b=some (.tup xs)
 frzs:∀b o u,H b=some (.frz o u)→H' b=some (.frz o u)
 tbls:∀b ps,H b=some (.tbl ps)→∃more,H' b=some (.tbl (ps++more))
section
variable{fs fs' ex ex':List Addr}{H H1 H2:Hp}{h h1 h2 h':Heap}{a x e:Addr}{o:HO}
theorem Un.any(u:Un fs ex H H1 h h1){b:Addr}{ob:Obj}(q:h.get? b=some ob)(n:H b=none)(hx:b∉ex):∃sl,h1.get? b=some { ob with slots:=sl }:=by
 by_cases hb:b∈fs
 ·exact u.slot b ob q n hb hx
 ·exact⟨ob.slots,u.keep b ob q n hb hx⟩
theorem Un.trans(a:Un fs ex H H1 h h1)(b:Un fs ex H1 H2 h1 h2):Un fs ex H H2 h h2 where
 keep:=λc ob q n hc hx=>b.keep c ob (a.keep c ob q n hc hx) (a.free c ob q n hx) hc hx
 slot:=λc ob q n hc hx=>by
  obtain⟨sl,e1⟩:=a.slot c ob q n hc hx
  obtain⟨sl',e2⟩:=b.slot c _ e1 (a.free c ob q n hx) hc hx
  exact⟨sl',e2⟩
 free:=λc ob q n hx=>by
  obtain⟨o',e1⟩:=a.there c ob q hx
  exact b.free c o' e1 (a.free c ob q n hx) hx
 there:=λc ob q hx=>by
  obtain⟨o',e1⟩:=a.there c ob q hx
  exact b.there c o' e1 hx
 tups:=λc xs q=>b.tups c xs (a.tups c xs q)
 frzs:=λc ob xs q=>b.frzs c ob xs (a.frzs c ob xs q)
 tbls:=λc ps q=>by
  obtain⟨m1,e1⟩:=a.tbls c ps q
  obtain⟨m2,e2⟩:=b.tbls c _ e1
  exact⟨m1++m2,by rw[e2,Array.append_assoc]⟩
theorem Un.kept(k:∀b u,h.get? b=some u→h'.get? b=some u):Un fs ex H H h h':=
 ⟨λb ob q _ _ _=>k b ob q,λb ob q _ _ _=>⟨ob.slots,k b ob q⟩,λ_ _ _ n _=>n,λb ob q _=>⟨ob,k b ob q⟩,λ_ _ q=>q,λ_ _ _ q=>q,λ_ ps q=>⟨#[],by rw[q];simp⟩⟩
theorem Un.refl:Un fs ex H H h h:=Un.kept λ_ _ q=>q
theorem Un.laid(k:∀b u,h.get? b=some u→h'.get? b=some u)(hp:h.objs.size≤a)(hn:H a=none):Un fs ex H (upd H a o) h h' where
 keep:=λb u q _ _ _=>k b u q
 slot:=λb u q _ _ _=>⟨u.slots,k b u q⟩
 free:=λb u q n _=>by rw[qC (mW (mY (kX q) hp))];exact n
 there:=λb u q _=>⟨u,k b u q⟩
 tups:=λb xs q=>by rw[qC (qF q hn)];exact q
 frzs:=λb u xs q=>by rw[qC (qF q hn)];exact q
 tbls:=λb ps q=>⟨#[],by rw[qC (qF q hn),q];simp⟩
theorem Un.write(mu:Mut (H x))(he:e=x∨H e=some (.own x))(k:∀b u,b≠e→h.get? b=some u→h'.get? b=some u)(heo:∃u,h'.get? e=some u):Un fs ex H (upd H x o) h h':=by
 have hx:∀b,H b=none→b≠x:=λb n z=>by subst z;rw[n]at mu;exact mu
 have hb:∀b,H b=none→b≠e:=λb n z=>by
  subst z
  rcases he with r|r
  ·exact hx b n r
  ·rw[n]at r;cases r
 have hm:∀b u,H b=some u→¬Mut (some u)→b≠x:=λb u q nm z=>by subst z;rw[q]at mu;exact nm mu
 refine⟨λb u q n _ _=>k b u (hb b n) q,λb u q n _ _=>⟨u.slots,k b u (hb b n) q⟩,λb u q n _=>by rw[qC (hx b n)];exact n,λb u q _=>?_,
  λb xs q=>by rw[qC (hm b _ q λz=>z)];exact q,λb u xs q=>by rw[qC (hm b _ q λz=>z)];exact q,λb ps q=>⟨#[],by rw[qC (hm b _ q λz=>z),q];simp⟩⟩
 by_cases hbe:b=e
 ·subst hbe;exact heo
 ·exact⟨u,k b u hbe q⟩
end
noncomputable def trk(h:Heap)(H:Hp):List Addr:=(List.range h.objs.size).filter λa=>(H a).isSome
noncomputable def hidT(h:Heap)(H:Hp):Heap:=PySem.W.hideAll h (trk h H)
theorem q7A(h:Heap)(H:Hp):(hidT h H).objs.size=h.objs.size:=PySem.W.hideAll_size _ _
theorem q5P{h:Heap}{H:Hp}{b:Addr}{o:Obj}(e:h.get? b=some o)(n:H b=none):(hidT h H).get? b=some o:=
 PySem.W.hideAll_get _ e λhm=>by
  have q:(H b).isSome=true:=(mM.mp hm).2
  rw[n]at q;simp at q
theorem qAX{h:Heap}{H:Hp}{b:Addr}{o:Obj}(e:(hidT h H).get? b=some o):h.get? b=some o∧H b=none:=by
 have e':h.get? b=some o:=PySem.W.of_hideAll (trk h H) e
 refine⟨e',?_⟩
 cases q:H b with
 |none=>rfl
 |some x=>
  have hm:b∈trk h H:=mM.mpr ⟨mP.mpr (kX e'),by simp[q]⟩
  have z:(hidT h H).get? b=none:=PySem.W.hideAll_none (trk h H) hm
  rw[z]at e;cases e
structure Mod(K:PySem.W.Frag)(mg:Str→Option Value)(base:Heap):Prop where
 kin:K.In base
 glob:base.Ns mainGlobals mg
 blt:∃mb,base.Ns builtinsNs mb∧∀x:Str,x≠"__name__"→mb x=bootBuiltins x
 nolimit:base.NoLimit
structure Cx where
 prog:Program
 w:World
 K:PySem.W.Frag
 mg:Str→Option Value
 base:Heap
 A:Around
 N:List Str
 s₀:Shared
 H₀:Hp
 env:Env
 outer:List Env
 stack:List Env
 ex:List Addr
 fn:Str→Bool
 calm:Bool
 pn:List (Addr×Obj)
 xe:Value→Shared→Prop
noncomputable def frs(l:List Env):List Addr:=l.filterMap (·.frame)
noncomputable abbrev Cx.fs(X:Cx):List Addr:=frs X.outer
noncomputable def Vis(sc:Scope)(x:Str):Prop:=sc.names.lookup x=some .local∨sc.names.lookup x=some .cell∨sc.names.lookup x=some .free
noncomputable def Loc(sc:Scope)(x:Str):Prop:=sc.names.lookup x=some .local∨sc.names.lookup x=some .cell
noncomputable def Look(env:Env)(h:Heap)(m:Str→Option Value)(x:Str)(u:Value):Prop:=
 (env.kindOf x=some .local∧m x=some u)∨((env.kindOf x=some .cell∨env.kindOf x=some .free)∧∃c,env.cells.lookup x=some c∧h.IsCell c (some u))
structure Cx.Ok(X:Cx):Prop where
 mod:Mod X.K X.mg X.base
 kind:X.env.scope.kind=.function
 glob:X.env.globals=mainGlobals
 blt:X.env.builtins=builtinsNs
 above:X.s₀.heap.objs.size≤X.env.locals
 inj:∀x y c,X.env.cells.lookup x=some c→X.env.cells.lookup y=some c→x=y
 has:∀x,(X.env.kindOf x=some .cell∨X.env.kindOf x=some .free)→∃c,X.env.cells.lookup x=some c
 cab:∀x c,X.fn x=true→X.env.cells.lookup x=some c→X.s₀.heap.objs.size≤c
 hd:X.calm=true→X.A.handled=none
 frames:X.A.frames=some X.stack
 stk:X.stack=X.outer∨(X.stack=X.env::X.outer∧X.env.frame=some X.env.locals)
 exf:∀b∈X.ex,b≠X.env.locals∧∀x c,X.env.cells.lookup x=some c→c≠b
 bs:∀b o,X.base.get? b=some o→X.s₀.heap.get? b=some o∧X.H₀ b=none
 bsz:X.base.objs.size≤X.s₀.heap.objs.size
 noex:∀b o,X.base.get? b=some o→b∉X.ex
 exfs:∀b∈X.ex,b∉X.fs
 funs:X.s₀.heap.FunFrames X.base X.outer
 frf:∀b∈X.fs,X.H₀ b=none
structure Inv(X:Cx)(pins:List (Addr×Obj))(σ:List (Option V))(H:Hp)(s:Shared):Prop where
 ok:X.Ok
 os:s.os=X.s₀.os
 bare:AllBare s.gens
 base:Un X.fs X.ex X.H₀ H X.s₀.heap s.heap
 loc:∃m,s.heap.Ns X.env.locals m∧∀(i:Nat) (x:Str) (v:V),X.N[i]?=some x→σ[i]?=some (some v)→Vis X.env.scope x→∃u,RelV v u∧Look X.env s.heap m x u
 cell:∀x c,X.env.cells.lookup x=some c→∃v,s.heap.IsCell c v
 free:H X.env.locals=none
 freeC:∀x c,X.env.cells.lookup x=some c→H c=none
 pin:∀p∈X.pn++pins,s.heap.get? p.1=some p.2∧H p.1=none∧p.1≠X.env.locals∧p.1∉X.fs∧∀v,p.2.data≠ .cell v
 hok:HOk X.prog X.w H s.heap
 len:σ.length=X.N.length
section
variable{X:Cx}{pins:List (Addr×Obj)}{σ:List (Option V)}{H H':Hp}{s:Shared}{h':Heap}
theorem Cx.Ok.nofr(ok:X.Ok){b:Addr}{o:Obj}(e:X.base.get? b=some o):b∉X.fs:=λhb=>by
 have:=(ok.funs.mem hb).1
 rw[e]at this;cases this
theorem Inv.bs(I:Inv X pins σ H s):∀b o,X.base.get? b=some o→s.heap.get? b=some o∧H b=none:=λb o e=>
 ⟨I.base.keep b o (I.ok.bs b o e).1 (I.ok.bs b o e).2 (I.ok.nofr e) (I.ok.noex b o e),I.base.free b o (I.ok.bs b o e).1 (I.ok.bs b o e).2 (I.ok.noex b o e)⟩
theorem Inv.bk(I:Inv X pins σ H s):∀b o,X.base.get? b=some o→s.heap.get? b=some o:=λb o e=>(I.bs b o e).1
theorem Inv.mod(I:Inv X pins σ H s):Mod X.K X.mg X.base:=I.ok.mod
theorem Inv.kIn(I:Inv X pins σ H s):X.K.In s.heap:=I.ok.mod.kin.keeps I.bk
theorem Inv.fr(I:Inv X pins σ H s):∃m,Fr X.base X.env.locals s.heap m:=
 let⟨m,hn,_⟩:=I.loc
 ⟨m,hn,I.bk,mI I.ok.bsz I.ok.above⟩
theorem Inv.lt(I:Inv X pins σ H s):X.env.locals<s.heap.objs.size:=let⟨_,hn,_⟩:=I.loc;hn.lt
theorem Inv.sz(I:Inv X pins σ H s):X.s₀.heap.objs.size≤s.heap.objs.size:=mI I.ok.above (pQ I.lt)
theorem Inv.nofs(I:Inv X pins σ H s){a:Addr}(h:s.heap.objs.size≤a):a∉X.fs:=λhb=>by
 obtain⟨_,o,ho,_⟩:=I.ok.funs.mem hb
 exact absurd (mY (kX ho) (mI I.sz h)) (rD _)
theorem Inv.cne(I:Inv X pins σ H s):∀x c,X.env.cells.lookup x=some c→c≠X.env.locals:=λx c e z=>by
 obtain⟨v,o,ho,hd⟩:=I.cell x c e
 obtain⟨m,⟨o',es,ep,ho',hd',_⟩,_⟩:=I.loc
 rw[z,ho']at ho;cases ho;rw[hd']at hd;cases hd
theorem Inv.funs(I:Inv X pins σ H s):s.heap.FunFrames X.base X.outer:=by
 have all:∀(l:List Env),(∀b∈frs l,b∈X.fs)→X.s₀.heap.FunFrames X.base l→s.heap.FunFrames X.base l:=by
  intro l
  induction l with
  |nil=>intro _ _;trivial
  |cons env r ih=>
   intro hs hl
   obtain⟨hk,⟨L,o,hf,hn,ho,hd⟩,hr⟩:=hl
   have hL:L∈X.fs:=hs L (by unfold frs;rw[wD,hf];exact kW)
   obtain⟨sl,e⟩:=I.base.slot L o ho (I.ok.frf L hL) hL λz=>I.ok.exfs L z hL
   exact⟨hk,⟨L,_,hf,hn,e,hd⟩,ih (λb hb=>hs b (by unfold frs;rw[wD,hf];exact hU _ hb)) hr⟩
 exact all X.outer (λ_ hb=>hb) I.ok.funs
theorem Inv.stack(I:Inv X pins σ H s):s.heap.FunFrames X.base X.stack:=by
 rcases I.ok.stk with e|⟨e,hf⟩
 ·rw[e];exact I.funs
 ·rw[e]
  obtain⟨m,hn,_⟩:=I.loc
  refine .cons (by rw[I.ok.kind];decide) hf hn ?_ I.funs
  exact pC (mI I.ok.bsz I.ok.above)
theorem Inv.stkSub(I:Inv X pins σ H s):∀b∈frs X.stack,b∈X.env.locals::X.fs:=λb hb=>by
 rcases I.ok.stk with e|⟨e,hf⟩
 ·rw[e]at hb;exact hU _ hb
 ·rw[e]at hb
  unfold frs at hb
  rw[wD,hf]at hb
  exact hb
theorem Inv.stkFree(I:Inv X pins σ H s):∀b∈frs X.stack,H b=none:=λb hb=>by
 rcases kL.mp (I.stkSub b hb)with e|hb
 ·rw[e];exact I.free
 ·obtain⟨_,o,ho,_⟩:=I.ok.funs.mem hb
  exact I.base.free b o ho (I.ok.frf b hb) λz=>I.ok.exfs b z hb
theorem Inv.step{g':Array GenState}{t':Nat}{d':Drawn}{ch:List Addr}(I:Inv X pins σ H s)
 (hch:∀b∈ch,(b∈X.ex∨X.s₀.heap.objs.size≤b)∧b≠X.env.locals∧(∀x c,X.env.cells.lookup x=some c→c≠b)∧∀p∈X.pn++pins,p.1≠b)
 (keep:∀b o,b≠X.env.locals→b∉X.fs→b∉ch→s.heap.get? b=some o→H b=none→h'.get? b=some o)
 (slot:∀b o,b≠X.env.locals→b∈X.fs→b∉ch→s.heap.get? b=some o→H b=none→∃sl,h'.get? b=some { o with slots:=sl }) (free:∀b o,b∉ch→s.heap.get? b=some o→H b=none→H' b=none)
 (there:∀b o,b∉ch→s.heap.get? b=some o→∃o',h'.get? b=some o')
 (tups:∀b xs,H b=some (.tup xs)→H' b=some (.tup xs)) (frzs:∀b o u,H b=some (.frz o u)→H' b=some (.frz o u)) (tbls:∀b ps,H b=some (.tbl ps)→∃more,H' b=some (.tbl (ps++more)))
 (ns:∀m,s.heap.Ns X.env.locals m→h'.Ns X.env.locals m) (hok:HOk X.prog X.w H' h') (hg:AllBare g'):
 Inv X pins σ H' { s with heap:=h',gens:=g',drawn:=d',toks:=t' }:=by
 have neL:∀b o,X.s₀.heap.get? b=some o→b≠X.env.locals:=λb o e=>mW (mY (kX e) I.ok.above)
 have neC:∀b o,X.s₀.heap.get? b=some o→b∉X.ex→b∉ch:=λb o e hx hb=>by
  rcases(hch b hb).1 with z|z
  ·exact hx z
  ·exact absurd (mY (kX e) z) (rD _)
 have cellK:∀x c,X.env.cells.lookup x=some c→∀v,s.heap.IsCell c v→h'.IsCell c v:=λx c e v ⟨o,ho,hd⟩=>by
  have nch:c∉ch:=λz=>(hch c z).2.2.1 x c e rfl
  by_cases hc:c∈X.fs
  ·obtain⟨sl,q⟩:=slot c o (I.cne x c e) hc nch ho (I.freeC x c e)
   exact⟨_,q,hd⟩
  ·exact⟨o,keep c o (I.cne x c e) hc nch ho (I.freeC x c e),hd⟩
 refine⟨I.ok,I.os,hg,⟨λb o e n hb hx=>?_,λb o e n hb hx=>?_,λb o e n hx=>?_,λb o e hx=>?_,λb xs e=>tups b xs (I.base.tups b xs e),λb o xs e=>frzs b o xs (I.base.frzs b o xs e),λb ps e=>?_⟩,?_,λx c e=>?_,?_,λx c e=>?_,λp hp=>?_,hok,I.len⟩
 ·exact keep b o (neL b o e) hb (neC b o e hx) (I.base.keep b o e n hb hx) (I.base.free b o e n hx)
 ·obtain⟨sl,e1⟩:=I.base.slot b o e n hb hx
  obtain⟨sl',e2⟩:=slot b _ (neL b o e) hb (neC b o e hx) e1 (I.base.free b o e n hx)
  exact⟨sl',e2⟩
 ·obtain⟨o',e1⟩:=I.base.there b o e hx
  exact free b o' (neC b o e hx) e1 (I.base.free b o e n hx)
 ·obtain⟨o',e1⟩:=I.base.there b o e hx
  exact there b o' (neC b o e hx) e1
 ·obtain⟨m1,e1⟩:=I.base.tbls b ps e
  obtain⟨m2,e2⟩:=tbls b _ e1
  exact⟨m1++m2,by rw[e2,Array.append_assoc]⟩
 ·obtain⟨m,hn,hl⟩:=I.loc
  refine⟨m,ns m hn,λi x v e1 e2 e3=>?_⟩
  obtain⟨u,r,l⟩:=hl i x v e1 e2 e3
  refine⟨u,r,?_⟩
  rcases l with l|⟨k,c,e,z⟩
  ·exact .inl l
  ·exact .inr ⟨k,c,e,cellK x c e _ z⟩
 ·obtain⟨v,z⟩:=I.cell x c e
  exact⟨v,cellK x c e v z⟩
 ·obtain⟨m,⟨o,_,_,ho,_⟩,_⟩:=I.loc
  exact free _ o (λz=>(hch _ z).2.1 rfl) ho I.free
 ·obtain⟨v,o,ho,hd⟩:=I.cell x c e
  exact free c o (λz=>(hch c z).2.2.1 x c e rfl) ho (I.freeC x c e)
 ·obtain⟨e,n,ne,nf,d⟩:=I.pin p hp
  have nch:p.1∉ch:=λz=>(hch p.1 z).2.2.2 p hp rfl
  exact⟨keep p.1 p.2 ne nf nch e n,free p.1 p.2 nch e n,ne,nf,d⟩
theorem Inv.un{t':Nat}(I:Inv X pins σ H s)(u:Un X.fs [] H H' s.heap h')(hok:HOk X.prog X.w H' h'):Inv X pins σ H' { s with heap:=h',toks:=t' }:=by
 obtain⟨m,⟨o,es,ep,ho,r⟩,_⟩:=id I.loc
 obtain⟨sl,hL⟩:=u.any ho I.free (by simp)
 exact I.step (g':=s.gens) (d':=s.drawn) (ch:=[]) (λ_ z=>nomatch z) (λb o _ hb _ e n=>u.keep b o e n hb (by simp)) (λb o _ hb _ e n=>u.slot b o e n hb (by simp)) (λb o _ e n=>u.free b o e n (by simp)) (λb o _ e=>u.there b o e (by simp)) u.tups u.frzs u.tbls (λm' hm=>by
  obtain⟨o',es',ep',ho',r'⟩:=hm
  rw[ho]at ho';cases ho'
  exact⟨_,es',ep',hL,r'⟩) hok I.bare
theorem Inv.call{g':Array GenState}{t':Nat}{d':Drawn}{ch:List Addr}(I:Inv X pins σ H s)(u:Un (frs X.stack) ch H H' s.heap h')(hok:HOk X.prog X.w H' h')(hg:AllBare g')
 (hch:∀b∈ch,(b∈X.ex∨X.s₀.heap.objs.size≤b)∧b≠X.env.locals∧(∀x c,X.env.cells.lookup x=some c→c≠b)∧∀p∈X.pn++pins,p.1≠b):
 Inv X pins σ H' { s with heap:=h',gens:=g',drawn:=d',toks:=t' }:=by
 obtain⟨m,⟨o,es,ep,ho,r⟩,_⟩:=id I.loc
 obtain⟨sl,hL⟩:=u.any ho I.free λz=>(hch _ z).2.1 rfl
 exact I.step (ch:=ch) hch (λb o hL hb hc e n=>u.keep b o e n (λz=>(kL.mp (I.stkSub b z)).elim hL hb) hc) (λb o _ _ hc e n=>u.any e n hc) (λb o hc e n=>u.free b o e n hc) (λb o hc e=>u.there b o e hc) u.tups u.frzs u.tbls (λm' hm=>by
  obtain⟨o',es',ep',ho',r'⟩:=hm
  rw[ho]at ho';cases ho'
  exact⟨_,es',ep',hL,r'⟩) hok hg
theorem Inv.turned{t':Nat}{it:Addr}(I:Inv X pins σ H s)(k:∀b o,b≠it→s.heap.get? b=some o→h'.get? b=some o)(hn:H it=none)(hL:it≠X.env.locals)
 (h1:it∈X.ex∨X.s₀.heap.objs.size≤it) (h2:∀x c,X.env.cells.lookup x=some c→c≠it) (h3:∀p∈X.pn++pins,p.1≠it):Inv X pins σ H { s with heap:=h',toks:=t' }:=by
 have nit:∀b u,H b=some u→b≠it:=λb u e z=>by rw[z,hn]at e;cases e
 refine I.step (g':=s.gens) (d':=s.drawn) (ch:=[it]) (λb hb=>?_) (λb o _ _ hc e _=>k b o (λz=>hc (by simp[z])) e) (λb o _ _ hc e _=>⟨o.slots,k b o (λz=>hc (by simp[z])) e⟩) (λ_ _ _ _ n=>n)
  (λb o hc e=>⟨o,k b o (λz=>hc (by simp[z])) e⟩) (λ_ _ e=>e) (λ_ _ _ e=>e) (λb ps e=>⟨#[],by rw[e];simp⟩) (λm hm=>?_) (λb u e=>?_) I.bare
 ·have e:b=it:=by simpa using hb
  subst e
  exact⟨h1,hL,h2,h3⟩
 ·obtain⟨o,es,ep,ho,r⟩:=hm
  exact⟨o,es,ep,k _ o (wH hL) ho,r⟩
 ·refine(I.hok b u e).stay (λc v hc q=>k c v ?_ q) (λ_ q=>q) λ_ _ q=>q
  rcases hc with z|z
  ·rw[z];exact nit b u e
  ·exact nit c _ z
theorem Inv.tok(I:Inv X pins σ H s)(t:Nat):Inv X pins σ H { s with toks:=t }:=I.un (h':=s.heap) (t':=t) Un.refl I.hok
theorem Inv.kept{t':Nat}(I:Inv X pins σ H s)(k:∀b u,s.heap.get? b=some u→h'.get? b=some u):Inv X pins σ H { s with heap:=h',toks:=t' }:=I.un (Un.kept k) (I.hok.kept k)
theorem Inv.laid{a:Addr}{o:HO}{t':Nat}(I:Inv X pins σ H s)(k:∀b u,s.heap.get? b=some u→h'.get? b=some u)(hp:s.heap.objs.size≤a)(new:jK X.prog X.w (upd H a o) h' a o):
 Inv X pins σ (upd H a o) { s with heap:=h',toks:=t' }:=I.un (Un.laid k hp (I.hok.fresh hp)) (I.hok.laid k hp new)
theorem Inv.write{x e:Addr}{o:HO}{t':Nat}(I:Inv X pins σ H s)(mu:Mut (H x))(he:e=x∨H e=some (.own x))(k:∀b u,b≠e→s.heap.get? b=some u→h'.get? b=some u)(heo:∃u,h'.get? e=some u)
 (new:jK X.prog X.w (upd H x o) h' x o):Inv X pins σ (upd H x o) { s with heap:=h',toks:=t' }:=I.un (Un.write mu he k heo) (I.hok.write mu he k heo new)
theorem Inv.weak{σ':List (Option V)}(I:Inv X pins σ H s)(hl:σ'.length=σ.length)(w:∀(i:Nat) v,σ'[i]?=some (some v)→σ[i]?=some (some v)):Inv X pins σ' H s:=
 ⟨I.ok,I.os,I.bare,I.base,let⟨m,hn,hl'⟩:=I.loc;⟨m,hn,λi x v e1 e2 e3=>hl' i x v e1 (w i v e2) e3⟩,I.cell,I.free,I.freeC,I.pin,I.hok,hl.trans I.len⟩
theorem Inv.pins_of{pins':List (Addr×Obj)}(I:Inv X pins σ H s)(h:∀p∈pins',s.heap.get? p.1=some p.2∧H p.1=none∧p.1≠X.env.locals∧p.1∉X.fs∧∀v,p.2.data≠ .cell v):Inv X pins' σ H s:=
 ⟨I.ok,I.os,I.bare,I.base,I.loc,I.cell,I.free,I.freeC,λp hp=>(gM.mp hp).elim (λz=>I.pin p (gU _ z)) (h p),I.hok,I.len⟩
theorem q8Y{N:List Str}(hN:N.Nodup){i j:Nat}{x:Str}(a:N[i]?=some x)(b:N[j]?=some x):i=j:=by
 obtain⟨h1,e1⟩:=kC.mp a
 obtain⟨h2,e2⟩:=kC.mp b
 exact(List.getElem_inj hN).mp (e1.trans e2.symm)
theorem q7B{M:Model}{A:Around}{E:Value→Shared→Prop}{i:Nat}{x:Str}{v:V}{u:Value}{Q:Unit→Shared→Prop}(I:Inv X pins σ H s)(hN:X.N.Nodup)(hi:X.N[i]?=some x)(hx:Loc X.env.scope x)(r:RelV v u)
 (h:∀s',Inv X pins (σ.set i (some v)) H s'→(∃a,Heap.SameBut a s.heap s'.heap∧(a=X.env.locals∨X.env.cells.lookup x=some a))→Q () s') (hf:X.fn x=true∨X.env.scope.names.lookup x=some .local:=by first|exact .inl rfl|exact .inr rfl|assumption):wpAny M A (storeName X.env x u) Q E s:=by
 obtain⟨m,hn,hl⟩:=id I.loc
 have hcls:(X.env.scope.kind== .class||(X.env.scope.kind== .module&&X.env.locals !=X.env.globals))=false:=by rw[I.ok.kind];rfl
 have hiσ:i<σ.length:=by rw[I.len];exact(kC.mp hi).1
 have cne:=I.cne
 have tracked:∀{a:Addr} {h':Heap},(∃o,s.heap.get? a=some o∧H a=none)→Heap.SameBut a s.heap h'→HOk X.prog X.w H h':=fun {a h'} ha hs b ob e=>by
  obtain⟨_,_,hfree⟩:=ha
  refine(I.hok b ob e).stay (λc w' hc q=>(hs.2 c ?_).trans q) (λ_ q=>q) λ_ _ q=>q
  rintro rfl
  rcases hc with rfl|hc
  ·rw[hfree]at e;cases e
  ·rw[hfree]at hc;cases hc
 rcases hx with hk|hk
 ·refine wpAny_storeName_local hk hn (λh' hn' hs=>?_) hcls
  obtain⟨oL,_,_,hoL,_⟩:=id hn
  refine h _ ⟨I.ok,I.os,I.bare,⟨λb o e n hb hx=>?_,λb o e n hb hx=>?_,I.base.free,λb o e hx=>?_,I.base.tups,I.base.frzs,I.base.tbls⟩,⟨_,hn',λj y v' e1 e2 e3=>?_⟩,λy c e=>?_,I.free,I.freeC,λp hp=>?_,tracked ⟨oL,hoL,I.free⟩ hs,by simpa using I.len⟩ ⟨_,hs,.inl rfl⟩
  ·exact(hs.2 b (mW (mY (kX e) I.ok.above))).trans (I.base.keep b o e n hb hx)
  ·obtain⟨sl,e1⟩:=I.base.slot b o e n hb hx
   exact⟨sl,(hs.2 b (mW (mY (kX e) I.ok.above))).trans e1⟩
  ·obtain⟨o',e1⟩:=I.base.there b o e hx
   exact⟨o',(hs.2 b (mW (mY (kX e) I.ok.above))).trans e1⟩
  ·by_cases hj:j=i
   ·subst hj
    rw[hi]at e1;cases e1
    rw[cL hiσ]at e2
    cases e2
    exact⟨u,r,.inl ⟨hk,by simp⟩⟩
   ·rw[rW (wH hj)]at e2
    obtain⟨u',r',q⟩:=hl j y v' e1 e2 e3
    refine⟨u',r',?_⟩
    rcases q with⟨k,e⟩|⟨k,c,e,z⟩
    ·refine .inl ⟨k,?_⟩
     have:y≠x:=λe=>hj (q8Y hN e1 (e▸hi))
     simp[this,e]
    ·exact .inr ⟨k,c,e,z.sameBut hs (cne y c e)⟩
  ·obtain⟨w',z⟩:=I.cell y c e
   exact⟨w',z.sameBut hs (cne y c e)⟩
  ·obtain⟨e,n,ne,nf,d⟩:=I.pin p hp
   exact⟨(hs.2 p.1 ne).trans e,n,ne,nf,d⟩
 ·have hfn:X.fn x=true:=by
   rcases hf with z|z
   ·exact z
   ·rw[z]at hk;cases hk
  obtain⟨c,hc⟩:=I.ok.has x (.inl hk)
  obtain⟨w',z⟩:=I.cell x c hc
  refine wpAny_storeName_cell I.ok.kind hk hc z (λh' hc' hs=>?_)
  obtain⟨oc,hoc,hocd⟩:=id z
  refine h { s with heap:=h' } ⟨I.ok,I.os,I.bare,⟨λb o e n hb hx=>?_,λb o e n hb hx=>?_,I.base.free,λb o e hx=>?_,I.base.tups,I.base.frzs,I.base.tbls⟩,⟨m,hn.sameBut hs (wH (cne x c hc)),λj y v' e1 e2 e3=>?_⟩,λy c' e=>?_,I.free,I.freeC,λp hp=>?_,tracked ⟨oc,hoc,I.freeC x c hc⟩ hs,by simpa using I.len⟩ ⟨c,hs,.inr hc⟩
  ·exact(hs.2 b (mW (mY (kX e) (I.ok.cab x c hfn hc)))).trans (I.base.keep b o e n hb hx)
  ·obtain⟨sl,e1⟩:=I.base.slot b o e n hb hx
   exact⟨sl,(hs.2 b (mW (mY (kX e) (I.ok.cab x c hfn hc)))).trans e1⟩
  ·obtain⟨o',e1⟩:=I.base.there b o e hx
   exact⟨o',(hs.2 b (mW (mY (kX e) (I.ok.cab x c hfn hc)))).trans e1⟩
  ·by_cases hj:j=i
   ·subst hj
    rw[hi]at e1;cases e1
    rw[cL hiσ]at e2
    cases e2
    exact⟨u,r,.inr ⟨.inl hk,c,hc,hc'⟩⟩
   ·rw[rW (wH hj)]at e2
    obtain⟨u',r',q⟩:=hl j y v' e1 e2 e3
    refine⟨u',r',?_⟩
    rcases q with q|⟨k,c',e,z'⟩
    ·exact .inl q
    ·refine .inr ⟨k,c',e,z'.sameBut hs ?_⟩
     rintro rfl
     exact hj (q8Y hN e1 (I.ok.inj _ _ _ e hc▸hi))
  ·by_cases hcc:c'=c
   ·subst hcc;exact⟨_,hc'⟩
   ·obtain⟨w2,z2⟩:=I.cell y c' e
    exact⟨w2,z2.sameBut hs hcc⟩
  ·obtain⟨e,n,ne,nf,d⟩:=I.pin p hp
   refine⟨(hs.2 p.1 ?_).trans e,n,ne,nf,d⟩
   intro q
   rw[q,hoc]at e
   have q':oc=p.2:=kP e
   exact d w' (by rw[←q'];exact hocd)
theorem q5Q{M:Model}{A:Around}{E:Value→Shared→Prop}{i:Nat}{x:Str}{v:V}{u:Value}{Q:Unit→Shared→Prop}(I:Inv X pins σ H s)(hN:X.N.Nodup)(hi:X.N[i]?=some x)(hx:Loc X.env.scope x)(r:RelV v u)
 (h:∀s',Inv X pins (σ.set i (some v)) H s'→Q () s') (hf:X.fn x=true∨X.env.scope.names.lookup x=some .local:=by first|exact .inl rfl|exact .inr rfl|assumption):wpAny M A (storeName X.env x u) Q E s:=
 q7B I hN hi hx r (λs' I' _=>h s' I') hf
theorem Inv.call'{s':Shared}{ch:List Addr}(I:Inv X pins σ H s)(ho:s'.os=s.os)(u:Un (frs X.stack) ch H H' s.heap s'.heap)(hok:HOk X.prog X.w H' s'.heap)(hg:AllBare s'.gens)
 (hch:∀b∈ch,(b∈X.ex∨X.s₀.heap.objs.size≤b)∧b≠X.env.locals∧(∀x c,X.env.cells.lookup x=some c→c≠b)∧∀p∈X.pn++pins,p.1≠b):Inv X pins σ H' s':=by
 obtain⟨h',g',d',t',o'⟩:=s'
 have e:o'=s.os:=ho
 subst e
 exact I.call (g':=g') (t':=t') (d':=d') u hok hg hch
end
noncomputable abbrev XK:=Value→Option Addr→Hp→Prop
noncomputable abbrev St:=List (Option V)
noncomputable abbrev VK:=V→Hp→Prop
noncomputable abbrev TE:=St→Hp→VK→Prop
noncomputable abbrev TT:=St→Hp→(Bool→Hp→Prop)→Prop
noncomputable abbrev TA:=St→Hp→(List V→Hp→Prop)→Prop
structure Ends where
 nx:St→Hp→Prop
 rt:VK
 bk:St→Hp→Prop:=λ_ _=>False
 ct:St→Hp→Prop:=λ_ _=>False
noncomputable abbrev TS:=Ends→St→Hp→Prop
noncomputable def EP(X:Cx)(pins:List (Addr×Obj))(σ:St)(Q:VK)(u:Value)(s':Shared):Prop:=∃v H',Inv X pins σ H' s'∧RelV v u∧Q v H'
noncomputable def TP(X:Cx)(pins:List (Addr×Obj))(σ:St)(Q:Bool→Hp→Prop)(b:Bool)(s':Shared):Prop:=∃H',Inv X pins σ H' s'∧Q b H'
noncomputable def AP(X:Cx)(pins:List (Addr×Obj))(σ:St)(Q:List V→Hp→Prop)(us:List Value)(s':Shared):Prop:=∃vs H',Inv X pins σ H' s'∧Vals vs us∧Q vs H'
noncomputable def SP(X:Cx)(pins:List (Addr×Obj))(D:Ends)(f:Flow)(s':Shared):Prop:=
 match f with
 | .next=>∃σ' H',Inv X pins σ' H' s'∧D.nx σ' H'
 | .brk=>∃σ' H',Inv X pins σ' H' s'∧D.bk σ' H'
 | .cont=>∃σ' H',Inv X pins σ' H' s'∧D.ct σ' H'
 | .ret u=>∃v σ' H',Inv X pins σ' H' s'∧RelV v u∧D.rt v H'
noncomputable def PE(X:Cx)(e:Expr)(t:TE):Prop:=
 ∀(pins:List (Addr×Obj)) (s:Shared) (σ:St) (H:Hp) (Q:VK),Inv X pins σ H s→t σ H Q→wpAny (model X.prog X.w) X.A (eval e X.env) (EP X pins σ Q) X.xe s
noncomputable def PT(X:Cx)(e:Expr)(t:TT):Prop:=
 ∀(pins:List (Addr×Obj)) (s:Shared) (σ:St) (H:Hp) (Q:Bool→Hp→Prop),Inv X pins σ H s→t σ H Q→wpAny (model X.prog X.w) X.A (isTrue e X.env (eval e X.env)) (TP X pins σ Q) X.xe s
noncomputable def PW(X:Cx)(e:Expr)(t:TT):Prop:=
 ∀(whole:Sem Value) (pins:List (Addr×Obj)) (s:Shared) (σ:St) (H:Hp) (Q:Bool→Hp→Prop),Inv X pins σ H s→t σ H Q→wpAny (model X.prog X.w) X.A (isTrue e X.env whole) (TP X pins σ Q) X.xe s
theorem PW.pt{X:Cx}{e:Expr}{t:TT}(h:PW X e t):PT X e t:=h _
noncomputable def PA(X:Cx)(es:List Expr)(t:TA):Prop:=
 ∀(pos:Pos) (pins:List (Addr×Obj)) (s:Shared) (σ:St) (H:Hp) (Q:List V→Hp→Prop),Inv X pins σ H s→t σ H Q→wpAny (model X.prog X.w) X.A (spliced (backTo pos (starEach es X.env))) (AP X pins σ Q) X.xe s
noncomputable def PS(X:Cx)(st:Stmt)(t:TS):Prop:=
 ∀(pins:List (Addr×Obj)) (s:Shared) (σ:St) (H:Hp) (D:Ends),Inv X pins σ H s→t D σ H→wpAny (model X.prog X.w) X.A (exec st X.env) (SP X pins D) X.xe s
noncomputable def PSs(X:Cx)(st:List Stmt)(t:TS):Prop:=
 ∀(pins:List (Addr×Obj)) (s:Shared) (σ:St) (H:Hp) (D:Ends),Inv X pins σ H s→t D σ H→wpAny (model X.prog X.w) X.A (execs st X.env) (SP X pins D) X.xe s
theorem thn{α:Type}{t:Sem α}{Q Q':α→Shared→Prop}{M:Model}{A:Around}{E:Value→Shared→Prop}{s:Shared}(h:wpAny M A t Q E s)(hQ:∀a s,Q a s→Q' a s):wpAny M A t Q' E s:=dC h hQ λ_ _ x=>x
section
variable{X:Cx}
theorem bin{a b:Expr}{ta tb:TE}(ha:PE X a ta)(hb:PE X b tb){pins:List (Addr×Obj)}{s:Shared}{σ:St}{H:Hp}{R:V→V→Hp→Prop}(I:Inv X pins σ H s)(h:ta σ H λx H1=>tb σ H1 λy H2=>R x y H2)
 {α:Type} {Q:α→Shared→Prop} {f:Value→Value→Sem α}
 (hf:∀v u s2 x y H2,Inv X pins σ H2 s2→RelV x v→RelV y u→R x y H2→wpAny (model X.prog X.w) X.A (f v u) Q X.xe s2):
 wpAny (model X.prog X.w) X.A (eval a X.env) (λv s₁=>wpAny (model X.prog X.w) X.A (eval b X.env) (λu s₂=>wpAny (model X.prog X.w) X.A (f v u) Q X.xe s₂) X.xe s₁) X.xe s:=by
 refine thn (ha pins s σ H _ I h) λv s1 hZ=>?_
 obtain⟨x,H1,I1,r1,q1⟩:=hZ
 refine thn (hb pins s1 σ H1 _ I1 q1) λu s2 hZ=>?_
 obtain⟨y,H2,I2,r2,q2⟩:=hZ
 exact hf v u s2 x y H2 I2 r1 r2 q2
noncomputable def tVar(i:Nat):TE:=λσ H Q=>∃v,σ[i]?=some (some v)∧Q v H
noncomputable def tC(v:V):TE:=λ_ H Q=>Q v H
theorem qHM{i:Nat}{x:Str}{pos:Pos}(hN:X.N[i]?=some x)(hv:Vis X.env.scope x)(hd:(x==("__debug__":Str))=false:=by decide)(hcd:(x==("__classdict__":Str))=false:=by decide):PE X (.Name x pos) (tVar i):=by
 intro pins s σ H Q I h
 obtain⟨v,e,h⟩:=h
 obtain⟨m,hn,hl⟩:=I.loc
 obtain⟨u,r,l⟩:=hl i x v hN e hv
 have fin:EP X pins σ Q u s:=⟨v,H,I,r,h⟩
 rcases l with⟨hk,hm⟩|⟨hk,c,hc,hcell⟩
 ·exact wpAny_Name (wpAny_loadName_local I.ok.kind hk hn hm fin) hd
 ·rcases hk with hk|hk
  ·exact wpAny_Name (wpAny_loadName_cell I.ok.kind hk hc hcell fin) hd
  ·exact wpAny_Name (wpAny_loadName_free I.ok.kind hk hc hcell fin hcd) hd
theorem qG{i j pos}:PE X (.Constant (.int i) j pos) (tC (.int i)):=λ_ _ _ H _ I h=>wpAny_Constant_int ⟨.int i,H,I.tok _,⟨_,rfl⟩,h⟩
theorem q2T{b j pos}:PE X (.Constant (.bool b) j pos) (tC (.bl b)):=λ_ _ _ H _ I h=>Constant_bool ⟨.bl b,H,I,rfl,h⟩
theorem u7{j pos}:PE X (.Constant .none j pos) (tC .non):=λ_ _ _ H _ I h=>Constant_none ⟨.non,H,I,rfl,h⟩
theorem vX{x j pos}:PE X (.Constant (.str x) j pos) (tC (.str x)):=λ_ _ _ H _ I h=>Calls.Constant_str ⟨.str x,H,I.tok _,⟨_,rfl⟩,h⟩
noncomputable def Gl(X:Cx)(x:Str):Prop:=X.env.kindOf x=some .globalImplicit
theorem q2G{E:Value→Shared→Prop}{pins:List (Addr×Obj)}{s:Shared}{σ:St}{H:Hp}{x:Str}{u:Value}{pos:Pos}{Q:Value→Shared→Prop}(I:Inv X pins σ H s)(hg:Gl X x)(hm:X.mg x=some u)(h:Q u s)
 (hd:(x==("__debug__":Str))=false:=by decide):wpAny (model X.prog X.w) X.A (eval (.Name x pos) X.env) Q E s:=
 Calls.Name_function_global I.ok.kind hg (Calls.loadGlobal_global (by rw[I.ok.glob];exact I.mod.glob.keeps I.bk) hm h) hd
theorem q4A{E:Value→Shared→Prop}{pins:List (Addr×Obj)}{s:Shared}{σ:St}{H:Hp}{x:Str}{u:Value}{pos:Pos}{Q:Value→Shared→Prop}(I:Inv X pins σ H s)(hg:Gl X x)(hm:X.mg x=none)(hv:bootBuiltins x=some u)(h:Q u s)
 (hn:x≠"__name__":=by decide) (hd:(x==("__debug__":Str))=false:=by decide):wpAny (model X.prog X.w) X.A (eval (.Name x pos) X.env) Q E s:=by
 obtain⟨mb,h1,h2⟩:=I.mod.blt
 exact Calls.Name_function_global I.ok.kind hg (Calls.loadGlobal_builtin (by rw[I.ok.glob];exact I.mod.glob.keeps I.bk) hm (by rw[I.ok.blt];exact h1.keeps I.bk) ((h2 x hn).trans hv) h) hd
theorem zK{x:Str}{v:V}{u:Value}{pos:Pos}(hg:Gl X x)(hm:X.mg x=some u)(r:RelV v u)(hd:(x==("__debug__":Str))=false:=by decide):PE X (.Name x pos) (tC v):=
 λ_ _ _ H _ I h=>q2G I hg hm ⟨v,H,I,r,h⟩ hd
theorem q0N{x:Str}{v:V}{u:Value}{pos:Pos}(hg:Gl X x)(hm:X.mg x=none)(hv:bootBuiltins x=some u)(r:RelV v u)(hn:x≠"__name__":=by decide)(hd:(x==("__debug__":Str))=false:=by decide):PE X (.Name x pos) (tC v):=
 λ_ _ _ H _ I h=>q4A I hg hm hv ⟨v,H,I,r,h⟩ hn hd
variable{a b:Expr}{ta tb:TE}{pos:Pos}
noncomputable def PC(X:Cx)(op:CmpOp)(a b:Expr)(t:TE):Prop:=
 ∀(pins:List (Addr×Obj)) (s:Shared) (σ:St) (H:Hp) (Q:VK),Inv X pins σ H s→t σ H Q→
  wpAny (model X.prog X.w) X.A (eval a X.env) (λv s₁=>wpAny (model X.prog X.w) X.A (eval b X.env) (λu s₂=>wpAny (model X.prog X.w) X.A (compareOp op v u) (EP X pins σ Q) X.xe s₂) X.xe s₁) X.xe s
noncomputable def tB(t:TE):TT:=λσ H Q=>t σ H λx H1=>∃c,x=.bl c∧Q c H1
theorem qHN{op:CmpOp}{t:TE}(h:PC X op a b t)(h1:behindInMarks op b=false:=by first|exact nobehind _ (by decide) (by decide)|rfl):PE X (.Compare a [op] [b] pos) t:=λpins s σ H Q I hw=>wpAny_Compare1 (h pins s σ H Q I hw) h1
theorem qA2{op:CmpOp}{t:TE}(h:PC X op a b t)(h1:behindInMarks op b=false:=by first|exact nobehind _ (by decide) (by decide)|rfl):PT X (.Compare a [op] [b] pos) (tB t):=by
 intro pins s σ H Q I hw
 refine wpAny_isTrue_Compare1 (thn (h pins s σ H _ I hw) λv s1 h1=>thn h1 λu s2 h2=>thn h2 λc s3 hZ=>?_) h1
 obtain⟨x,H1,I1,r1,q1⟩:=hZ
 obtain⟨d,rfl,q⟩:=q1
 cases r1
 exact g5 ⟨H1,I1,q⟩
theorem jY{e:Expr}{t:TE}(h:PE X e t)(he:∀whole,isTrue e X.env whole=(do let v←whole;standAt e.pos;holding [v] (truthy v)):=by intro _;rfl):PT X e (tB t):=by
 intro pins s σ H Q I hw
 refine isTrue_plain (thn (h pins s σ H _ I hw) λv s1 hZ=>?_) (he _)
 obtain⟨x,H1,I1,r1,q1⟩:=hZ
 obtain⟨d,rfl,q⟩:=q1
 cases r1
 exact g5 ⟨H1,I1,q⟩
variable{tA tB':TT}{rest:List Expr}
noncomputable def tAnd(t u:TT):TT:=λσ H Q=>t σ H λc H1=>if c=true then u σ H1 Q else Q false H1
noncomputable def tOr(t u:TT):TT:=λσ H Q=>t σ H λc H1=>if c=true then Q true H1 else u σ H1 Q
noncomputable def tNot(t:TT):TT:=λσ H Q=>t σ H λc H1=>Q (!c) H1
theorem q0O(ha:PT X a tA):PW X (.BoolOp .And [a] pos) tA:=by
 intro wh pins s σ H Q I h
 refine isTrue_and (thn (ha pins s σ H Q I h) λc s1 e=>?_)
 cases c with
 |true=>exact isTrue_and_nil e
 |false=>exact e
theorem q2Z(ha:PT X a tA):PW X (.BoolOp .Or [a] pos) tA:=by
 intro wh pins s σ H Q I h
 refine isTrue_or (thn (ha pins s σ H Q I h) λc s1 e=>?_)
 cases c with
 |false=>exact isTrue_or_nil e
 |true=>exact e
theorem q30(ha:PT X a tA)(hb:PW X (.BoolOp .And (b::rest) pos) tB'):PW X (.BoolOp .And (a::b::rest) pos) (tAnd tA tB'):=by
 intro wh pins s σ H Q I h
 refine isTrue_and (thn (ha pins s σ H _ I h) λc s1 hZ=>?_)
 obtain⟨H1,I1,q1⟩:=hZ
 cases c with
 |true=>exact hb wh pins s1 σ H1 Q I1 q1
 |false=>exact⟨H1,I1,q1⟩
theorem q5R(ha:PT X a tA)(hb:PW X (.BoolOp .Or (b::rest) pos) tB'):PW X (.BoolOp .Or (a::b::rest) pos) (tOr tA tB'):=by
 intro wh pins s σ H Q I h
 refine isTrue_or (thn (ha pins s σ H _ I h) λc s1 hZ=>?_)
 obtain⟨H1,I1,q1⟩:=hZ
 cases c with
 |true=>exact⟨H1,I1,q1⟩
 |false=>exact hb wh pins s1 σ H1 Q I1 q1
theorem yH(ha:PT X a tA):PT X (.UnaryOp .Not a pos) (tNot tA):=by
 intro pins s σ H Q I h
 exact isTrue_not (ha pins s σ H (λc H1=>Q (!c) H1) I h)
noncomputable def qJP(ta tb:TE):TE:=λσ H Q=>ta σ H λx H1=>∃c,x=.bl c∧if c=true then tb σ H1 Q else Q (.bl false) H1
noncomputable def tOrV(ta tb:TE):TE:=λσ H Q=>ta σ H λx H1=>∃c,x=.bl c∧if c=true then Q (.bl true) H1 else tb σ H1 Q
noncomputable def qJQ(ta:TE):TE:=λσ H Q=>ta σ H λx H1=>∃c,x=.bl c∧Q (.bl (!c)) H1
theorem vY{op}{t:TE}(h:PE X a t):PE X (.BoolOp op [a] pos) t:=λpins s σ H Q I hw=>BoolOp_one (h pins s σ H Q I hw)
theorem q1E(ha:PE X a ta)(hb:PE X (.BoolOp .And (b::rest) pos) tb):PE X (.BoolOp .And (a::b::rest) pos) (qJP ta tb):=by
 intro pins s σ H Q I h
 refine BoolOp_and (thn (ha pins s σ H _ I h) λv s1 hZ=>?_)
 obtain⟨x,H1,I1,r1,q1⟩:=hZ
 obtain⟨c,rfl,q1⟩:=q1
 cases r1
 refine g5 ?_
 cases c with
 |true=>exact hb pins s1 σ H1 Q I1 q1
 |false=>exact⟨.bl false,H1,I1,rfl,q1⟩
theorem qCW(ha:PE X a ta)(hb:PE X (.BoolOp .Or (b::rest) pos) tb):PE X (.BoolOp .Or (a::b::rest) pos) (tOrV ta tb):=by
 intro pins s σ H Q I h
 refine BoolOp_or (thn (ha pins s σ H _ I h) λv s1 hZ=>?_)
 obtain⟨x,H1,I1,r1,q1⟩:=hZ
 obtain⟨c,rfl,q1⟩:=q1
 cases r1
 refine g5 ?_
 cases c with
 |false=>exact hb pins s1 σ H1 Q I1 q1
 |true=>exact⟨.bl true,H1,I1,rfl,q1⟩
theorem qA3(ha:PE X a ta):PE X (.UnaryOp .Not a pos) (qJQ ta):=by
 intro pins s σ H Q I h
 refine UnaryOp_ (thn (ha pins s σ H _ I h) λv s1 hZ=>?_)
 obtain⟨x,H1,I1,r1,q1⟩:=hZ
 obtain⟨c,rfl,q1⟩:=q1
 cases r1
 exact not_of (g5 ⟨.bl (!c),H1,I1,rfl,q1⟩)
noncomputable def tIf(t:TT)(ta tb:TE):TE:=λσ H Q=>t σ H λc H1=>if c=true then ta σ H1 Q else tb σ H1 Q
theorem qCX{c:Expr}(hc:PT X c tA)(ha:PE X a ta)(hb:PE X b tb):PE X (.IfExp c a b pos) (tIf tA ta tb):=by
 intro pins s σ H Q I h
 refine wpAny_IfExp (thn (hc pins s σ H _ I h) λd s1 hZ=>?_)
 obtain⟨H1,I1,q1⟩:=hZ
 cases d with
 |true=>exact ha pins s1 σ H1 Q I1 q1
 |false=>exact hb pins s1 σ H1 Q I1 q1
end
noncomputable def SqL(K:PySem.W.Frag)(H:Hp)(a:Addr)(xs:List V):Prop:=
 Rd H a (.lst xs)∨
  ∃(o:Obj) (its:Array Value) (n:Nat),K.lookup a=some o∧o.cls=.type "list"∧o.dict=none∧o.data=.seq its n∧its.size≤sizeLine∧Vals xs its.toList
noncomputable def SqT(K:PySem.W.Frag)(H:Hp)(a:Addr)(xs:List V):Prop:=
 Rd H a (.tup xs)∨
  ∃(o:Obj) (its:Array Value) (n:Nat),K.lookup a=some o∧o.cls=.type "tuple"∧o.data=.seq its n∧its.size≤sizeLine∧Vals xs its.toList
noncomputable def absV:Value→Option V
 | .none=>some .non
 | .bool b=>some (.bl b)
 | .int i _=>some (.int i)
 | .str x _=>some (.str x)
 | .bytes b _=>some (.byt b)
 | .float b _=>some (.flt b)
 | .ref a=>some (.ref a)
 | .type n=>some (.ty n)
 |_=>none
theorem RelV.abs{x:V}{u:Value}(r:RelV x u):absV u=some x:=by
 cases x with
 |non=>cases r;rfl
 |bl _=>cases r;rfl
 |int _=>obtain⟨t,rfl⟩:=r;rfl
 |str _=>obtain⟨t,rfl⟩:=r;rfl
 |byt _=>obtain⟨t,rfl⟩:=r;rfl
 |flt _=>obtain⟨t,rfl⟩:=r;rfl
 |ref _=>cases r;rfl
 |ty _=>cases r;rfl
theorem RelV.inj{x y:V}{u:Value}(r:RelV x u)(q:RelV y u):x=y:=kP (r.abs.symm.trans q.abs)
theorem Vals.inj{xs ys:List V}{us:List Value}(h:Vals xs us):Vals ys us→xs=ys:=by
 induction h generalizing ys with
 |nil=>exact λg=>by cases g;rfl
 |cons r t ih=>
  intro g
  cases g with
  |cons r' t'=>rw[r.inj r',ih t']
section
variable{X:Cx}{pins:List (Addr×Obj)}{σ:St}{H:Hp}{s:Shared}{a:Addr}{xs ys:List V}
theorem SqL.of{K:PySem.W.Frag}(h:H a=some (.lst xs)):SqL K H a xs:=.inl (.inl h)
theorem SqT.of{K:PySem.W.Frag}(h:H a=some (.tup xs)):SqT K H a xs:=.inl (.inl h)
theorem Inv.list(I:Inv X pins σ H s)(h:SqL X.K H a xs):∃its:List Value,Vals xs its∧PlainL s.heap a its.toArray∧xs.length≤sizeLine:=by
 rcases h with h|⟨o,its,n,hk,hc,hd,hs,hz,r⟩
 ·obtain⟨z,its,n,r,e⟩:=h.ok I.hok
  exact⟨its,r,⟨_,n,e,rfl,rfl,rfl⟩,z⟩
 ·refine⟨its.toList,r,⟨o,n,I.kIn a o hk,hc,hd,by simpa using hs⟩,?_⟩
  have e:=r.length
  simp only[gA]at e
  omega
theorem Inv.tuple(I:Inv X pins σ H s)(h:SqT X.K H a xs):∃its:List Value,Vals xs its∧IsTup s.heap a its.toArray∧xs.length≤sizeLine:=by
 rcases h with h|⟨o,its,n,hk,hc,hs,hz,r⟩
 ·obtain⟨z,its,r,p⟩:=h.ok I.hok
  exact⟨its,r,p,z⟩
 ·refine⟨its.toList,r,⟨o,I.kIn a o hk,hc,n,by simpa using hs⟩,?_⟩
  have e:=r.length
  simp only[gA]at e
  omega
theorem Inv.list_inj(I:Inv X pins σ H s)(h:SqL X.K H a xs)(h':SqL X.K H a ys):xs=ys:=by
 obtain⟨its,r,⟨o,n,e,_,_,d⟩,_⟩:=I.list h
 obtain⟨its',r',⟨o',n',e',_,_,d'⟩,_⟩:=I.list h'
 rw[e]at e';cases e'
 rw[d]at d'
 injection d' with d1 _
 have:its=its':=by simpa using g0 Array.toList d1
 subst this
 exact r.inj r'
theorem Inv.tuple_inj(I:Inv X pins σ H s)(h:SqT X.K H a xs)(h':SqT X.K H a ys):xs=ys:=by
 obtain⟨its,r,⟨o,e,_,n,d⟩,_⟩:=I.tuple h
 obtain⟨its',r',⟨o',e',_,n',d'⟩,_⟩:=I.tuple h'
 rw[e]at e';cases e'
 rw[d]at d'
 injection d' with d1 _
 have:its=its':=by simpa using g0 Array.toList d1
 subst this
 exact r.inj r'
end
noncomputable abbrev Cx.wish(X:Cx)(E:Value→Shared→Prop):Cx:={ X with xe:=E }
noncomputable abbrev Cx.nox(X:Cx):Cx:=X.wish λ_ _=>False
theorem Cx.Ok.wish{X:Cx}(ok:X.Ok)(E:Value→Shared→Prop):(X.wish E).Ok:=
 ⟨ok.mod,ok.kind,ok.glob,ok.blt,ok.above,ok.inj,ok.has,ok.cab,ok.hd,ok.frames,ok.stk,ok.exf,ok.bs,ok.bsz,ok.noex,ok.exfs,ok.funs,ok.frf⟩
theorem Cx.Ok.unwish{X:Cx}{E:Value→Shared→Prop}(ok:(X.wish E).Ok):X.Ok:=
 ⟨ok.mod,ok.kind,ok.glob,ok.blt,ok.above,ok.inj,ok.has,ok.cab,ok.hd,ok.frames,ok.stk,ok.exf,ok.bs,ok.bsz,ok.noex,ok.exfs,ok.funs,ok.frf⟩
section
variable{X:Cx}{pins:List (Addr×Obj)}{σ:St}{H:Hp}{s:Shared}{E:Value→Shared→Prop}
theorem Inv.wish(I:Inv X pins σ H s)(E:Value→Shared→Prop):Inv (X.wish E) pins σ H s:=⟨I.ok.wish E,I.os,I.bare,I.base,I.loc,I.cell,I.free,I.freeC,I.pin,I.hok,I.len⟩
theorem Inv.unwish(I:Inv (X.wish E) pins σ H s):Inv X pins σ H s:=⟨I.ok.unwish,I.os,I.bare,I.base,I.loc,I.cell,I.free,I.freeC,I.pin,I.hok,I.len⟩
theorem SP.unwish{D:Ends}{f:Flow}{s':Shared}(h:SP (X.wish E) pins D f s'):SP X pins D f s':=by
 cases f with
 |next=>obtain⟨σ',H',I,q⟩:=h;exact⟨σ',H',I.unwish,q⟩
 |brk=>obtain⟨σ',H',I,q⟩:=h;exact⟨σ',H',I.unwish,q⟩
 |cont=>obtain⟨σ',H',I,q⟩:=h;exact⟨σ',H',I.unwish,q⟩
 |ret u=>obtain⟨v,σ',H',I,r,q⟩:=h;exact⟨v,σ',H',I.unwish,r,q⟩
theorem PSs.nox{st:List Stmt}{t:TS}(h:PSs X.nox st t):PSs X st t:=λpins s σ H D I hw=>
 dC (h pins s σ H D (I.wish _) hw) (λ_ _ q=>q.unwish) λ_ _ z=>False.elim z
end
section
variable{X:Cx}{st:Stmt}{rest:List Stmt}{t u:TS}{e:Expr}{te:TE}{pos:Pos}
noncomputable def qJR:TS:=λD σ H=>D.nx σ H
noncomputable def tSeq(t u:TS):TS:=λD σ H=>t { D with nx:=u D } σ H
theorem qQ:PSs X [] qJR:=λ_ _ σ H _ I h=>pF ⟨σ,H,I,h⟩
theorem qB(h1:PS X st t)(h2:PSs X rest u):PSs X (st::rest) (tSeq t u):=by
 intro pins s σ H D I h
 refine wpAny_execs_cons (thn (h1 pins s σ H { D with nx:=u D } I h) λf s1 q=>?_)
 cases f with
 |next=>
  obtain⟨σ',H',I',q⟩:=q
  exact h2 pins s1 σ' H' D I' q
 |ret v=>exact q
 |brk=>exact q
 |cont=>exact q
theorem qD(h1:PS X st t):PSs X [st] t:=by
 intro pins s σ H D I h
 refine wpAny_execs_cons (thn (h1 pins s σ H D I h) λf s1 q=>?_)
 cases f with
 |next=>exact pF q
 |ret v=>exact q
 |brk=>exact q
 |cont=>exact q
theorem Inv.quiet{pins:List (Addr×Obj)}{σ:St}{H:Hp}{s:Shared}(I:Inv X pins σ H s):interactive X.env=false:=by simp[interactive,I.ok.kind]
noncomputable def qJS(te:TE):TS:=λD σ H=>te σ H λ_ H1=>D.nx σ H1
theorem qZ(he:PE X e te)(hs:swapsWith e none pos.line X.env=pure false:=by rfl):PS X (.Expr e pos) (qJS te):=by
 intro pins s σ H D I h
 exact wpAny_Expr_any (thn (he pins s σ H _ I h) λv s1 ⟨x,H1,I1,r1,q1⟩=>⟨σ,H1,I1,q1⟩) I.quiet hs
noncomputable def tRet(te:TE):TS:=λD σ H=>te σ H D.rt
theorem qL(he:PE X e te):PS X (.Return (some e) pos) (tRet te):=by
 intro pins s σ H D I h
 exact wpAny_Return_some (thn (he pins s σ H _ I h) λv s1 ⟨x,H1,I1,r1,q1⟩=>⟨x,σ,H1,I1,r1,q1⟩)
noncomputable def tIfS(c:TT)(t u:TS):TS:=λD σ H=>c σ H λb H1=>if b=true then t D σ H1 else u D σ H1
theorem jB{c:Expr}{a b:List Stmt}{tc:TT}(hc:PT X c tc)(ha:PSs X a t)(hb:PSs X b u):PS X (.If c a b pos) (tIfS tc t u):=by
 intro pins s σ H D I h
 refine wpAny_If (thn (hc pins s σ H _ I h) λd s1 hZ=>?_)
 obtain⟨H1,I1,q1⟩:=hZ
 cases d with
 |true=>exact ha pins s1 σ H1 D I1 q1
 |false=>exact hb pins s1 σ H1 D I1 q1
noncomputable def qHO:TS:=λ_ _ _=>False
theorem jF:PS X st qHO:=λ_ _ _ _ _ _ h=>h.elim
end
noncomputable abbrev TG:=V→St→Hp→(St→Hp→Prop)→Prop
noncomputable abbrev TGs:=List V→St→Hp→(St→Hp→Prop)→Prop
noncomputable def PG(X:Cx)(target:Expr)(t:TG):Prop:=
 ∀(pins:List (Addr×Obj)) (s:Shared) (σ:St) (H:Hp) (v:V) (u:Value) (Q:St→Hp→Prop),Inv X pins σ H s→RelV v u→t v σ H Q→
  wpAny (model X.prog X.w) X.A (assign target X.env u) (λ_ s'=>∃σ' H',Inv X pins σ' H' s'∧Q σ' H') X.xe s
noncomputable def PGs(X:Cx)(ts:List Expr)(t:TGs):Prop:=
 ∀(pins:List (Addr×Obj)) (s:Shared) (σ:St) (H:Hp) (vs:List V) (us:List Value) (Q:St→Hp→Prop),Inv X pins σ H s→Vals vs us→t vs σ H Q→
  wpAny (model X.prog X.w) X.A (assignInOrder ((assignEach ts X.env).map (·.2)) us) (λ_ s'=>∃σ' H',Inv X pins σ' H' s'∧Q σ' H') X.xe s
noncomputable abbrev TSet:=V→V→V→Hp→(Hp→Prop)→Prop
noncomputable def PSet(X:Cx)(t:TSet):Prop:=
 ∀(pins:List (Addr×Obj)) (s:Shared) (σ:St) (H:Hp) (o i v:V) (ov iv u:Value) (Q:Hp→Prop),Inv X pins σ H s→RelV o ov→RelV i iv→RelV v u→t o i v H Q→
  wpAny (model X.prog X.w) X.A (setItem ov iv u) (λ_ s'=>∃H',Inv X pins σ H' s'∧Q H') X.xe s
noncomputable abbrev TIp:=V→V→Hp→VK→Prop
noncomputable def PIp(X:Cx)(op:Operator)(t:TIp):Prop:=
 ∀(pins:List (Addr×Obj)) (s:Shared) (σ:St) (H:Hp) (x y:V) (v u:Value) (Q:VK),Inv X pins σ H s→RelV x v→RelV y u→t x y H Q→
  wpAny (model X.prog X.w) X.A (inplaceOp op v u) (EP X pins σ Q) X.xe s
section
variable{X:Cx}{pos:Pos}
noncomputable def q2U(i:Nat):TG:=λv σ H Q=>Q (σ.set i (some v)) H
theorem qX{i:Nat}{x:Str}(hN:X.N.Nodup)(hi:X.N[i]?=some x)(hx:Loc X.env.scope x)(hf:X.fn x=true∨X.env.scope.names.lookup x=some .local:=by first|exact .inl rfl|exact .inr rfl|assumption):PG X (.Name x pos) (q2U i):=by
 intro pins s σ H v u Q I r h
 exact wpAny_assign_Name (q5Q I hN hi hx r (λs' I'=>⟨_,H,I',h⟩) hf)
noncomputable def gNil:TGs:=λvs σ H Q=>vs=[]∧Q σ H
noncomputable def qH5(t:TG)(u:TGs):TGs:=λvs σ H Q=>∃v r,vs=v::r∧t v σ H λσ' H'=>u r σ' H' Q
theorem q3J:PGs X [] gNil:=by
 intro pins s σ H vs us Q I r h
 obtain⟨e,h⟩:=h
 subst e
 cases r
 exact assignInOrder_nil ⟨σ,H,I,h⟩
theorem yX{e:Expr}{es:List Expr}{t:TG}{u:TGs}(h1:PG X e t)(h2:PGs X es u)
 (hs:(assignEach (e::es) X.env).map (·.2)=assign e X.env::(assignEach es X.env).map (·.2):=by rfl):PGs X (e::es) (qH5 t u):=by
 intro pins s σ H vs us Q I r h
 obtain⟨v,vr,e1,h⟩:=h
 subst e1
 cases r with
 |cons r rr=>
  rw[hs]
  refine assignInOrder_cons (thn (h1 pins s σ H _ _ _ I r h) λ_ s1 hZ=>?_)
  obtain⟨σ1,H1,I1,q1⟩:=hZ
  exact h2 pins s1 σ1 H1 _ _ Q I1 rr q1
noncomputable def gTup(K:PySem.W.Frag)(n:Nat)(t:TGs):TG:=λv σ H Q=>∃a xs,v=.ref a∧SqT K H a xs∧xs.length=n∧t xs σ H Q
theorem q5S{es:List Expr}{k:Nat}{t:TGs}{n:Nat}(hc:X.calm=true)(h:PGs X es t)
 (hn:(assignEach es X.env).length=n:=by rfl) (hst:(assignEach es X.env).findIdx? (·.1)=none:=by rfl):PG X (.Tuple es k pos) (gTup X.K n t):=by
 intro pins s σ H v u Q I r hw
 obtain⟨a,xs,e1,hq,hl,hw⟩:=hw
 subst e1
 cases r
 obtain⟨its,rv,ht,hz⟩:=I.tuple hq
 refine assign_Tuple_tuple (I.ok.hd hc) ht (by simp[hn,←hl,rv.length]) hst λh' hx=>?_
 have I1:Inv X pins σ H { s with heap:=h' }:=I.kept (t':=s.toks) λb o e=>hx b o (mW (kX e)) e
 exact h pins _ σ H xs _ Q I1 (by simpa using rv) hw
noncomputable def gSub(to ti:TE)(t:TSet):TG:=λv σ H Q=>to σ H λo H1=>ti σ H1 λi H2=>t o i v H2 λH3=>Q σ H3
theorem q4B{o i:Expr}{to ti:TE}{t:TSet}(ho:PE X o to)(hi:PE X i ti)(hs:PSet X t)
 (ha:∀v,assign (.Subscript o i pos) X.env v=(do
  let ov←holding [v] (eval o X.env)
  let iv←holding [v,ov] (eval i X.env)
  standAt pos
  holding [v,ov,iv] (setItem ov iv v)
  release [v,ov,iv] []):=by intro _;rfl):PG X (.Subscript o i pos) (gSub to ti t):=by
 intro pins s σ H v u Q I r h
 rw[ha]
 refine kD (dB (thn (ho pins s σ H _ I h) λov s1 hZ=>?_))
 obtain⟨x,H1,I1,r1,q1⟩:=hZ
 refine kD (dB (thn (hi pins s1 σ H1 _ I1 q1) λiv s2 hZ=>?_))
 obtain⟨y,H2,I2,r2,q2⟩:=hZ
 refine kD (p8 (kD (dB (thn (hs pins s2 σ H2 x y v ov iv u _ I2 r1 r2 r q2) λ_ s3 hZ=>?_))))
 obtain⟨H3,I3,q3⟩:=hZ
 exact wpAny_release ⟨σ,H3,I3,q3⟩
noncomputable def tAsg(te:TE)(g:TG):TS:=λD σ H=>te σ H λx H1=>g x σ H1 D.nx
theorem q31{tg e:Expr}{te:TE}{g:TG}(he:PE X e te)(hg:PG X tg g)(hs:swapsWithSole [tg] e pos.line X.env=pure false:=by rfl)(hw:swappedStores [tg] e X.env=pure none:=by rfl)
 (h1:(assignEach [tg] X.env).map (·.2)=[assign tg X.env]:=by rfl):PS X (.Assign [tg] e pos) (tAsg te g):=by
 intro pins s σ H D I h
 refine wpAny_Assign_stores (thn (he pins s σ H _ I h) λv s1 hZ=>?_) hs hw
 obtain⟨x,H1,I1,r1,q1⟩:=hZ
 rw[h1]
 exact thn (hg pins s1 σ H1 x v _ I1 r1 q1) λ_ s2 q=>q
theorem qU{i:Nat}{x:Str}{e:Expr}{te:TE}{pos':Pos}(hN:X.N.Nodup)(hi:X.N[i]?=some x)(hx:Loc X.env.scope x)(he:PE X e te)(hs:swapsWith e (some (.Name x pos')) pos.line X.env=pure false:=by rfl)(hf:X.fn x=true∨X.env.scope.names.lookup x=some .local:=by first|exact .inl rfl|exact .inr rfl|assumption):
 PS X (.Assign [.Name x pos'] e pos) (tAsg te (q2U i)):=by
 intro pins s σ H D I h
 refine wpAny_Assign_Name (thn (he pins s σ H _ I h) λv s1 hZ=>?_) hs
 obtain⟨y,H1,I1,r1,q1⟩:=hZ
 exact q5Q I1 hN hi hx r1 (λs2 I2=>⟨_,H1,I2,q1⟩) hf
noncomputable def tAug(i:Nat)(te:TE)(ti:TIp):TS:=λD σ H=>∃x,σ[i]?=some (some x)∧te σ H λy H1=>ti x y H1 λz H2=>D.nx (σ.set i (some z)) H2
theorem qHP{i:Nat}{x:Str}{e:Expr}{te:TE}{op:Operator}{ti:TIp}{pos':Pos}(hN:X.N.Nodup)(hi:X.N[i]?=some x)(hx:Loc X.env.scope x)(he:PE X e te)(ho:PIp X op ti)(hf:X.fn x=true∨X.env.scope.names.lookup x=some .local:=by first|exact .inl rfl|exact .inr rfl|assumption):
 PS X (.AugAssign (.Name x pos') op e pos) (tAug i te ti):=by
 intro pins s σ H D I h
 obtain⟨v,e1,h⟩:=h
 obtain⟨m,hn,hl⟩:=I.loc
 have vis:Vis X.env.scope x:=by rcases hx with k|k;exact .inl k;exact .inr (.inl k)
 obtain⟨u,r,l⟩:=hl i x v hi e1 vis
 refine wpAny_AugAssign_Name ?_
 have go:wpAny (model X.prog X.w) X.A (eval e X.env) (λw s₂=>wpAny (model X.prog X.w) X.A (inplaceOp op u w) (λr s₃=>wpAny (model X.prog X.w) X.A (storeName X.env x r) (λ_=>SP X pins D .next) X.xe s₃) X.xe s₂) X.xe s:=by
  refine thn (he pins s σ H _ I h) λw s1 hZ=>?_
  obtain⟨y,H1,I1,r1,q1⟩:=hZ
  refine thn (ho pins s1 σ H1 v y u w _ I1 r r1 q1) λz s2 hZ=>?_
  obtain⟨zv,H2,I2,r2,q2⟩:=hZ
  exact q5Q I2 hN hi hx r2 (λs3 I3=>⟨_,H2,I3,q2⟩) hf
 rcases l with⟨hk,hm⟩|⟨hk,c,hc,hcell⟩
 ·exact wpAny_loadName_local I.ok.kind hk hn hm go
 ·rcases hk with hk|hk
  ·exact wpAny_loadName_cell I.ok.kind hk hc hcell go
  ·rcases hx with k|k
   ·have:X.env.scope.names.lookup x=some .free:=hk
    rw[k]at this;cases this
   ·have:X.env.scope.names.lookup x=some .free:=hk
    rw[k]at this;cases this
noncomputable def qJT(to ti te:TE)(tget:V→V→Hp→VK→Prop)(tip:TIp)(tset:TSet):TS:=λD σ H=>to σ H λo H1=>ti σ H1 λi H2=>tget o i H2 λx H3=>te σ H3 λy H4=>tip x y H4 λz H5=>tset o i z H5 λH6=>D.nx σ H6
noncomputable def PGet(X:Cx)(t:V→V→Hp→VK→Prop):Prop:=
 ∀(pins:List (Addr×Obj)) (s:Shared) (σ:St) (H:Hp) (o i:V) (ov iv:Value) (Q:VK),Inv X pins σ H s→RelV o ov→RelV i iv→t o i H Q→
  wpAny (model X.prog X.w) X.A (getItem ov iv) (EP X pins σ Q) X.xe s
theorem q3K{o i e:Expr}{to ti te:TE}{tget:V→V→Hp→VK→Prop}{tip:TIp}{tset:TSet}{op:Operator}{tpos:Pos}(ho:PE X o to)(hi:PE X i ti)(hg:PGet X tget)(he:PE X e te)(hp:PIp X op tip)(hs:PSet X tset)
 (ha:∀ov iv new,augStore i ov iv new=(do holding [new,ov,iv] (setItem ov iv new);release [new,ov,iv] [];pure .next):=by intros;rfl):PS X (.AugAssign (.Subscript o i tpos) op e pos) (qJT to ti te tget tip tset):=by
 intro pins s σ H D I h
 refine wpAny_AugAssign_SubscriptAny (thn (ho pins s σ H _ I h) λov s1 hZ=>?_) ha
 obtain⟨x1,H1,I1,r1,q1⟩:=hZ
 refine thn (hi pins s1 σ H1 _ I1 q1) λiv s2 hZ=>?_
 obtain⟨x2,H2,I2,r2,q2⟩:=hZ
 refine thn (hg pins s2 σ H2 x1 x2 ov iv _ I2 r1 r2 q2) λold s3 hZ=>?_
 obtain⟨x3,H3,I3,r3,q3⟩:=hZ
 refine thn (he pins s3 σ H3 _ I3 q3) λv s4 hZ=>?_
 obtain⟨x4,H4,I4,r4,q4⟩:=hZ
 refine thn (hp pins s4 σ H4 x3 x4 old v _ I4 r3 r4 q4) λnew s5 hZ=>?_
 obtain⟨x5,H5,I5,r5,q5⟩:=hZ
 exact thn (hs pins s5 σ H5 x1 x2 x5 ov iv new _ I5 r1 r2 r5 q5) λ_ s6 ⟨H6,I6,q6⟩=>⟨σ,H6,I6,q6⟩
noncomputable def ipI(f:Int→Int→Int):TIp:=λx y H Q=>∃i j,x=.int i∧y=.int j∧Q (.int (f i j)) H
theorem q5T:PIp X .Add (ipI λi j=>i+j):=by
 intro pins s σ H x y v u Q I r1 r2 h
 obtain⟨i,j,e1,e2,q⟩:=h
 subst e1;subst e2
 obtain⟨t,rfl⟩:=r1
 obtain⟨t',rfl⟩:=r2
 exact iadd_int ⟨.int _,H,I.tok _,⟨_,rfl⟩,q⟩
theorem qHQ:PIp X .Sub (ipI λi j=>i-j):=by
 intro pins s σ H x y v u Q I r1 r2 h
 obtain⟨i,j,e1,e2,q⟩:=h
 subst e1;subst e2
 obtain⟨t,rfl⟩:=r1
 obtain⟨t',rfl⟩:=r2
 exact isub_int ⟨.int _,H,I.tok _,⟨_,rfl⟩,q⟩
end
section
variable{X:Cx}{pos:Pos}
noncomputable def qHR(c:TT)(tb:TS):TS:=λD σ H=>∃W:Nat→St→Hp→Prop,(∃m,W m σ H)∧∀m σ H,W m σ H→
 c σ H λb H1=>if b=true then ∃N:St→Hp→Prop,(∀σ' H',N σ' H'→∃m',m'<m∧W m' σ' H')∧tb { D with nx:=N,ct:=N,bk:=D.nx } σ H1 else D.nx σ H1
theorem q8Z{c:Expr}{body:List Stmt}{tc:TT}{tb:TS}(hp:PassesOwn (model X.prog X.w) X.A X.env X.xe)(hc:PT X c tc)(hb:PSs X body tb):PS X (.While c body [] pos) (qHR tc tb):=by
 intro pins s σ H D I h
 obtain⟨W,⟨m0,w0⟩,turn⟩:=h
 refine wpAny_While (codeAny_whileLoop (λn s'=>∃σ' H',Inv X pins σ' H' s'∧W n σ' H') ?_ m0 ⟨σ,H,I,w0⟩)
 rintro n s1 ⟨σ1,H1,I1,w1⟩
 refine rQ hp (thn (hc pins s1 σ1 H1 _ I1 (turn n σ1 H1 w1)) λb s2 hZ=>?_)
 obtain⟨H2,I2,q2⟩:=hZ
 cases b with
 |true=>
  obtain⟨N,hN,q2⟩:=q2
  rw[kF rfl]
  refine rQ hp (thn (hb pins s2 σ1 H2 _ I2 q2) λf s3 q3=>?_)
  cases f with
  |next=>
   obtain⟨σ3,H3,I3,n3⟩:=q3
   obtain⟨m',hm,w3⟩:=hN σ3 H3 n3
   exact⟨m',hm,σ3,H3,I3,w3⟩
  |cont=>
   obtain⟨σ3,H3,I3,n3⟩:=q3
   obtain⟨m',hm,w3⟩:=hN σ3 H3 n3
   exact⟨m',hm,σ3,H3,I3,w3⟩
  |brk=>exact q3
  |ret v=>exact q3
 |false=>
  rw[kB kQ]
  exact pF ⟨σ1,H2,I2,q2⟩
end
structure It where
 go:Nat→Hp→Prop
 yld:Nat→Hp→V→Hp→Prop
 stop:Nat→Hp→Prop
noncomputable def FpOk(X:Cx)(pins:List (Addr×Obj))(H:Hp)(b:Addr):Prop:=
 H b=none∧b≠X.env.locals∧b∉X.fs∧(b∈X.ex∨X.s₀.heap.objs.size≤b)∧(∀x c,X.env.cells.lookup x=some c→c≠b)∧∀p∈X.pn++pins,p.1≠b
theorem Inv.fpOk{X:Cx}{pins:List (Addr×Obj)}{σ:St}{H H':Hp}{s:Shared}{b:Addr}(I:Inv X pins σ H s)(hb:s.heap.objs.size≤b)(hn:H' b=none):FpOk X pins H' b:=by
 refine⟨hn,rX (mY I.lt hb),I.nofs hb,.inr (mI I.sz hb),λx c e z=>?_,λp hp z=>?_⟩
 ·obtain⟨v,q⟩:=I.cell x c e
  exact absurd (mY q.lt (by rw[z];exact hb)) (rD _)
 ·exact absurd (mY (kX (I.pin p hp).1) (by rw[z];exact hb)) (rD _)
structure Turn(P:Program)(w:World)(K:PySem.W.Frag)(tg:Expr)(J:It)(fp:List Addr)(it:Addr)(tn:Nat→Heap→Prop):Prop where
 mem:it∈fp
 obj:∀i h,tn i h→∀b∈fp,∃o,h.get? b=some o∧∀v,o.data≠ .cell v
 keep:∀i h h',tn i h→(∀b∈fp,∀o,h.get? b=some o→h'.get? b=some o)→tn i h'
 item:∀(X:Cx),X.prog=P→X.w=w→X.K=K→X.calm=true→∀(i:Nat) (pins:List (Addr×Obj)) (s:Shared) (σ:St) (H:Hp) (E:Value→Shared→Prop),Inv X pins σ H s→(∀b∈fp,FpOk X pins H b)→tn i s.heap→J.go i H→
  wpAny (model P w) X.A (pyNext (.ref it)) (λr s1=>∃u,r=some u∧
   wpAny (model P w) X.A (letOwnedTupleGo tg (.ref it) u) (λ_ s2=>∃x H',Inv X pins σ H' s2∧RelV x u∧J.yld i H x H'∧tn (i+1) s2.heap∧∀b∈fp,H' b=none) E s1) E s
 done:∀(X:Cx),X.prog=P→X.w=w→X.K=K→X.calm=true→∀(i:Nat) (pins:List (Addr×Obj)) (s:Shared) (σ:St) (H:Hp) (E:Value→Shared→Prop),Inv X pins σ H s→(∀b∈fp,FpOk X pins H b)→tn i s.heap→J.stop i H→
  wpAny (model P w) X.A (pyNext (.ref it)) (λr s1=>r=none∧Inv X pins σ H s1) E s
 self:∀(A:Around) (i:Nat) (s:Shared) (Q:Value→Shared→Prop) (E:Value→Shared→Prop),tn i s.heap→Q (.ref it) s→wpAny (model P w) A (pyIter (.ref it)) Q E s
noncomputable abbrev TI:=St→Hp→(It→Hp→Prop)→Prop
noncomputable def PIE(X:Cx)(pins:List (Addr×Obj))(σ:St)(tg:Expr)(R:It→Hp→Prop)(itv:Value)(s2:Shared):Prop:=
 ∃(it:Addr) (fp:List Addr) (tn:Nat→Heap→Prop) (J:It) (H':Hp),itv=.ref it∧Inv X pins σ H' s2∧Turn X.prog X.w X.K tg J fp it tn∧tn 0 s2.heap∧(∀b∈fp,FpOk X pins H' b)∧R J H'
noncomputable def PI(X:Cx)(tg iter:Expr)(wi:TI):Prop:=
 ∀(pins:List (Addr×Obj)) (s:Shared) (σ:St) (H:Hp) (R:It→Hp→Prop),Inv X pins σ H s→wi σ H R→
  wpAny (model X.prog X.w) X.A (eval iter X.env) (λv s1=>wpAny (model X.prog X.w) X.A (pyIter v) (PIE X pins σ tg R) X.xe s1) X.xe s
theorem q90{M:Model}{A:Around}{E:Value→Shared→Prop}{s:Shared}{tg:Expr}{it:Addr}{u:Value}{o:Obj}{n:String}{vs:Array Value}{Q:Unit→Shared→Prop}(ho:s.heap.get? it=some o)(hc:o.cls=.type n)(hd:o.data=.fields vs)
 (hn:["enumerate","zip","dict_itemiterator","dict_reverseitemiterator","odict_iterator","itertools.zip_longest","itertools.pairwise"].contains n=false) (hQ:Q () s):wpAny M A (letOwnedTupleGo tg (.ref it) u) Q E s:=by
 unfold letOwnedTupleGo
 cases tg<;>first
  |exact kZ hQ
  |(cases u<;>first
   |exact kZ hQ
   |(refine kD (wpAny_load ho ?_)
     rw[hc,hd]
     show wpAny M A (if(["enumerate","zip","dict_itemiterator","dict_reverseitemiterator","odict_iterator","itertools.zip_longest","itertools.pairwise"].contains n&&vs[0]?==some (rawInt _))=true then _ else _) Q E s
     rw[kB (by intro h;rw[hn,Bool.false_and]at h;cases h)]
     exact kZ hQ))
noncomputable def Itl(K:PySem.W.Frag)(a:Addr):It:=
 ⟨λi H=>∃xs x,SqL K H a xs∧xs[i]?=some x,λi H x H'=>H'=H∧∀xs,SqL K H a xs→xs[i]?=some x,λi H=>∃xs,SqL K H a xs∧xs.length≤i⟩
noncomputable def Itt(K:PySem.W.Frag)(a:Addr):It:=
 ⟨λi H=>∃xs x,SqT K H a xs∧xs[i]?=some x,λi H x H'=>H'=H∧∀xs,SqT K H a xs→xs[i]?=some x,λi H=>∃xs,SqT K H a xs∧xs.length≤i⟩
noncomputable def Itr(lo:Int)(n:Nat):It:=⟨λi _=>i<n,λi H x H'=>H'=H∧x=.int (lo+i),λi _=>n≤i⟩
theorem qC3{P:Program}{w:World}{K:PySem.W.Frag}{tg:Expr}(a it:Addr):Turn P w K tg (Itl K a) [it] it (λi h=>h.IsListIter it a i) where
 mem:=by simp
 obj:=λi h st b hb=>by
  have e:b=it:=by simpa using hb
  subst e
  obtain⟨o,e,c,d⟩:=st
  exact⟨o,e,λv z=>by rw[d]at z;cases z⟩
 keep:=λi h h' st k=>st.at λo e=>k it (by simp) o e
 item:=by
  intro X hP hw hK hc i pins s σ H E I hf st hg
  subst hP hw hK
  obtain⟨xs,x,hq,hx⟩:=hg
  obtain⟨its,rv,p,hz⟩:=I.list hq
  obtain⟨u,hu,ru⟩:=rv.get hx
  obtain⟨f0,f1,f2,f3,f4,f5⟩:=hf it (by simp)
  refine wpAny_pyNext_list_item st p.isList (x:=u) (by simpa using hu) λh' st' sb=>?_
  have I1:Inv X pins σ H { s with heap:=h' }:=I.turned (t':=s.toks) (λb o hb e=>(sb.2 b hb).trans e) f0 f1 f3 f4 f5
  obtain⟨o,e,c,d⟩:=id st'
  exact⟨u,rfl,q90 (s:={ s with heap:=h' }) e c d (by decide) ⟨x,H,I1,ru,⟨rfl,λys hy=>by rw[I.list_inj hy hq];exact hx⟩,st',λb hb=>(hf b hb).1⟩⟩
 done:=by
  intro X hP hw hK hc i pins s σ H E I hf st hg
  subst hP hw hK
  obtain⟨xs,hq,hx⟩:=hg
  obtain⟨its,rv,p,hz⟩:=I.list hq
  obtain⟨f0,f1,f2,f3,f4,f5⟩:=hf it (by simp)
  have hl:=rv.length
  exact wpAny_pyNext_list_end (I.ok.hd hc) st p.isList (by simp;omega) λh' eb=>⟨rfl,I.turned (t':=s.toks) (λb o hb e=>eb b o hb e) f0 f1 f3 f4 f5⟩
 self:=λ_ _ _ _ _ st h=>wpAny_pyIter_listiter st h
theorem qA4{P:Program}{w:World}{K:PySem.W.Frag}{tg:Expr}(a it:Addr):Turn P w K tg (Itt K a) [it] it (λi h=>h.IsTupleIter it a i) where
 mem:=by simp
 obj:=λi h st b hb=>by
  have e:b=it:=by simpa using hb
  subst e
  obtain⟨o,e,c,d⟩:=st
  exact⟨o,e,λv z=>by rw[d]at z;cases z⟩
 keep:=λi h h' st k=>st.at λo e=>k it (by simp) o e
 item:=by
  intro X hP hw hK hc i pins s σ H E I hf st hg
  subst hP hw hK
  obtain⟨xs,x,hq,hx⟩:=hg
  obtain⟨its,rv,p,hz⟩:=I.tuple hq
  obtain⟨u,hu,ru⟩:=rv.get hx
  obtain⟨f0,f1,f2,f3,f4,f5⟩:=hf it (by simp)
  refine wpAny_pyNext_tuple_item st (show s.heap.IsTuple a its.toArray from p) (x:=u) (by simpa using hu) λh' st' sb=>?_
  have I1:Inv X pins σ H { s with heap:=h' }:=I.turned (t':=s.toks) (λb o hb e=>(sb.2 b hb).trans e) f0 f1 f3 f4 f5
  obtain⟨o,e,c,d⟩:=id st'
  exact⟨u,rfl,q90 (s:={ s with heap:=h' }) e c d (by decide) ⟨x,H,I1,ru,⟨rfl,λys hy=>by rw[I.tuple_inj hy hq];exact hx⟩,st',λb hb=>(hf b hb).1⟩⟩
 done:=by
  intro X hP hw hK hc i pins s σ H E I hf st hg
  subst hP hw hK
  obtain⟨xs,hq,hx⟩:=hg
  obtain⟨its,rv,p,hz⟩:=I.tuple hq
  obtain⟨f0,f1,f2,f3,f4,f5⟩:=hf it (by simp)
  have hl:=rv.length
  exact wpAny_pyNext_tuple_end (I.ok.hd hc) st (show s.heap.IsTuple a its.toArray from p) (by simp;omega) λh' eb=>⟨rfl,I.turned (t':=s.toks) (λb o hb e=>eb b o hb e) f0 f1 f3 f4 f5⟩
 self:=λ_ _ _ _ _ st h=>wpAny_pyIter_tupleiter st h
theorem qA5{P:Program}{w:World}{K:PySem.W.Frag}{tg:Expr}(it:Addr)(lo:Int)(n:Nat):Turn P w K tg (Itr lo n) [it] it (λi h=>IsRangeIter h it (lo+(i:Nat)*1) ((n:Int)-(i:Nat)) 1) where
 mem:=by simp
 obj:=λi h st b hb=>by
  have e:b=it:=by simpa using hb
  subst e
  exact⟨_,st,λv z=>by
   have z':Data.fields _=Data.cell v:=z
   cases z'⟩
 keep:=λi h h' st k=>k it (by simp) _ st
 item:=by
  intro X hP hw hK hc i pins s σ H E I hf st hg
  subst hP hw hK
  obtain⟨f0,f1,f2,f3,f4,f5⟩:=hf it (by simp)
  have W:=Walks.range (prog:=X.prog) (w:=X.w) (I.ok.hd hc) it lo 1 n
  refine W.item i s _ _ hg st λv h' tk hv st' kk=>?_
  obtain⟨t,rfl⟩:=hv
  have I1:Inv X pins σ H { s with heap:=h',toks:=tk }:=I.turned (λb o hb e=>kk b o (by simpa using hb) e) f0 f1 f3 f4 f5
  refine⟨_,rfl,q90 (s:={ s with heap:=h',toks:=tk }) (n:="range_iterator") st' rfl rfl (by decide) ⟨.int (lo+i),H,I1,⟨t,?_⟩,⟨rfl,rfl⟩,st',λb hb=>(hf b hb).1⟩⟩
  rw[Int.mul_one]
 done:=by
  intro X hP hw hK hc i pins s σ H E I hf st hg
  subst hP hw hK
  obtain⟨f0,f1,f2,f3,f4,f5⟩:=hf it (by simp)
  exact wpAny_pyNext_range_end (I.ok.hd hc) st (by have:n≤i:=hg;omega) λh' eb=>⟨rfl,I.turned (t':=s.toks) (λb o hb e=>eb b o hb e) f0 f1 f3 f4 f5⟩
 self:=λ_ _ _ _ _ st h=>wpAny_pyIter_rangeiter st h
section
variable{X:Cx}{tg:Expr}
noncomputable def qJU(K:PySem.W.Frag)(tl:TE):TI:=λσ H R=>tl σ H λx H1=>∃a,x=.ref a∧(∃xs,SqL K H1 a xs)∧R (Itl K a) H1
noncomputable def iTup(K:PySem.W.Frag)(tl:TE):TI:=λσ H R=>tl σ H λx H1=>∃a,x=.ref a∧(∃xs,SqT K H1 a xs)∧R (Itt K a) H1
theorem jP{l:Expr}{tl:TE}(hl:PE X l tl):PI X tg l (qJU X.K tl):=by
 intro pins s σ H R I h
 refine thn (hl pins s σ H _ I h) λv s1 hZ=>?_
 obtain⟨x,H1,I1,r1,q1⟩:=hZ
 obtain⟨a,e,⟨xs,hq⟩,q⟩:=q1
 subst e
 cases r1
 obtain⟨its,rv,p,hz⟩:=I1.list hq
 refine wpAny_pyIter_list p.isList ?_
 refine⟨s1.heap.objs.size,[s1.heap.objs.size],_,_,H1,rfl,I1.kept (t':=s1.toks) λb o e=>kE _ e,qC3 a _,⟨_,mK _ rfl,rfl,rfl⟩,λb hb=>?_,q⟩
 have e:b=s1.heap.objs.size:=by simpa using hb
 subst e
 exact I1.fpOk (kN _) (I1.hok.fresh (kN _))
theorem qHS{l:Expr}{tl:TE}(hl:PE X l tl):PI X tg l (iTup X.K tl):=by
 intro pins s σ H R I h
 refine thn (hl pins s σ H _ I h) λv s1 hZ=>?_
 obtain⟨x,H1,I1,r1,q1⟩:=hZ
 obtain⟨a,e,⟨xs,hq⟩,q⟩:=q1
 subst e
 cases r1
 obtain⟨its,rv,p,hz⟩:=I1.tuple hq
 refine wpAny_pyIter_tuple (show s1.heap.IsTuple a its.toArray from p) ?_
 refine⟨s1.heap.objs.size,[s1.heap.objs.size],_,_,H1,rfl,I1.kept (t':=s1.toks) λb o e=>kE _ e,qA4 a _,⟨_,mK _ rfl,rfl,rfl⟩,λb hb=>?_,q⟩
 have e:b=s1.heap.objs.size:=by simpa using hb
 subst e
 exact I1.fpOk (kN _) (I1.hok.fresh (kN _))
theorem q91{pins:List (Addr×Obj)}{σ:St}{H:Hp}{s:Shared}{R:It→Hp→Prop}{E:Value→Shared→Prop}{lo hi:Int}{t u v:Tok}{tk:Nat}(I:Inv X pins σ H s)(h1:-(2 ^ 62)≤lo)(h2:lo<2 ^ 62)(h3:-(2 ^ 62)≤hi)(h4:hi<2 ^ 62)
 (q:R (Itr lo (hi-lo).toNat) H):wpAny (model X.prog X.w) X.A (pyIter (.ref s.heap.objs.size)) (PIE X pins σ tg R) E { s with heap:=s.heap.push { cls:=.type "range",data:=.fields #[.int lo t,.int hi u,.int 1 v] },toks:=tk }:=by
 refine wpAny_pyIter_range (IsRange.new ..) (small_one h1 h2 h3 h4) ?_
 have I1:Inv X pins σ H { s with heap:=s.heap.push { cls:=.type "range",data:=.fields #[.int lo t,.int hi u,.int 1 v] },toks:=tk }:=I.kept λb o e=>kE _ e
 refine⟨(s.heap.push { cls:=.type "range",data:=.fields #[.int lo t,.int hi u,.int 1 v] }).objs.size,[(s.heap.push { cls:=.type "range",data:=.fields #[.int lo t,.int hi u,.int 1 v] }).objs.size],_,_,H,rfl,
  I1.kept (t':=tk) λb o e=>kE _ e,qA5 _ lo (hi-lo).toNat,?_,λb hb=>?_,q⟩
 ·have e1:lo+((0:Nat):Int)*1=lo:=by simp
  have e2:(((hi-lo).toNat:Nat):Int)-((0:Nat):Int)=Builtin.Range.rangeSize lo hi 1:=by rw[rangeSize_one];split<;>omega
  show IsRangeIter _ _ (lo+((0:Nat):Int)*1) ((((hi-lo).toNat:Nat):Int)-((0:Nat):Int)) 1
  rw[e1,e2]
  exact mK _ rfl
 ·have e:b=(s.heap.push { cls:=.type "range",data:=.fields #[.int lo t,.int hi u,.int 1 v] }).objs.size:=by simpa using hb
  subst e
  exact I1.fpOk (kN _) (I1.hok.fresh (kN _))
noncomputable def qJV(ta:TA):TI:=λσ H R=>ta σ H λvs H1=>∃j:Int,vs=[.int j]∧-(2 ^ 62)≤j∧j<2 ^ 62∧R (Itr 0 j.toNat) H1
noncomputable def qJW(ta:TA):TI:=λσ H R=>ta σ H λvs H1=>∃i j:Int,vs=[.int i,.int j]∧(-(2 ^ 62)≤i∧i<2 ^ 62∧-(2 ^ 62)≤j∧j<2 ^ 62)∧R (Itr i (j-i).toNat) H1
theorem q06{a:Expr}{ta:TA}{p pos:Pos}(hg:Gl X "range")(hm:X.mg "range"=none)(ha:PA X [a] ta)(hs:starEach [a] X.env=[(false,eval a X.env)]:=by rfl):PI X tg (.Call (.Name "range" p) [a] [] pos) (qJV ta):=by
 intro pins s σ H R I h
 refine Call_ (q4A I hg hm boot_range (wR (thn (ha pos pins s σ H _ I h) λus s1 hZ=>?_) hs rfl))
 obtain⟨vs,H1,I1,r1,q1⟩:=hZ
 obtain⟨j,e,q1,q2,q⟩:=q1
 subst e
 cases r1 with
 |cons r rr=>
  cases rr
  obtain⟨t,rfl⟩:=r
  exact call_range_1 (q91 I1 (by omega) (by omega) q1 q2 (by simpa using q))
theorem q4C{a b:Expr}{ta:TA}{p pos:Pos}(hg:Gl X "range")(hm:X.mg "range"=none)(ha:PA X [a,b] ta)(hs:starEach [a,b] X.env=[(false,eval a X.env),(false,eval b X.env)]:=by rfl)(hs2:starEach [b] X.env=[(false,eval b X.env)]:=by rfl):
 PI X tg (.Call (.Name "range" p) [a,b] [] pos) (qJW ta):=by
 intro pins s σ H R I h
 refine Call_ (q4A I hg hm boot_range (wR (thn (ha pos pins s σ H _ I h) λus s1 ⟨vs,H1,I1,r1,q1⟩=>?_) (by rw[hs,hs2]) (by rw[hs2];rfl)))
 obtain⟨i,j,e,⟨q1,q2,q3,q4⟩,q⟩:=q1
 subst e
 cases r1 with
 |cons r rr=>
  cases rr with
  |cons r' rr=>
   cases rr
   obtain⟨t,rfl⟩:=r
   obtain⟨t',rfl⟩:=r'
   exact call_range_2 (q91 I1 q1 q2 q3 q4 q)
noncomputable def tFor(wi:TI)(g:TG)(tb:TS):TS:=λD σ H=>wi σ H λJ H1=>∃W:Nat→Nat→St→Hp→Prop,(∃m,W 0 m σ H1)∧∀i m σ H,W i m σ H→
 (J.stop i H∧D.nx σ H)∨(J.go i H∧∃N:St→Hp→Prop,(∀σ' H',N σ' H'→∃m',m'<m∧W (i+1) m' σ' H')∧∀x H',J.yld i H x H'→g x σ H' λσ2 H2=>tb { D with nx:=N,ct:=N,bk:=D.nx } σ2 H2)
noncomputable def q4D(fp:List Addr)(h:Heap):List (Addr×Obj):=fp.filterMap λb=>(h.get? b).map λo=>(b,o)
theorem yY{fp:List Addr}{h:Heap}{b:Addr}{o:Obj}(hb:b∈fp)(e:h.get? b=some o):(b,o)∈q4D fp h:=wI.mpr ⟨b,hb,by rw[e];rfl⟩
theorem qC4{fp:List Addr}{h:Heap}{p:Addr×Obj}(hp:p∈q4D fp h):p.1∈fp∧h.get? p.1=some p.2:=by
 obtain⟨b,hb,e⟩:=wI.mp hp
 cases q:h.get? b with
 |none=>rw[q]at e;cases e
 |some o=>
  rw[q]at e
  have e':(b,o)=p:=kP e
  subst e'
  exact⟨hb,q⟩
theorem Inv.pinned{pins:List (Addr×Obj)}{σ:St}{H:Hp}{s:Shared}{fp:List Addr}(I:Inv X pins σ H s)(hf:∀b∈fp,FpOk X pins H b)(ho:∀b∈fp,∃o,s.heap.get? b=some o∧∀v,o.data≠ .cell v):Inv X (pins++q4D fp s.heap) σ H s:=
 I.pins_of λp hp=>(gM.mp hp).elim (λz=>I.pin p (mJ _ z)) λz=>by
  obtain⟨hb,e⟩:=qC4 z
  obtain⟨f0,f1,f2,_⟩:=hf p.1 hb
  obtain⟨o,e',d⟩:=ho p.1 hb
  rw[e]at e';cases e'
  exact⟨e,f0,f1,f2,d⟩
theorem Inv.unpinned{pins pl:List (Addr×Obj)}{σ:St}{H:Hp}{s:Shared}(I:Inv X (pins++pl) σ H s):Inv X pins σ H s:=I.pins_of λp hp=>I.pin p (mJ _ (gU _ hp))
theorem uG{iter:Expr}{body:List Stmt}{wi:TI}{g:TG}{tb:TS}{pos:Pos}(hp:PassesOwn (model X.prog X.w) X.A X.env X.xe)(hc:X.calm=true)(hi:PI X tg iter wi)(hg:PG X tg g)(hb:PSs X body tb)
 (hs:∀x,foldedSetIterable iter X.env x=pure x:=by intro _;rfl):PS X (.For tg iter body [] pos) (tFor wi g tb):=by
 intro pins s σ H D I h
 refine wpAny_For (thn (hi pins s σ H _ I h) λv s1 h1=>thn h1 λitv s2 h2=>?_) hs
 obtain⟨it,fp,tn,J,H2,e,I2,T,st2,f2,W,⟨m0,w0⟩,turn⟩:=h2
 subst e
 have stat:∀{H':Hp},(∀b∈fp,H' b=none)→∀b∈fp,FpOk X pins H' b:=λhn b hb=>⟨hn b hb,(f2 b hb).2⟩
 refine codeAny_forLoop_any (λn s'=>∃i σ' H',Inv X pins σ' H' s'∧tn i s'.heap∧(∀b∈fp,H' b=none)∧W i n σ' H') ?_ m0 ⟨0,σ,H2,I2,st2,λb hb=>(f2 b hb).1,w0⟩
 rintro n s3 ⟨i,σ3,H3,I3,st3,fr3,w3⟩
 rcases turn i n σ3 H3 w3 with⟨stop,qn⟩|⟨go,N,hN,step⟩
 ·refine rQ hp (thn (T.done X rfl rfl rfl hc i pins s3 σ3 H3 X.xe I3 (stat fr3) st3 stop) λr s4 hZ=>?_)
  obtain⟨hr,I4⟩:=hZ
  subst hr
  exact pF ⟨σ3,H3,I4,qn⟩
 ·refine rQ hp (thn (T.item X rfl rfl rfl hc i pins s3 σ3 H3 X.xe I3 (stat fr3) st3 go) λr s4 hZ=>?_)
  obtain⟨u,hr,h4⟩:=hZ
  subst hr
  refine rQ hp (thn h4 λ_ s5 hZ=>?_)
  obtain⟨x,H5,I5,r5,y5,st5,fr5⟩:=hZ
  have I5':=I5.pinned (stat fr5) (T.obj _ _ st5)
  refine rQ hp (thn (hg _ s5 σ3 H5 x u _ I5' r5 (step x H5 y5)) λ_ s6 hZ=>?_)
  obtain⟨σ6,H6,I6,q6⟩:=hZ
  refine rQ hp (thn (hb _ s6 σ6 H6 _ I6 q6) λf s7 q7=>?_)
  have again:∀{σ7:St} {H7:Hp},Inv X (pins++q4D fp s5.heap) σ7 H7 s7→N σ7 H7→∃m,m<n∧∃i σ' H',Inv X pins σ' H' s7∧tn i s7.heap∧(∀b∈fp,H' b=none)∧W i m σ' H':=fun {σ7 H7} I7 n7=>by
   obtain⟨m',hm,w7⟩:=hN σ7 H7 n7
   refine⟨m',hm,i+1,σ7,H7,I7.unpinned,T.keep _ _ _ st5 λb hb o e=>(I7.pin (b,o) (mJ _ (mJ _ (yY hb e)))).1,λb hb=>?_,w7⟩
   obtain⟨o,e,d⟩:=T.obj _ _ st5 b hb
   exact(I7.pin (b,o) (mJ _ (mJ _ (yY hb e)))).2.1
  cases f with
  |next=>obtain⟨σ7,H7,I7,n7⟩:=q7;exact again I7 n7
  |cont=>obtain⟨σ7,H7,I7,n7⟩:=q7;exact again I7 n7
  |brk=>obtain⟨σ7,H7,I7,q7⟩:=q7;exact⟨σ7,H7,I7.unpinned,q7⟩
  |ret v=>obtain⟨x7,σ7,H7,I7,r7,q7⟩:=q7;exact⟨x7,σ7,H7,I7.unpinned,r7,q7⟩
end
theorem uD{K:PySem.W.Frag}{a:Addr}{xs:List V}{g:TG}{tb:TS}{D:Ends}{σ:St}{H:Hp}(Pv:Nat→St→Hp→Prop)(h0:Pv 0 σ H)(hl:∀i σ H,i≤xs.length→Pv i σ H→SqL K H a xs)
 (hs:∀i x σ H,xs[i]?=some x→Pv i σ H→g x σ H λσ2 H2=>tb { D with nx:=Pv (i+1),ct:=Pv (i+1),bk:=D.nx } σ2 H2) (hd:∀σ H,Pv xs.length σ H→D.nx σ H):
 ∃W:Nat→Nat→St→Hp→Prop,(∃m,W 0 m σ H)∧∀i m σ H,W i m σ H→
  ((Itl K a).stop i H∧D.nx σ H)∨((Itl K a).go i H∧∃N:St→Hp→Prop,(∀σ' H',N σ' H'→∃m',m'<m∧W (i+1) m' σ' H')∧∀x H',(Itl K a).yld i H x H'→g x σ H' λσ2 H2=>tb { D with nx:=N,ct:=N,bk:=D.nx } σ2 H2):=by
 refine⟨λi m σ H=>m=xs.length-i∧i≤xs.length∧Pv i σ H,⟨xs.length,by simp,m8 _,h0⟩,?_⟩
 rintro i m σ H ⟨rfl,hi,p⟩
 have q:=hl i σ H hi p
 by_cases hlt:i<xs.length
 ·refine .inr ⟨⟨xs,xs[i],q,by simp[hlt]⟩,Pv (i+1),λσ' H' p'=>⟨xs.length-(i+1),by omega,rfl,hlt,p'⟩,λx H' y=>?_⟩
  obtain⟨e,y⟩:=y
  subst e
  exact hs i x σ _ (y xs q) p
 ·have e:i=xs.length:=by omega
  subst e
  exact .inl ⟨⟨xs,q,kN _⟩,hd σ H p⟩
theorem q7C{lo:Int}{n:Nat}{g:TG}{tb:TS}{D:Ends}{σ:St}{H:Hp}(Pv:Nat→St→Hp→Prop)(h0:Pv 0 σ H)
 (hs:∀i σ H,i<n→Pv i σ H→g (.int (lo+i)) σ H λσ2 H2=>tb { D with nx:=Pv (i+1),ct:=Pv (i+1),bk:=D.nx } σ2 H2) (hd:∀σ H,Pv n σ H→D.nx σ H):
 ∃W:Nat→Nat→St→Hp→Prop,(∃m,W 0 m σ H)∧∀i m σ H,W i m σ H→
  ((Itr lo n).stop i H∧D.nx σ H)∨((Itr lo n).go i H∧∃N:St→Hp→Prop,(∀σ' H',N σ' H'→∃m',m'<m∧W (i+1) m' σ' H')∧∀x H',(Itr lo n).yld i H x H'→g x σ H' λσ2 H2=>tb { D with nx:=N,ct:=N,bk:=D.nx } σ2 H2):=by
 refine⟨λi m σ H=>m=n-i∧i≤n∧Pv i σ H,⟨n,by simp,m8 _,h0⟩,?_⟩
 rintro i m σ H ⟨rfl,hi,p⟩
 by_cases hlt:i<n
 ·refine .inr ⟨hlt,Pv (i+1),λσ' H' p'=>⟨n-(i+1),by omega,rfl,hlt,p'⟩,λx H' y=>?_⟩
  obtain⟨e,y⟩:=y
  subst e y
  exact hs i σ _ hlt p
 ·have e:i=n:=by omega
  subst e
  exact .inl ⟨kN _,hd σ H p⟩
noncomputable abbrev R2:=V→V→Hp→VK→Prop
noncomputable def OpR(X:Cx)(f:Value→Value→Sem Value)(r:R2):Prop:=
 ∀(pins:List (Addr×Obj)) (s:Shared) (σ:St) (H:Hp) (x y:V) (v u:Value) (Q:VK),Inv X pins σ H s→RelV x v→RelV y u→r x y H Q→
  wpAny (model X.prog X.w) X.A (f v u) (EP X pins σ Q) X.xe s
noncomputable def q17(X:Cx)(f:Value)(r:List V→Hp→VK→Prop):Prop:=
 ∀(pins:List (Addr×Obj)) (s:Shared) (σ:St) (H:Hp) (xs:List V) (us:List Value) (Q:VK),Inv X pins σ H s→Vals xs us→r xs H Q→
  wpAny (model X.prog X.w) X.A (call f us) (EP X pins σ Q) X.xe s
noncomputable def tOp(r:R2)(ta tb:TE):TE:=λσ H Q=>ta σ H λx H1=>tb σ H1 λy H2=>r x y H2 Q
noncomputable def rI(C:Int→Int→Prop)(g:Int→Int→V):R2:=λx y H Q=>∃i j,x=.int i∧y=.int j∧C i j∧Q (g i j) H
noncomputable def rI0(g:Int→Int→V):R2:=λx y H Q=>∃i j,x=.int i∧y=.int j∧Q (g i j) H
section
variable{X:Cx}{a b c:Expr}{ta tb tc:TE}{pos:Pos}
theorem binT(ha:PE X a ta)(hb:PE X b tb){pins:List (Addr×Obj)}{s:Shared}{σ:St}{H:Hp}{R:V→V→Hp→Prop}(I:Inv X pins σ H s)
 (h:ta σ H λx H1=>tb σ H1 λy H2=>R x y H2) {Q:Value→Shared→Prop} {f:Value→Value→Sem Value}
 (hf:∀v u s2 x y H2,Inv X pins σ H2 s2→RelV x v→RelV y u→R x y H2→wpAny (model X.prog X.w) X.A (f v u) Q X.xe s2):
 wpAny (model X.prog X.w) X.A (eval a X.env) (λv s₁=>wpAny (model X.prog X.w) X.A (eval b X.env) (λu s₂=>wpAny (model X.prog X.w) X.A (f v u) Q X.xe s₂) X.xe s₁) X.xe s:=by
 refine thn (ha pins s σ H _ I h) λv s1 hZ=>?_
 obtain⟨x,H1,I1,r1,q1⟩:=hZ
 refine thn (hb pins s1 σ H1 _ I1 q1) λu s2 hZ=>?_
 obtain⟨y,H2,I2,r2,q2⟩:=hZ
 exact hf v u s2 x y H2 I2 r1 r2 q2
theorem qS{op:Operator}{r:R2}(ho:OpR X (binaryOp op) r)(ha:PE X a ta)(hb:PE X b tb):PE X (.BinOp a op b pos) (tOp r ta tb):=by
 intro pins s σ H Q I h
 exact wpAny_BinOp (binT ha hb I h λv u s2 x y H2 I2 rx ry q=>ho pins s2 σ H2 x y v u Q I2 rx ry q)
theorem opI{f:Value→Value→Sem Value}{C:Int→Int→Prop}{g:Int→Int→Int}
 (rule:∀(i j:Int) (t u:Tok) (s:Shared) (Q:Value→Shared→Prop) (E:Value→Shared→Prop),C i j→Q (.int (g i j) s.toks) { s with toks:=s.toks+1 }→wpAny (model X.prog X.w) X.A (f (.int i t) (.int j u)) Q E s):
 OpR X f (rI C λi j=>.int (g i j)):=by
 intro pins s σ H x y v u Q I rx ry h
 obtain⟨i,j,rfl,rfl,hc,q⟩:=h
 obtain⟨t,rfl⟩:=rx
 obtain⟨t',rfl⟩:=ry
 exact rule i j t t' s _ _ hc ⟨.int (g i j),H,I.tok _,⟨_,rfl⟩,q⟩
theorem opI0{f:Value→Value→Sem Value}{g:Int→Int→Int}
 (rule:∀(i j:Int) (t u:Tok) (s:Shared) (Q:Value→Shared→Prop) (E:Value→Shared→Prop),Q (.int (g i j) s.toks) { s with toks:=s.toks+1 }→wpAny (model X.prog X.w) X.A (f (.int i t) (.int j u)) Q E s):
 OpR X f (rI0 λi j=>.int (g i j)):=by
 intro pins s σ H x y v u Q I rx ry h
 obtain⟨i,j,rfl,rfl,q⟩:=h
 obtain⟨t,rfl⟩:=rx
 obtain⟨t',rfl⟩:=ry
 exact rule i j t t' s _ _ ⟨.int (g i j),H,I.tok _,⟨_,rfl⟩,q⟩
theorem opB0{f:Value→Value→Sem Value}{g:Int→Int→Bool}
 (rule:∀(i j:Int) (t u:Tok) (s:Shared) (Q:Value→Shared→Prop) (E:Value→Shared→Prop),Q (.bool (g i j)) s→wpAny (model X.prog X.w) X.A (f (.int i t) (.int j u)) Q E s):
 OpR X f (rI0 λi j=>.bl (g i j)):=by
 intro pins s σ H x y v u Q I rx ry h
 obtain⟨i,j,rfl,rfl,q⟩:=h
 obtain⟨t,rfl⟩:=rx
 obtain⟨t',rfl⟩:=ry
 exact rule i j t t' s _ _ ⟨.bl (g i j),H,I,rfl,q⟩
noncomputable def CDiv(i j:Int):Prop:=0<j∧j<1073741824
noncomputable def CPow(i j:Int):Prop:=0≤j∧j≤1000000∧i.natAbs<2 ^ 64
noncomputable def CMul(i j:Int):Prop:=(-(2 ^ 64)<i∧i<2 ^ 64)∨(-(2 ^ 64)<j∧j<2 ^ 64)
theorem CMul.ok{i j:Int}(h:CMul i j):IntMulOk i j:=by
 rcases h with⟨h1,h2⟩|⟨h1,h2⟩
 ·exact .of_left (intBits_le_64 h1 h2)
 ·exact .of_right (intBits_le_64 h1 h2)
theorem uH:OpR X (binaryOp .Add) (rI0 λi j=>.int (i+j)):=opI0 λ_ _ _ _ _ _ _ q=>add_int q
theorem vJ:OpR X (binaryOp .Sub) (rI0 λi j=>.int (i-j)):=opI0 λ_ _ _ _ _ _ _ q=>sub_int q
theorem v6:OpR X (binaryOp .Mult) (rI CMul λi j=>.int (i*j)):=opI λ_ _ _ _ _ _ _ hc q=>mul_int q hc.ok
theorem uF:OpR X (binaryOp .FloorDiv) (rI CDiv λi j=>.int (i / j)):=opI λi j _ _ _ _ _ hc q=>by
 have h1:(0:Int)<j:=hc.1
 have h2:j<1073741824:=hc.2
 exact floordiv_int (by omega) (by rw[Int.fdiv_eq_ediv_of_nonneg i (by omega)];exact q) (.inl (PyProof.noPylong_small (by omega)))
theorem uI:OpR X (binaryOp .Mod) (rI (λ_ j=>0<j) λi j=>.int (i%j)):=opI λi j _ _ _ _ _ hc q=>by
 have h1:(0:Int)<j:=hc
 exact mod_int' (by omega) (by rw[Int.fmod_eq_emod_of_nonneg i (by omega)];exact q)
theorem qCY:OpR X (binaryOp .Pow) (rI CPow λi j=>.int (i ^ j.toNat)):=opI λ_ _ _ _ _ _ _ hc q=>pow_int_small hc.1 hc.2.1 hc.2.2 q
theorem qHT:OpR X (binaryOp .LShift) (rI CPow λi j=>.int (i*2 ^ j.toNat)):=opI λ_ _ _ _ _ _ _ hc q=>lshift_int_small hc.1 hc.2.1 hc.2.2 q
theorem qJX:OpR X (binaryOp .BitOr) (rI0 λi j=>.int (Builtin.bitOr i j)):=opI0 λ_ _ _ _ _ _ _ q=>or_int q
end
noncomputable def scal:V→V→Bool
 | .non,.non=>true| .non,.int _=>true| .int _,.non=>true| .non,.bl _=>true| .bl _,.non=>true| .non,.str _=>true| .str _,.non=>true
 | .int _,.int _=>true| .bl _,.bl _=>true| .str _,.str _=>true| .byt _,.byt _=>true
 | .int _,.str _=>true| .str _,.int _=>true| .bl _,.str _=>true| .str _,.bl _=>true
 |_,_=>false
noncomputable def rEq:R2:=λx y H Q=>scal x y=true∧Q (.bl (decide (x=y))) H
noncomputable def rNe:R2:=λx y H Q=>scal x y=true∧Q (.bl (!decide (x=y))) H
theorem qAY{i j:Int}:decide (V.int i=V.int j)=(i==j):=by
 rw[rR]
 simp
theorem qCZ{i j:Bool}:decide (V.bl i=V.bl j)=(i==j):=by
 rw[rR]
 simp
theorem qAZ{i j:Str}:decide (V.str i=V.str j)=(i==j):=by
 rw[rR]
 simp
theorem qB0{i j:Array UInt8}:decide (V.byt i=V.byt j)=(i.toList==j.toList):=by
 rw[rR]
 cases i
 cases j
 simp
section
variable{X:Cx}{a b c:Expr}{ta tb tc:TE}{pos:Pos}
theorem jL{pins:List (Addr×Obj)}{σ:St}{H:Hp}{s:Shared}{Q:VK}{k k':Bool}(I:Inv X pins σ H s)(q:Q (.bl k) H)(e:k=k'):EP X pins σ Q (.bool k') s:=by
 subst e
 exact⟨.bl k,H,I,rfl,q⟩
theorem uN:OpR X (compareOp .Eq) rEq:=by
 intro pins s σ H x y v u Q I rx ry h
 obtain⟨hs,q⟩:=h
 cases x with
 |non=>
  cases rx
  cases y with
  |non=>cases ry;exact PySem.EqNone.eq_none_none (jL I q (by simp))
  |bl j=>cases ry;exact PySem.EqNone.eq_none_bool (jL I q (by simp))
  |int j=>obtain⟨t',rfl⟩:=ry;exact PySem.EqNone.eq_none_int (jL I q (by simp))
  |str j=>obtain⟨t',rfl⟩:=ry;exact PySem.EqNone.eq_none_str (jL I q (by simp))
  |_=>exact absurd (show false=true from hs) kQ
 |bl i=>
  cases rx
  cases y with
  |non=>cases ry;exact PySem.EqNone.eq_bool_none (jL I q (by simp))
  |bl j=>cases ry;exact eq_bool (jL I q qCZ)
  |str j=>obtain⟨t',rfl⟩:=ry;exact PySem.EqMixed.eq_bool_str (jL I q (by simp))
  |_=>exact absurd (show false=true from hs) kQ
 |int i=>
  obtain⟨t,rfl⟩:=rx
  cases y with
  |non=>cases ry;exact PySem.EqNone.eq_int_none (jL I q (by simp))
  |int j=>obtain⟨t',rfl⟩:=ry;exact eq_int (jL I q qAY)
  |str j=>obtain⟨t',rfl⟩:=ry;exact PySem.EqMixed.eq_int_str (jL I q (by simp))
  |_=>exact absurd (show false=true from hs) kQ
 |str i=>
  obtain⟨t,rfl⟩:=rx
  cases y with
  |non=>cases ry;exact PySem.EqNone.eq_str_none (jL I q (by simp))
  |bl j=>cases ry;exact PySem.EqMixed.eq_str_bool (jL I q (by simp))
  |int j=>obtain⟨t',rfl⟩:=ry;exact PySem.EqMixed.eq_str_int (jL I q (by simp))
  |str j=>obtain⟨t',rfl⟩:=ry;exact eq_str (jL I q qAZ)
  |_=>exact absurd (show false=true from hs) kQ
 |byt i=>
  obtain⟨t,rfl⟩:=rx
  cases y with
  |byt j=>obtain⟨t',rfl⟩:=ry;exact PySem.W.eq_bytes (jL I q qB0)
  |_=>exact absurd (show false=true from hs) kQ
 |_=>cases y<;>exact absurd (show false=true from hs) kQ
theorem q4W:OpR X (compareOp .NotEq) rNe:=by
 intro pins s σ H x y v u Q I rx ry h
 obtain⟨hs,q⟩:=h
 cases x with
 |non=>
  cases rx
  cases y with
  |non=>cases ry;exact PySem.EqNone.ne_none_none (jL I q (by simp))
  |bl j=>cases ry;exact PySem.EqNone.ne_none_bool (jL I q (by simp))
  |int j=>obtain⟨t',rfl⟩:=ry;exact PySem.EqNone.ne_none_int (jL I q (by simp))
  |str j=>obtain⟨t',rfl⟩:=ry;exact PySem.EqNone.ne_none_str (jL I q (by simp))
  |_=>exact absurd (show false=true from hs) kQ
 |bl i=>
  cases rx
  cases y with
  |non=>cases ry;exact PySem.EqNone.ne_bool_none (jL I q (by simp))
  |bl j=>cases ry;exact ne_bool (jL I q (g0 not qCZ))
  |str j=>obtain⟨t',rfl⟩:=ry;exact PySem.EqMixed.ne_bool_str (jL I q (by simp))
  |_=>exact absurd (show false=true from hs) kQ
 |int i=>
  obtain⟨t,rfl⟩:=rx
  cases y with
  |non=>cases ry;exact PySem.EqNone.ne_int_none (jL I q (by simp))
  |int j=>obtain⟨t',rfl⟩:=ry;exact ne_int (jL I q (g0 not qAY))
  |str j=>obtain⟨t',rfl⟩:=ry;exact PySem.EqMixed.ne_int_str (jL I q (by simp))
  |_=>exact absurd (show false=true from hs) kQ
 |str i=>
  obtain⟨t,rfl⟩:=rx
  cases y with
  |non=>cases ry;exact PySem.EqNone.ne_str_none (jL I q (by simp))
  |bl j=>cases ry;exact PySem.EqMixed.ne_str_bool (jL I q (by simp))
  |int j=>obtain⟨t',rfl⟩:=ry;exact PySem.EqMixed.ne_str_int (jL I q (by simp))
  |str j=>obtain⟨t',rfl⟩:=ry;exact ne_str (jL I q (g0 not qAZ))
  |_=>exact absurd (show false=true from hs) kQ
 |byt i=>
  obtain⟨t,rfl⟩:=rx
  cases y with
  |byt j=>obtain⟨t',rfl⟩:=ry;exact PySem.W.ne_bytes (jL I q (g0 not qB0))
  |_=>exact absurd (show false=true from hs) kQ
 |_=>cases y<;>exact absurd (show false=true from hs) kQ
theorem q07:OpR X (compareOp .Lt) (rI0 λi j=>.bl (decide (i<j))):=opB0 λ_ _ _ _ _ _ _ q=>lt_int q
theorem qB1:OpR X (compareOp .LtE) (rI0 λi j=>.bl (decide (i≤j))):=opB0 λ_ _ _ _ _ _ _ q=>le_int q
theorem q7D:OpR X (compareOp .Gt) (rI0 λi j=>.bl (decide (j<i))):=opB0 λ_ _ _ _ _ _ _ q=>gt_int q
theorem qB2:OpR X (compareOp .GtE) (rI0 λi j=>.bl (decide (j≤i))):=opB0 λ_ _ _ _ _ _ _ q=>ge_int q
theorem qA6:OpR X (compareOp .Is) (λx y H Q=>y=.non∧Q (.bl (decide (x=.non))) H):=by
 intro pins s σ H x y v u Q I rx ry h
 obtain⟨rfl,q⟩:=h
 cases ry
 refine is_none_gen (jL I q ?_)
 cases x<;>first
  |(cases rx;rfl)
  |(obtain⟨t,rfl⟩:=rx;rfl)
theorem q2H:OpR X (compareOp .IsNot) (λx y H Q=>y=.non∧Q (.bl (!decide (x=.non))) H):=by
 intro pins s σ H x y v u Q I rx ry h
 obtain⟨rfl,q⟩:=h
 cases ry
 refine isnot_none_gen (jL I q ?_)
 cases x<;>first
  |(cases rx;rfl)
  |(obtain⟨t,rfl⟩:=rx;rfl)
theorem qR(b:Expr){op:CmpOp}(h:op≠ .In:=by decide)(h2:op≠ .NotIn:=by decide):behindInMarks op b=false:=by
 have e1:(op==CmpOp.In)=false:=by cases op<;>first|rfl|exact absurd rfl h
 have e2:(op==CmpOp.NotIn)=false:=by cases op<;>first|rfl|exact absurd rfl h2
 cases b<;>simp[behindInMarks,e1,e2]
theorem uP{op:CmpOp}{r:R2}(ho:OpR X (compareOp op) r)(ha:PE X a ta)(hb:PE X b tb)(hm:behindInMarks op b=false):PE X (.Compare a [op] [b] pos) (tOp r ta tb):=by
 intro pins s σ H Q I h
 exact wpAny_Compare1 (binT ha hb I h λv u s2 x y H2 I2 rx ry q=>ho pins s2 σ H2 x y v u Q I2 rx ry q) hm
noncomputable def qD0(t:TE):TT:=λσ H Q=>t σ H λx H'=>∃k,x=.bl k∧Q k H'
theorem qO{op:CmpOp}{r:R2}(ho:OpR X (compareOp op) r)(ha:PE X a ta)(hb:PE X b tb)(hm:behindInMarks op b=false):PT X (.Compare a [op] [b] pos) (qD0 (tOp r ta tb)):=by
 intro pins s σ H Q I h
 refine wpAny_isTrue_Compare1 (thn (ha pins s σ H _ I h) λv s1 ⟨x,H1,I1,r1,q1⟩=>thn (hb pins s1 σ H1 _ I1 q1) λu s2 ⟨y,H2,I2,r2,q2⟩=>
  thn (ho pins s2 σ H2 x y v u _ I2 r1 r2 q2) λc s3 ⟨z,H3,I3,r3,k,e,q3⟩=>?_) hm
 subst e
 cases r3
 exact g5 ⟨H3,I3,q3⟩
noncomputable def qD1(r r':R2)(ta tb tc:TE):TE:=λσ H Q=>ta σ H λx H1=>tb σ H1 λy H2=>r x y H2 λz H3=>∃k,z=.bl k∧
 (if k=true then tc σ H3 λw' H4=>r' y w' H4 Q else Q (.bl false) H3)
theorem qD2{op op':CmpOp}{r r':R2}(ho:OpR X (compareOp op) r)(ho':OpR X (compareOp op') r')(ha:PE X a ta)(hb:PE X b tb)(hc:PE X c tc)
 (hm:lastMarks [op,op'] [b,c]=false:=by with_unfolding_all rfl):PE X (.Compare a [op,op'] [b,c] pos) (qD1 r r' ta tb tc):=by
 intro pins s σ H Q I h
 refine Compare_chain (thn (ha pins s σ H _ I h) λv s1 ⟨x,H1,I1,r1,q1⟩=>chain_link (thn (hb pins s1 σ H1 _ I1 q1) λu s2 ⟨y,H2,I2,r2,q2⟩=>
  thn (ho pins s2 σ H2 x y v u _ I2 r1 r2 q2) λd s3 ⟨z,H3,I3,r3,k,e,q3⟩=>?_)) hm
 subst e
 cases r3
 refine g5 ?_
 cases k with
 |false=>exact ite_ff ⟨.bl false,H3,I3,rfl,q3⟩
 |true=>exact ite_tt (chain_last (thn (hc pins s3 σ H3 _ I3 q3) λw' s4 ⟨z',H4,I4,r4,q4⟩=>ho' pins s4 σ H4 y z' u w' Q I4 r2 r4 q4))
theorem q5U{op op':CmpOp}{r r':R2}(ho:OpR X (compareOp op) r)(ho':OpR X (compareOp op') r')(ha:PE X a ta)(hb:PE X b tb)(hc:PE X c tc)
 (hm:lastMarks [op,op'] [b,c]=false:=by with_unfolding_all rfl):PT X (.Compare a [op,op'] [b,c] pos) (qD0 (qD1 r r' ta tb tc)):=by
 intro pins s σ H Q I h
 refine isTrue_chain (thn (ha pins s σ H _ I h) λv s1 ⟨x,H1,I1,r1,q1⟩=>test_link (thn (hb pins s1 σ H1 _ I1 q1) λu s2 ⟨y,H2,I2,r2,q2⟩=>
  thn (ho pins s2 σ H2 x y v u _ I2 r1 r2 q2) λd s3 ⟨z,H3,I3,r3,k,e,q3⟩=>?_)) hm
 subst e
 cases r3
 refine g5 ?_
 cases k with
 |false=>
  obtain⟨k',e',q'⟩:=q3
  cases e'
  exact ite_ff ⟨H3,I3,q'⟩
 |true=>
  refine ite_tt (test_last (thn (hc pins s3 σ H3 _ I3 q3) λw' s4 ⟨z',H4,I4,r4,q4⟩=>thn (ho' pins s4 σ H4 y z' u w' _ I4 r2 r4 q4) λd' s5 hZ=>?_))
  obtain⟨z2,H5,I5,r5,k2,e2,q5⟩:=hZ
  subst e2
  cases r5
  exact g5 ⟨H5,I5,q5⟩
theorem q5V:(sizeLine:Nat)<2 ^ 63:=by rw[gI];decide
theorem q3L{x:V}{us:List Value}(r:Vals [x] us):∃u,us=[u]∧RelV x u:=by
 cases r with
 |cons r1 r2=>cases r2;exact⟨_,rfl,r1⟩
theorem qD3{x y:V}{us:List Value}(r:Vals [x,y] us):∃u w',us=[u,w']∧RelV x u∧RelV y w':=by
 cases r with
 |cons r1 r2=>
  cases r2 with
  |cons r3 r4=>cases r4;exact⟨_,_,rfl,r1,r3⟩
theorem qC5(hc:X.calm=true):q17 X (.builtin "min") (λxs H Q=>∃i j,xs=[.int i,.int j]∧Q (.int (if j<i then j else i)) H):=by
 intro pins s σ H xs us Q I r h
 obtain⟨i,j,rfl,q⟩:=h
 obtain⟨u,w',rfl,⟨t,rfl⟩,⟨t',rfl⟩⟩:=qD3 r
 refine min_two_ints (I.ok.hd hc) λh' tk k=>⟨_,H,I.kept k,?_,q⟩
 by_cases hj:j<i
 ·rw[kF hj,kF hj];exact⟨_,rfl⟩
 ·rw[kB hj,kB hj];exact⟨_,rfl⟩
theorem q92:q17 X (.builtin "divmod") (λxs H Q=>∃i j,xs=[.int i,.int j]∧CDiv i j∧∀p,H p=none→Q (.ref p) (upd H p (.tup [.int (i / j),.int (i%j)]))):=by
 intro pins s σ H xs us Q I r h
 obtain⟨i,j,rfl,⟨h1,h2⟩,q⟩:=h
 obtain⟨u,w',rfl,⟨t,rfl⟩,⟨t',rfl⟩⟩:=qD3 r
 refine divmod_int (by omega) ?_ (.inl (PyProof.noPylong_small (by omega)))
 rw[Int.fdiv_eq_ediv_of_nonneg i (by omega),Int.fmod_eq_emod_of_nonneg i (by omega)]
 have hn:H s.heap.objs.size=none:=I.hok.fresh (kN _)
 refine⟨.ref s.heap.objs.size,_,?_,rfl,q _ hn⟩
 refine I.laid (λb o e=>kE _ e) (kN _) ⟨by simp only[mQ,pG];rw[gI];decide,[.int (i / j) s.toks,.int (i%j) (s.toks+1)],.cons ⟨_,rfl⟩ (.cons ⟨_,rfl⟩ .nil),?_⟩
 exact⟨_,mK s.heap rfl,rfl,0,rfl⟩
end
structure ObjM(h:Heap)(x dx C:Addr)(mA:Str→Option Value):Prop where
 obj:h.get? x=some (PySem.W.instObj C dx)
 ns:h.Ns1 dx mA
 ne:dx≠x
theorem q7E{h:Heap}{dx:Addr}{mA:Str→Option Value}(n:h.Ns1 dx mA):∃od,h.get? dx=some od∧∀name,PySem.W.lookIn name od=some (mA name):=by
 obtain⟨o,es,ep,ho,hd,hk,_,hm⟩:=n
 refine⟨o,ho,λname=>?_⟩
 have e:=hm name
 unfold nsFind findBy at e
 rw[←Array.find?_toList]at e
 unfold PySem.W.lookIn
 rw[hd]
 dsimp only
 split
 ·rename_i y q
  rw[q]at e
  exact g0 some e
 ·rename_i q
  rw[q]at e
  have a:es.toList.any (·.refKey)=false:=by
   rw[List.any_eq_false]
   intro y hy
   obtain⟨z,t,hkey⟩:=hk y (Array.mem_toList_iff.mp hy)
   simp[DictEntry.refKey,hkey]
  have a':¬es.toList.any (·.refKey)=true:=by rw[a];exact kQ
  rw[kB a']
  exact g0 some e
theorem ObjM.look{h:Heap}{x dx C:Addr}{mA:Str→Option Value}(I:ObjM h x dx C mA):∃od,PySem.W.InstAt h x (PySem.W.instObj C dx) C (some od)∧∀name,PySem.W.lookIn name od=some (mA name):=
 let⟨od,ho,hl⟩:=q7E I.ns
 ⟨od,⟨I.obj,rfl,rfl,ho⟩,hl⟩
section
variable{prog:Program}{w:World}{A:Around}{E:Value→Shared→Prop}{s:Shared}{K:PySem.W.Frag}{x dx C f:Addr}{mA:Str→Option Value}{name:Str}{v:Value}
theorem qFB{expr:Bool}{Q:Value→Shared→Prop}(X:K.In s.heap)(I:ObjM s.heap x dx C mA)(hg:PySem.W.plainGet K C name=true)(hh:PySem.W.hasDictIn K C=true)
 (ha:PySem.W.findIn K (.ref C) name=some none) (hv:mA name=some v) (hv':PySem.W.handedIn v=true) (h:Q v { s with toks:=s.toks+1 }):
 wpAny (model prog w) A (getAttr (.ref x) name expr) Q E s:=by
 obtain⟨od,J,hl⟩:=I.look
 exact PySem.W.get_value X J (pL hg).1 (PySem.W.findObj_own hh ha rfl (by rw[hl,hv])) hv' h
theorem qD4{pl:Sem Bool}{Q:Value×List Value→Shared→Prop}(X:K.In s.heap)(I:ObjM s.heap x dx C mA)(hg:PySem.W.plainGet K C name=true)
 (hf:PySem.W.findIn K (.ref C) name=some (some (.ref f))) (ht:PySem.W.isFn K (.ref f)=true) (hv:mA name=none) (h:Q (.ref f,[.ref x]) s):
 wpAny (model prog w) A (getMethod (.ref x) name pl) Q E s:=by
 obtain⟨od,J,hl⟩:=I.look
 exact PySem.W.method_fn X J (pL hg).1 (pL hg).2 hf (r6.mp ht) (by show(PySem.W.lookIn name od).map (·.isSome)=some false;rw[hl,hv];rfl) h
theorem qFC{ns:List Str}{Q:Unit→Shared→Prop}(X:K.In s.heap)(I:ObjM s.heap x dx C mA)
 (hs:PySem.W.findIn K (.ref C) "__setattr__"=some (some (.builtin "object.__setattr__"))) (hp:PySem.W.plainOver K C=true) (ht:PySem.W.takerIn K C name=some none) (hh:PySem.W.hasDictIn K C=true)
 (hw:PySem.Within mA ns) (hsz:ns.length≤sizeLine)
 (h:∀h',ObjM h' x dx C (λy=>if y=name then some v else mA y)→Heap.SameBut dx s.heap h'→Q () { s with heap:=h',toks:=s.toks+2 }):
 wpAny (model prog w) A (setAttr (.ref x) name v) Q E s:=by
 obtain⟨od,J,hl⟩:=I.look
 refine PySem.W.set_plain X J hs (PySem.W.osa_open (s:={ s with toks:=s.toks+1 }) (r:=none) X J hp ht λb=>?_)
 obtain⟨cd,hc,hd'⟩:=cX hh
 have hx:s.heap.get? x=some ⟨.ref C,some dx,.plain,#[]⟩:=I.obj
 refine kD (kZ (kD (kD (wpAny_loadPart hx (kD (PySem.W.Looks.here (s:={ s with toks:=s.toks+1 }) (PySem.W.looks_clsIn X hc) ?_))))))
 rw[hd']
 refine kZ (a:=some dx) (kD (kZ (kD ?_)))
 refine wpAny_nsSet1 (s:={ s with toks:=s.toks+1 }) I.ns λh' hn2 hs2=>?_
 obtain⟨oD,esD,epD,hoD,hdD,hcD⟩:=hn2.count (PySem.Within.cons name v hw)
 refine kD (wpAny_lookBehind hoD (by rw[hdD];exact pastItsLine_dict (mI hcD (by rw[mQ];omega))) ?_)
 exact kZ (h _ ⟨(hs2.2 _ (wH I.ne)).trans I.obj,hn2,I.ne⟩ hs2)
theorem qD5{R:Result→Shared→Prop}{vs:List Value}{kw:List (Str×Value)}(X:K.In s.heap)(hm:PySem.W.makesIn K C=true)
 (hi:PySem.W.findIn K (.ref C) "__init__"=some (some (.ref f))) (hf:PySem.W.typeIn K (.ref f)=some (.type "function"))
 (h:codeAny (model prog w) (A.under (.builtin "type.__call__" ⟨.ref C::vs,kw⟩)) (.call (.ref f) ⟨.ref (s.heap.objs.size+1)::vs,kw⟩) (PySem.W.InitBack (s.heap.objs.size+1) R)
  { s with heap:=(s.heap.push PySem.W.emptyDict).push (PySem.W.instObj C s.heap.objs.size) }):
 codeAny (model prog w) A (.call (.ref C) ⟨vs,kw⟩) R s:=by
 obtain⟨hh,g,d,t,os⟩:=s
 exact PySem.W.make_core (PySem.W.makes_of X hm) (wW X hi) (λself=>PySem.W.bind_fn X self hf) (.inl rfl) h
end
noncomputable def putF(f:Str)(v:V):List (Str×V)→List (Str×V)
 | []=>[(f,v)]
 |(g,x)::r=>if g=f then(g,v)::r else(g,x)::putF f v r
theorem q4X(f g:Str)(v:V):∀fs:List (Str×V),(putF f v fs).lookup g=if g=f then some v else fs.lookup g
 | []=>by
  show List.lookup g [(f,v)]=_
  by_cases h:g=f
  ·have hb:(g==f)=true:=r6.mpr h
   simp only[List.lookup,hb,kF h]
  ·have hb:(g==f)=false:=d6.mpr h
   simp only[List.lookup,hb,kB h]
 |(k,x)::r=>by
  have ih:=q4X f g v r
  rw[show putF f v ((k,x)::r)=(if k=f then(k,v)::r else(k,x)::putF f v r)from rfl]
  by_cases hk:k=f
  ·rw[kF hk]
   by_cases h:g=k
   ·have hb:(g==k)=true:=r6.mpr h
    simp only[List.lookup,hb,kF (h.trans hk)]
   ·have hb:(g==k)=false:=d6.mpr h
    simp only[List.lookup,hb,kB (λe:g=f=>h (e.trans hk.symm))]
  ·rw[kB hk]
   by_cases h:g=k
   ·have hb:(g==k)=true:=r6.mpr h
    simp only[List.lookup,hb,kB (λe:g=f=>hk (h.symm.trans e))]
   ·have hb:(g==k)=false:=d6.mpr h
    simp only[List.lookup,hb]
    exact ih
theorem q4E(f:Str)(v:V):∀fs:List (Str×V),f∈(putF f v fs).map (·.1)∧∀g,g∈fs.map (·.1)→g∈(putF f v fs).map (·.1)
 | []=>⟨by simp[putF],λg h=>by simp at h⟩
 |(k,x)::r=>by
  obtain⟨i1,i2⟩:=q4E f v r
  rw[show putF f v ((k,x)::r)=(if k=f then(k,v)::r else(k,x)::putF f v r)from rfl]
  by_cases hk:k=f
  ·rw[kF hk]
   subst hk
   exact⟨by simp,λg h=>by simpa using h⟩
  ·rw[kB hk]
   refine⟨?_,λg h=>?_⟩
   ·rw[mG]
    exact hU _ i1
   ·rw[mG]at h ⊢
    rcases kL.mp h with e|e
    ·exact kL.mpr (.inl e)
    ·exact hU _ (i2 g e)
theorem q4Y(f:Str)(v:V):∀fs:List (Str×V),(putF f v fs).length≤fs.length+1
 | []=>by simp[putF]
 |(k,x)::r=>by
  have ih:=q4Y f v r
  rw[show putF f v ((k,x)::r)=(if k=f then(k,v)::r else(k,x)::putF f v r)from rfl]
  by_cases hk:k=f
  ·rw[kF hk,mQ,mQ];omega
  ·rw[kB hk,mQ,mQ];omega
theorem RelO.some_of{v:V}{o:Option Value}(r:RelO (some v) o):∃u,o=some u∧RelV v u:=by
 cases o with
 |none=>exact(show False from r).elim
 |some u=>exact⟨u,rfl,r⟩
theorem RelO.none_of{o:Option Value}(r:RelO none o):o=none:=by
 cases o with
 |none=>rfl
 |some u=>exact(show False from r).elim
theorem qC6{v:V}{u:Value}(r:RelV v u):PySem.W.handedIn u=true:=by
 cases v with
 |non=>cases(show u=Value.none from r);rfl
 |bl b=>cases(show u=Value.bool b from r);rfl
 |int i=>obtain⟨t,e⟩:=(show ∃t,u=Value.int i t from r);cases e;rfl
 |str x=>obtain⟨t,e⟩:=(show ∃t,u=Value.str x t from r);cases e;rfl
 |byt b=>obtain⟨t,e⟩:=(show ∃t,u=Value.bytes b t from r);cases e;rfl
 |flt b=>obtain⟨t,e⟩:=(show ∃t,u=Value.float b t from r);cases e;rfl
 |ref a=>cases(show u=Value.ref a from r);rfl
 |ty n=>cases(show u=Value.type n from r);rfl
section
variable{P:Program}{w:World}{H H':Hp}{h h':Heap}{a C dx:Addr}{fs fs':List (Str×V)}
theorem q5I(hok:HOk P w H h)(e:H a=some (.ins C dx fs)):∃mA,ObjM h a dx C mA∧(∀f,RelO (fs.lookup f) (mA f))∧PySem.Within mA (fs.map (·.1))∧fs.length≤1000∧H dx=some (.own a):=by
 obtain⟨d,z,ne,ob,mA,n,r,q⟩:=(show jK P w H h a (.ins C dx fs)from hok a _ e)
 exact⟨mA,⟨ob,n,ne⟩,r,q,z,d⟩
end
structure Cls(K:PySem.W.Frag)(C:Addr):Prop where
 pg:PySem.W.plainGet K C Str.empty=true
 hd:PySem.W.hasDictIn K C=true
 po:PySem.W.plainOver K C=true
 sa:PySem.W.findIn K (.ref C) "__setattr__"=some (some (.builtin "object.__setattr__"))
theorem Cls.get{K:PySem.W.Frag}{C:Addr}(c:Cls K C)(f:Str):PySem.W.plainGet K C f=true:=c.pg
noncomputable def qP(K:PySem.W.Frag)(C:Addr)(f:Str):Prop:=PySem.W.findIn K (.ref C) f=some none
theorem qP.taker{K:PySem.W.Frag}{C:Addr}{f:Str}(n:qP K C f):PySem.W.takerIn K C f=some none:=by
 unfold PySem.W.takerIn
 rw[show PySem.W.findIn K (.ref C) f=some none from n]
 rfl
structure Meth(K:PySem.W.Frag)(C:Addr)(m:Str)(f:Addr):Prop where
 at_:PySem.W.findIn K (.ref C) m=some (some (.ref f))
 fn:PySem.W.isFn K (.ref f)=true
 kp:PySem.W.keepIn K (.ref f)=true
section
variable{X:Cx}{pins:List (Addr×Obj)}{σ:St}{H:Hp}{s:Shared}{a C dx:Addr}{fs:List (Str×V)}{f:Str}{v:V}{A:Around}{E:Value→Shared→Prop}
theorem q5W{b:Bool}{Q:Value→Shared→Prop}(I:Inv X pins σ H s)(e:H a=some (.ins C dx fs))(c:Cls X.K C)(n:qP X.K C f)(l:fs.lookup f=some v)
 (h:∀u s',Inv X pins σ H s'→RelV v u→Q u s'):wpAny (model X.prog X.w) A (getAttr (.ref a) f b) Q E s:=by
 obtain⟨mA,O,r,_,_,_⟩:=q5I I.hok e
 obtain⟨u,hu,ru⟩:=RelO.some_of (v:=v) (o:=mA f) (by rw[←l];exact r f)
 exact qFB I.kIn O (c.get f) c.hd n hu (qC6 ru) (h u _ (I.tok _) ru)
theorem q0P{m:Str}{g:Addr}{pl:Sem Bool}{Q:Value×List Value→Shared→Prop}(I:Inv X pins σ H s)(e:H a=some (.ins C dx fs))(c:Cls X.K C)(k:Meth X.K C m g)(l:fs.lookup m=none)
 (h:Q (.ref g,[.ref a]) s):wpAny (model X.prog X.w) A (getMethod (.ref a) m pl) Q E s:=by
 obtain⟨mA,O,r,_,_,_⟩:=q5I I.hok e
 have hn:mA m=none:=RelO.none_of (by rw[←l];exact r m)
 exact qD4 I.kIn O (c.get m) k.at_ k.fn hn h
theorem q5X{y:V}{u:Value}{Q:Unit→Shared→Prop}(I:Inv X pins σ H s)(e:H a=some (.ins C dx fs))(c:Cls X.K C)(n:qP X.K C f)(hl:fs.length<1000)(ry:RelV y u)
 (h:∀s',Inv X pins σ (upd H a (.ins C dx (putF f y fs))) s'→Q () s'):wpAny (model X.prog X.w) A (setAttr (.ref a) f u) Q E s:=by
 obtain⟨mA,O,r,wi,_,ho⟩:=q5I I.hok e
 have hz:(fs.map (·.1)).length≤sizeLine:=by rw[hI,gI];omega
 refine qFC I.kIn O c.sa c.po n.taker c.hd wi hz λh' O' sb=>h _ ?_
 have hd:∃o,h'.get? dx=some o:=let⟨o,_,_,e',_⟩:=O'.ns;⟨o,e'⟩
 refine I.write (x:=a) (e:=dx) (by rw[e];exact True.intro) (.inr ho) (λb q hb z=>(sb.2 b hb).trans z) hd ?_
 refine⟨by rw[qC O.ne];exact ho,?_,O.ne,O'.obj,_,O'.ns,λg=>?_,λg hg=>?_⟩
 ·have:=q4Y f y fs;omega
 ·show RelO ((putF f y fs).lookup g) (if g=f then some u else mA g)
  rw[q4X]
  by_cases q:g=f
  ·rw[kF q,kF q];exact ry
  ·rw[kB q,kB q];exact r g
 ·by_cases q:g=f
  ·rw[q];exact(q4E f y fs).1
  ·refine(q4E f y fs).2 g (wi g λz=>hg ?_)
   show(if g=f then some u else mA g)=none
   rw[kB q];exact z
theorem Inv.made(I:Inv X pins σ H s):Inv X pins σ (upd (upd H s.heap.objs.size (.own (s.heap.objs.size+1))) (s.heap.objs.size+1) (.ins C s.heap.objs.size []))
 { s with heap:=(s.heap.push PySem.W.emptyDict).push (PySem.W.instObj C s.heap.objs.size) }:=by
 have e1:(s.heap.push PySem.W.emptyDict).get? s.heap.objs.size=some PySem.W.emptyDict:=mK s.heap rfl
 have e2:((s.heap.push PySem.W.emptyDict).push (PySem.W.instObj C s.heap.objs.size)).get? (s.heap.objs.size+1)=some (PySem.W.instObj C s.heap.objs.size):=by
  have:=mK (s.heap.push PySem.W.emptyDict) (o:=PySem.W.instObj C s.heap.objs.size) rfl
  rwa [cM]at this
 have e3:(s.heap.push PySem.W.emptyDict).Ns s.heap.objs.size (λ_=>none):=⟨PySem.W.emptyDict,#[],_,e1,rfl,(λe he=>absurd he (by simp)),λ_=>rfl⟩
 have I1:=I.laid (a:=s.heap.objs.size) (o:=.own (s.heap.objs.size+1)) (h':=s.heap.push PySem.W.emptyDict) (t':=s.toks) (λb u q=>kE _ q) (kN _) ⟨_,e1⟩
 refine I1.laid (a:=s.heap.objs.size+1) (o:=.ins C s.heap.objs.size []) (t':=s.toks) (λb u q=>kE _ q) (cN (cM _ _)) ?_
 have ne:s.heap.objs.size≠s.heap.objs.size+1:=mW (dN _)
 refine⟨by rw[qC ne,qI],m8 _,ne,e2,λ_=>none,(Heap.Ns1.of_empty e3).at λo q=>kE _ q,λ_=>True.intro,λy hy=>absurd rfl hy⟩
theorem qFD{prog:Program}{w:World}{env:Env}{e:Expr}{f:Str}{pos:Pos}{s:Shared}{Q:Value→Shared→Prop}(hb:attributeBase e f env (eval e env)=eval e env)
 (h:wpAny (model prog w) A (eval e env) (λo s₁=>wpAny (model prog w) A (getAttr o f true) Q E s₁) E s):wpAny (model prog w) A (eval (.Attribute e f pos) env) Q E s:=
 Attribute_any_ h (by rw[arm_eval_Attribute,hb])
end
noncomputable def tFld(K:PySem.W.Frag)(ta:TE)(f:Str):TE:=λσ H Q=>ta σ H λx H1=>∃a C dx fs v,x=.ref a∧H1 a=some (.ins C dx fs)∧Cls K C∧qP K C f∧fs.lookup f=some v∧Q v H1
noncomputable def sFld(K:PySem.W.Frag)(ta tv:TE)(f:Str):TS:=λD σ H=>tv σ H λy H1=>ta σ H1 λx H2=>∃a C dx fs,x=.ref a∧H2 a=some (.ins C dx fs)∧Cls K C∧qP K C f∧fs.length<1000∧
 D.nx σ (upd H2 a (.ins C dx (putF f y fs)))
noncomputable def InOp(X:Cx)(op:Operator)(rd:V→V→Hp→VK→Prop):Prop:=
 ∀(pins:List (Addr×Obj)) (s:Shared) (σ:St) (H:Hp) (x y:V) (u v:Value) (Q:VK),Inv X pins σ H s→RelV x u→RelV y v→rd x y H Q→wpAny (model X.prog X.w) X.A (inplaceOp op u v) (EP X pins σ Q) X.xe s
noncomputable def qFE(K:PySem.W.Frag)(ta tv:TE)(rd:V→V→Hp→VK→Prop)(f:Str):TS:=λD σ H=>ta σ H λx H1=>∃a C dx fs v,x=.ref a∧H1 a=some (.ins C dx fs)∧Cls K C∧qP K C f∧fs.lookup f=some v∧
 tv σ H1 λy H2=>rd v y H2 λz H3=>∃dx' fs',H3 a=some (.ins C dx' fs')∧fs'.length<1000∧D.nx σ (upd H3 a (.ins C dx' (putF f z fs')))
section
variable{X:Cx}{o e value:Expr}{f:Str}{pos pos' tpos:Pos}{ta tv:TE}
theorem qJ(he:PE X e ta)(hb:attributeBase e f X.env (eval e X.env)=eval e X.env):PE X (.Attribute e f pos) (tFld X.K ta f):=by
 intro pins s σ H Q I h
 refine qFD hb (thn (he pins s σ H _ I h) λu s1 hZ=>?_)
 obtain⟨x,H1,I1,rx,a,C,dx,fs,v,ex,ea,c,n,l,q⟩:=hZ
 subst ex
 obtain rfl:u=Value.ref a:=rx
 exact q5W I1 ea c n l λu' s2 I2 ru=>⟨v,H1,I2,ru,q⟩
theorem jO(ha:PE X o ta)(hv:PE X value tv)(hs:swapsWith value (some (.Attribute o f pos')) pos.line X.env=pure false):PS X (.Assign [.Attribute o f pos'] value pos) (sFld X.K ta tv f):=by
 intro pins s σ H D I h
 refine plainObj_wpAny_Assign_Attribute (thn (hv pins s σ H _ I h) λu s1 ⟨y,H1,I1,ry,q⟩=>thn (ha pins s1 σ H1 _ I1 q) λov s2 hZ=>?_) hs
 obtain⟨x,H2,I2,rx,a,C,dx,fs,ex,ea,c,n,l,q2⟩:=hZ
 subst ex
 obtain rfl:ov=Value.ref a:=rx
 exact q5X I2 ea c n l ry λs3 I3=>⟨σ,_,I3,q2⟩
theorem q7F{op:Operator}{rd:V→V→Hp→VK→Prop}(ha:PE X o ta)(hv:PE X value tv)(hop:InOp X op rd):PS X (.AugAssign (.Attribute o f tpos) op value pos) (qFE X.K ta tv rd f):=by
 intro pins s σ H D I h
 refine wpAny_AugAssign_AttributeAny (thn (ha pins s σ H _ I h) λov s1 hZ=>?_)
 obtain⟨x,H1,I1,rx,a,C,dx,fs,v,ex,ea,c,n,l,q⟩:=hZ
 subst ex
 obtain rfl:ov=Value.ref a:=rx
 refine q5W I1 ea c n l λu s2 I2 ru=>thn (hv pins s2 σ H1 _ I2 q) λw3 s3 ⟨y,H2,I3,ry,q3⟩=>thn (hop pins s3 σ H2 v y u w3 _ I3 ru ry q3) λw4 s4 hZ=>?_
 obtain⟨z,H3,I4,rz,dx',fs',ea',l',q4⟩:=hZ
 exact q5X I4 ea' c n l' rz λs5 I5=>⟨σ,_,I5,q4⟩
noncomputable def rAdd:V→V→Hp→VK→Prop:=λx y H Q=>∃i j,x=.int i∧y=.int j∧Q (.int (i+j)) H
noncomputable def rSub:V→V→Hp→VK→Prop:=λx y H Q=>∃i j,x=.int i∧y=.int j∧Q (.int (i-j)) H
theorem qHU:InOp X .Add rAdd:=by
 rintro pins s σ H x y u v Q I rx ry ⟨i,j,rfl,rfl,q⟩
 obtain⟨t,rfl⟩:=(show ∃t,u=Value.int i t from rx)
 obtain⟨t',rfl⟩:=(show ∃t',v=Value.int j t' from ry)
 exact PyProof.Rows.iadd_int ⟨.int (i+j),H,I.tok _,⟨_,rfl⟩,q⟩
theorem qHV:InOp X .Sub rSub:=by
 rintro pins s σ H x y u v Q I rx ry ⟨i,j,rfl,rfl,q⟩
 obtain⟨t,rfl⟩:=(show ∃t,u=Value.int i t from rx)
 obtain⟨t',rfl⟩:=(show ∃t',v=Value.int j t' from ry)
 exact PyProof.Rows.isub_int ⟨.int (i-j),H,I.tok _,⟨_,rfl⟩,q⟩
end
section
variable{X:Cx}{pins:List (Addr×Obj)}{σ:St}{H:Hp}{s:Shared}{A:Around}{E:Value→Shared→Prop}{Q:Value→Shared→Prop}{c:Value}{b:Bool}
inductive TyOf(K:PySem.W.Frag)(H:Hp):V→Value→Prop where
 |non:TyOf K H .non (.type "NoneType")
 |bl (x:Bool):TyOf K H (.bl x) (.type "bool")
 |int (i:Int):TyOf K H (.int i) (.type "int")
 |str (x:Str):TyOf K H (.str x) (.type "str")
 |flt (x:UInt64):TyOf K H (.flt x) (.type "float")
 |lst {a:Addr} {xs:List V} (e:H a=some (.lst xs)):TyOf K H (.ref a) (.type "list")
 |frz {a:Addr} {o:Obj} {xs:List V} (e:H a=some (.frz o (.lst xs))):TyOf K H (.ref a) (.type "list")
 |tup {a:Addr} {xs:List V} (e:H a=some (.tup xs)):TyOf K H (.ref a) (.type "tuple")
 |dK {a:Addr} {kvs:List (Key×V)} (e:H a=some (.dK kvs)):TyOf K H (.ref a) (.type "dict")
 |dT {a:Addr} {kvs:List (List Key×V)} (e:H a=some (.dT kvs)):TyOf K H (.ref a) (.type "dict")
 |ins {a C dx:Addr} {fs:List (Str×V)} (e:H a=some (.ins C dx fs)) (cl:Cls K C) (ha:PySem.W.findIn K (.ref C) "__class__"=some (some (.builtin "object.__class__")))
  (hn:PySem.W.specialIn K (.builtin "object.__class__") "__get__"=some (some (.builtin "getset_descriptor.__get__"))) (htk:PySem.W.takesIn K (.builtin "object.__class__")=some true)
  (hm:PySem.W.mroIn K C (.type "object")=some true):TyOf K H (.ref a) (.ref C)
theorem qC7{x:V}{u t:Value}(I:Inv X pins σ H s)(rx:RelV x u)(ty:TyOf X.K H x t)(e:PySem.W.kitOne X.K t c=some b)(h:∀tk,Q (.bool b) { s with toks:=tk }):
 wpAny (model X.prog X.w) A (call (.builtin "isinstance") [u,c]) Q E s:=by
 cases ty with
 |non=>cases(show u=Value.none from rx);exact gS PySem.W.kitx_none I.kIn True.intro e (λz=>nomatch z) h
 |bl y=>cases(show u=Value.bool y from rx);exact gS PySem.W.kitx_bool I.kIn True.intro e (λz=>nomatch z) h
 |int i=>obtain⟨t,q⟩:=(show ∃t,u=Value.int i t from rx);cases q;exact gS PySem.W.kitx_int I.kIn True.intro e (λz=>nomatch z) h
 |str y=>obtain⟨t,q⟩:=(show ∃t,u=Value.str y t from rx);cases q;exact gS PySem.W.kitx_str I.kIn True.intro e (λz=>nomatch z) h
 |flt y=>obtain⟨t,q⟩:=(show ∃t,u=Value.float y t from rx);cases q;exact gS PySem.W.kitx_float I.kIn True.intro e (λz=>nomatch z) h
 |@lst a xs ea=>
  cases(show u=Value.ref a from rx)
  obtain⟨_,_,n,_,h1⟩:=(show jK X.prog X.w H s.heap a (.lst xs)from I.hok a _ ea)
  exact gS PySem.W.kitx_list I.kIn ⟨_,h1,rfl⟩ e (λz=>nomatch z) h
 |@frz a ob xs ea=>
  cases(show u=Value.ref a from rx)
  obtain⟨_,_,_,n,_,h1⟩:=(show jK X.prog X.w H s.heap a (.frz ob (.lst xs))from I.hok a _ ea)
  exact gS PySem.W.kitx_list I.kIn ⟨_,h1,rfl⟩ e (λz=>nomatch z) h
 |@tup a xs ea=>
  cases(show u=Value.ref a from rx)
  obtain⟨_,_,_,p⟩:=(show jK X.prog X.w H s.heap a (.tup xs)from I.hok a _ ea)
  obtain⟨o,h1,h2,_⟩:=p
  exact gS PySem.W.kitx_tuple I.kIn ⟨o,h1,h2⟩ e (λz=>nomatch z) h
 |@dK a kvs ea=>
  cases(show u=Value.ref a from rx)
  obtain⟨_,_,vs,_,p⟩:=(show jK X.prog X.w H s.heap a (.dK kvs)from I.hok a _ ea)
  obtain⟨o,es,ep,h1,h2,_⟩:=p
  exact gS PySem.W.kitx_dict I.kIn ⟨o,h1,h2.1⟩ e (λz=>nomatch z) h
 |@dT a kvs ea=>
  cases(show u=Value.ref a from rx)
  obtain⟨_,_,xs,_,o,es,ep,h1,h2,_⟩:=(show jK X.prog X.w H s.heap a (.dT kvs)from I.hok a _ ea)
  exact gS PySem.W.kitx_dict I.kIn ⟨o,h1,h2.1⟩ e (λz=>nomatch z) h
 |@ins a C dx fs ea cl ha hn htk hm=>
  cases(show u=Value.ref a from rx)
  obtain⟨mA,O,_⟩:=q5I I.hok ea
  obtain⟨od,J,_⟩:=O.look
  exact gS (PySem.W.kitx_own (cl.get _) cl.hd ha hn htk hm) I.kIn J e (λz=>nomatch z) h
end
structure Room(k:Nat)(A:Around):Prop where
 hd:A.handled=none
 dp:A.depth+3*k+5<recursionLimit
 un:A.units+16*k+200<cLine
theorem Room.mono{j k:Nat}{A:Around}(r:Room k A)(h:j≤k):Room j A:=⟨r.hd,by have:=r.dp;omega,by have:=r.un;omega⟩
theorem Room.deeper{k:Nat}{A:Around}(r:Room (k+1) A)(env:Env):Room k (A.deeper env):=
 ⟨r.hd,by have:=r.dp;show A.depth+1+3*k+5< _;omega,by have:=r.un;show A.units+3+16*k+200< _;omega⟩
theorem Room.in1{k:Nat}{A:Around}(r:Room (k+1) A):Room k A.in1:=
 ⟨r.hd,by have:=r.dp;show A.depth+3*k+5< _;omega,by have:=r.un;show A.units+1+16*k+200< _;omega⟩
theorem qA7{A:Around}{C:Addr}{us:List Value}{kw:List (Str×Value)}:(A.under (.builtin "type.__call__" ⟨.ref C::us,kw⟩)).depth=A.depth+1:=by
 first|rfl|simp[Around.under,Code.weight,Code.isCreation,Code.isGuard,Code.isCaller,Code.frames,Code.isFrame,guardIds]
theorem qA8{A:Around}{C:Addr}{us:List Value}{kw:List (Str×Value)}:(A.under (.builtin "type.__call__" ⟨.ref C::us,kw⟩)).units=A.units+1:=by
 first|rfl|simp[Around.under,Code.cUnits,Code.frames,Code.isFrame]
theorem Room.make{k:Nat}{A:Around}(r:Room (k+1) A)(C:Addr)(us:List Value)(kw:List (Str×Value)):Room k (A.under (.builtin "type.__call__" ⟨.ref C::us,kw⟩)):=
 ⟨r.hd,by have:=r.dp;rw[qA7];omega,by have:=r.un;rw[qA8];omega⟩
theorem Room.depth{k:Nat}{A:Around}(r:Room k A):A.depth<recursionLimit:=by have:=r.dp;omega
theorem Room.units{k:Nat}{A:Around}(r:Room k A):A.units+64<cLine:=by have:=r.un;omega
noncomputable def tNil:TA:=λ_ H Q=>Q [] H
noncomputable def q93(ta:TE)(tr:TA):TA:=λσ H Q=>ta σ H λx H1=>tr σ H1 λxs H2=>Q (x::xs) H2
section
variable{X:Cx}{e:Expr}{es:List Expr}{te:TE}{t:TA}{pos:Pos}
theorem qE:PA X [] tNil:=λ_ _ _ _ H Q I h=>cO ⟨[],H,I,.nil,h⟩
theorem qA(ha:PE X e te)(hr:PA X es t)(hs:starEach (e::es) X.env=(false,eval e X.env)::starEach es X.env:=by rfl):PA X (e::es) (q93 te t):=by
 intro pos pins s σ H Q I h
 rw[hs]
 show wpAny _ _ (spliced ((false,eval e X.env)::backTo pos (starEach es X.env))) _ _ s
 refine rH (thn (ha pins s σ H _ I h) λu s1 hZ=>?_)
 obtain⟨x,H1,I1,r1,q1⟩:=hZ
 exact thn (hr pos pins s1 σ H1 _ I1 q1) λus s2 ⟨xs,H2,I2,r2,q2⟩=>⟨x::xs,H2,I2,.cons r1 r2,q2⟩
end
noncomputable abbrev Sp:=List V→Hp→VK→XK→Prop
noncomputable abbrev CXT:=List Env→Hp→Shared→XK→Value→Shared→Prop
structure Env0(P:Program)(w:World)(K:PySem.W.Frag)(mg:Str→Option Value)(base:Heap)(A:Around)(outer:List Env)(s:Shared)(H:Hp):Prop where
 frames:A.frames=some outer
 mod:Mod K mg base
 bs:∀b o,base.get? b=some o→s.heap.get? b=some o∧H b=none
 bsz:base.objs.size≤s.heap.objs.size
 funs:s.heap.FunFrames base outer
 frf:∀b∈frs outer,H b=none
 hok:HOk P w H s.heap
 bare:AllBare s.gens
noncomputable def CE(outer:List Env)(P:Program)(w:World)(H:Hp)(s:Shared)(Q:VK)(u:Value)(s':Shared):Prop:=
 ∃v H',s'.os=s.os∧AllBare s'.gens∧Un (frs outer) [] H H' s.heap s'.heap∧HOk P w H' s'.heap∧RelV v u∧Q v H'
noncomputable def CR(CX:CXT)(outer:List Env)(P:Program)(w:World)(H:Hp)(s:Shared)(Q:VK)(E:XK)(r:Result)(s':Shared):Prop:=
 match r with
 | .ok (.ret u)=>CE outer P w H s Q u s'
 | .ok _=>False
 | .error e=>CX outer H s E e s'
structure FnOk(P:Program)(w:World)(K:PySem.W.Frag)(mg:Str→Option Value)(base:Heap)(CX:CXT)(k:Nat)(f:Addr)(fd:FuncData)(ps:List Str)(sp:Sp):Prop where
 len:∀vs H Q E,sp vs H Q E→vs.length=ps.length
 run:∀(A:Around) (outer:List Env) (s:Shared) (H:Hp) (args:Args) (us:List Value) (vs:List V) (Q:VK) (E:XK),Room k A→Env0 P w K mg base A outer s H→BindsTo s fd args (ps.zip us)→Vals vs us→sp vs H Q E→
  codeAny (model P w) A (.call (.ref f) args) (CR CX outer P w H s Q E) s
theorem FnOk.mono{P:Program}{w:World}{K:PySem.W.Frag}{mg:Str→Option Value}{base:Heap}{CX:CXT}{j k:Nat}{f:Addr}{fd:FuncData}{ps:List Str}{sp:Sp}(F:FnOk P w K mg base CX j f fd ps sp)(h:j≤k:=by decide):
 FnOk P w K mg base CX k f fd ps sp:=⟨F.len,λA outer s H args us vs Q E hr=>F.run A outer s H args us vs Q E (hr.mono h)⟩
theorem Env0.make{P:Program}{w:World}{K:PySem.W.Frag}{mg:Str→Option Value}{base:Heap}{A:Around}{outer:List Env}{s:Shared}{H:Hp}(e:Env0 P w K mg base A outer s H)(C:Addr)(us:List Value)(kw:List (Str×Value)):
 Env0 P w K mg base (A.under (.builtin "type.__call__" ⟨.ref C::us,kw⟩)) outer s H:=⟨by first|exact e.frames|(simpa[Around.under,Code.envs,Code.isFrame,pushEnvs]using e.frames),e.mod,e.bs,e.bsz,e.funs,e.frf,e.hok,e.bare⟩
section
variable{X:Cx}{pins:List (Addr×Obj)}{σ:St}{H:Hp}{s s':Shared}
theorem Inv.env0(I:Inv X pins σ H s):Env0 X.prog X.w X.K X.mg X.base X.A X.stack s H:=
 ⟨I.ok.frames,I.ok.mod,I.bs,mI I.ok.bsz I.sz,I.stack,I.stkFree,I.hok,I.bare⟩
theorem Inv.after{Q:VK}{u:Value}(I:Inv X pins σ H s)(h:CE X.stack X.prog X.w H s Q u s'):EP X pins σ Q u s':=by
 obtain⟨v,H',os,bare,un,hok,r,q⟩:=h
 obtain⟨hh,g,d,t,os'⟩:=s'
 obtain rfl:os'=s.os:=os
 exact⟨v,H',I.call (h':=hh) (g':=g) (d':=d) (t':=t) (ch:=[]) un hok bare (λb z=>absurd z (by simp)),r,q⟩
end
noncomputable def qH6(sp:Sp)(dvs:List V)(E:XK)(t:TA):TE:=λσ H Q=>t σ H λvs H1=>sp (vs++dvs) H1 Q E
noncomputable def qH7(C:Addr)(m:Str)(sp:Sp)(dvs:List V)(E:XK)(ta:TE)(t:TA):TE:=λσ H Q=>ta σ H λx H1=>∃a dx fs,x=.ref a∧H1 a=some (.ins C dx fs)∧fs.lookup m=none∧
 t σ H1 λvs H2=>sp (x::(vs++dvs)) H2 Q E
noncomputable def qJY(C:Addr)(sp:Sp)(dvs:List V)(E:XK)(t:TA):TE:=λσ H Q=>t σ H λvs H1=>∀x dx,H1 x=none→H1 dx=none→dx≠x→
 sp (.ref x::(vs++dvs)) (upd (upd H1 dx (.own x)) x (.ins C dx [])) (λv H2=>v=.non∧Q (.ref x) H2) E
noncomputable def yG(K:PySem.W.Frag)(fd:FuncData)(ps:List Str)(ds:List Value):Prop:=
 ∀(s:Shared) (us:List Value),K.In s.heap→(us++ds).length=ps.length→BindsTo s fd ⟨us,[]⟩ (ps.zip (us++ds))
theorem yG.all{K:PySem.W.Frag}{fd:FuncData}{ps:List Str}(h:∀us:List Value,us.length=ps.length→bindArgs fd ⟨us,[]⟩=pure (ps.zip us)):yG K fd ps []:=λs us _ hl=>by
 rw[gY]at hl ⊢
 exact .of_eq (h us hl)
noncomputable def q0Q(CX:CXT)(X:Cx)(E:XK):Prop:=∀(pins:List (Addr×Obj)) (σ:St) (H:Hp) (s:Shared) (e:Value) (s':Shared),Inv X pins σ H s→CX X.stack H s E e s'→X.xe e s'
section
variable{X:Cx}{CX:CXT}{k:Nat}{f C:Addr}{fd:FuncData}{ps:List Str}{sp:Sp}{dvs:List V}{ds:List Value}{E:XK}{x m:Str}{p pos apos:Pos}{e o:Expr}{es:List Expr}{ta:TE}{t:TA}
theorem q7X{pins:List (Addr×Obj)}{σ:St}{H:Hp}{s:Shared}{Q:VK}{us:List Value}{vs:List V}(F:FnOk X.prog X.w X.K X.mg X.base CX k f fd ps sp)(hr:Room k X.A)(hb:yG X.K fd ps ds)(hd:Vals dvs ds)(hx:q0Q CX X E)
 (I:Inv X pins σ H s) (r:Vals vs us) (h:sp (vs++dvs) H Q E):wpAny (model X.prog X.w) X.A (call (.ref f) us) (EP X pins σ Q) X.xe s:=by
 have r2:Vals (vs++dvs) (us++ds):=r.append hd
 have hl:(us++ds).length=ps.length:=by rw[←r2.length];exact F.len _ _ _ _ h
 refine cY (cP (F.run X.A X.stack s H ⟨us,[]⟩ (us++ds) (vs++dvs) Q E hr I.env0 (hb s us I.kIn hl) r2 h) λr s' hq=>?_)
 cases r with
 |error e=>exact hx pins σ H s e s' I hq
 |ok fl=>
  cases fl with
  |ret u=>exact I.after hq
  |next=>exact False.elim hq
  |brk=>exact False.elim hq
  |cont=>exact False.elim hq
theorem qV(F:FnOk X.prog X.w X.K X.mg X.base CX k f fd ps sp)(hr:Room k X.A)(hg:Gl X x)(hm:X.mg x=some (.ref f))(hk:PySem.W.keepIn X.K (.ref f)=true)(hb:yG X.K fd ps ds)(hd:Vals dvs ds)(hx:q0Q CX X E)
 (ha:PA X (e::es) t) (hdb:(x==("__debug__":Str))=false:=by decide) (he:starEach (e::es) X.env=(false,eval e X.env)::starEach es X.env:=by rfl) (hpl:(backTo pos (starEach es X.env)).any (·.1)=false:=by rfl):
 PE X (.Call (.Name x p) (e::es) [] pos) (qH6 sp dvs E t):=by
 intro pins s σ H Q I h
 refine rJ (q2G I hg hm ?_ hdb)
 refine wJ (h₀:=X.base) I.ok.mod.kin hk (thn (ha pos pins s σ H _ I h) λus s1 ⟨vs,H1,I1,r,q⟩=>⟨I1.kIn,?_⟩) he hpl
 exact q7X F hr hb hd hx I1 r q
theorem jE{pl:Sem Bool}(he:PE X o ta)(c:Cls X.K C)(hm:Meth X.K C m f)(F:FnOk X.prog X.w X.K X.mg X.base CX k f fd ps sp)(hr:Room k X.A)(hb:yG X.K fd ps ds)(hd:Vals dvs ds)(hx:q0Q CX X E)(ha:PA X (e::es) t)
 (hst:starEach (e::es) X.env=(false,eval e X.env)::starEach es X.env:=by rfl) (hpl:(backTo pos (starEach es X.env)).any (·.1)=false:=by rfl)
 (ht:eval (.Call (.Attribute o m apos) (e::es) [] pos) X.env=(do
  let ov←eval o X.env
  standAt apos.atName
  let(f,first)←holding [ov] (getMethod ov m pl)
  callWith pos f first (backTo pos (starEach (e::es) X.env)) (backToKw pos (keywordEach [] X.env))):=by rfl):
 PE X (.Call (.Attribute o m apos) (e::es) [] pos) (qH7 C m sp dvs E ta t):=by
 intro pins s σ H Q I h
 refine rM (pl:=pl) (thn (he pins s σ H _ I h) λu s1 hZ=>?_) ht
 obtain⟨x,H1,I1,rx,a,dx,fs,ex,ea,l,q⟩:=hZ
 subst ex
 obtain rfl:u=Value.ref a:=rx
 refine q0P I1 ea c hm l ?_
 refine wJ (first:=[.ref a]) (h₀:=X.base) I.ok.mod.kin hm.kp (thn (ha pos pins s1 σ H1 _ I1 q) λus s2 ⟨vs,H2,I2,r,q2⟩=>⟨I2.kIn,?_⟩) hst hpl
 exact q7X (us:=.ref a::us) (vs:=.ref a::vs) F hr hb hd hx I2 (.cons rfl r) q2
theorem j0{pl:Sem Bool}(he:PE X o ta)(c:Cls X.K C)(hm:Meth X.K C m f)(F:FnOk X.prog X.w X.K X.mg X.base CX k f fd ps sp)(hr:Room k X.A)(hb:yG X.K fd ps ds)(hd:Vals dvs ds)(hx:q0Q CX X E)
 (ht:eval (.Call (.Attribute o m apos) [] [] pos) X.env=(do
  let ov←eval o X.env
  standAt apos.atName
  let(f,first)←holding [ov] (getMethod ov m pl)
  callWith pos f first (backTo pos (starEach [] X.env)) (backToKw pos (keywordEach [] X.env))):=by rfl):
 PE X (.Call (.Attribute o m apos) [] [] pos) (qH7 C m sp dvs E ta tNil):=by
 intro pins s σ H Q I h
 refine rM (pl:=pl) (thn (he pins s σ H _ I h) λu s1 hZ=>?_) ht
 obtain⟨x,H1,I1,rx,a,dx,fs,ex,ea,l,q⟩:=hZ
 subst ex
 obtain rfl:u=Value.ref a:=rx
 refine q0P I1 ea c hm l ?_
 exact pM (first:=[.ref a]) I1.kIn hm.kp (q7X (us:=[.ref a]) (vs:=[.ref a]) F hr hb hd hx I1 (.cons rfl .nil) q)
structure Mk(K:PySem.W.Frag)(C f:Addr):Prop where
 makes:PySem.W.makesIn K C=true
 init:PySem.W.findIn K (.ref C) "__init__"=some (some (.ref f))
 fn:PySem.W.isFn K (.ref f)=true
 kp:PySem.W.keepIn K (.ref C)=true
theorem qD6{pins:List (Addr×Obj)}{σ:St}{H:Hp}{s:Shared}{Q:VK}{us:List Value}{vs:List V}(M:Mk X.K C f)(F:FnOk X.prog X.w X.K X.mg X.base CX k f fd ps sp)(hr:Room (k+1) X.A)(hb:yG X.K fd ps ds)(hd:Vals dvs ds)
 (hx:q0Q CX X E) (I:Inv X pins σ H s) (r:Vals vs us)
 (h:∀x dx,H x=none→H dx=none→dx≠x→sp (.ref x::(vs++dvs)) (upd (upd H dx (.own x)) x (.ins C dx [])) (λv H2=>v=.non∧Q (.ref x) H2) E):
 wpAny (model X.prog X.w) X.A (call (.ref C) us) (EP X pins σ Q) X.xe s:=by
 have hq:=h (s.heap.objs.size+1) s.heap.objs.size (I.hok.fresh (dU _)) (I.hok.fresh (kN _)) (mW (dN _))
 have I2:=Inv.made (C:=C) I
 have r2:Vals (V.ref (s.heap.objs.size+1)::(vs++dvs)) (Value.ref (s.heap.objs.size+1)::(us++ds)):=.cons rfl (r.append hd)
 have hl:(Value.ref (s.heap.objs.size+1)::us++ds).length=ps.length:=by
  have e:=r2.length
  rw[F.len _ _ _ _ hq]at e
  exact e.symm
 refine cY (qD5 (f:=f) I.kIn M.makes M.init (r6.mp M.fn) (cP (F.run _ X.stack _ _ ⟨Value.ref (s.heap.objs.size+1)::us,[]⟩ (Value.ref (s.heap.objs.size+1)::(us++ds)) _ _ E (hr.make C us [])
  (I2.env0.make C us []) (hb _ (Value.ref (s.heap.objs.size+1)::us) I2.kIn hl) r2 hq) λr s' hq'=>?_))
 cases r with
 |error e=>exact hx pins σ _ _ e s' I2 hq'
 |ok fl=>
  cases fl with
  |ret u=>
   obtain⟨v,H',I3,rv,ev,q3⟩:=I2.after hq'
   subst ev
   exact⟨rv,⟨V.ref (s.heap.objs.size+1),H',I3,rfl,q3⟩⟩
  |next=>exact False.elim hq'
  |brk=>exact False.elim hq'
  |cont=>exact False.elim hq'
theorem q5J(M:Mk X.K C f)(F:FnOk X.prog X.w X.K X.mg X.base CX k f fd ps sp)(hr:Room (k+1) X.A)(hg:Gl X x)(hm:X.mg x=some (.ref C))(hb:yG X.K fd ps ds)(hd:Vals dvs ds)(hx:q0Q CX X E)
 (ha:PA X (e::es) t) (hdb:(x==("__debug__":Str))=false:=by decide) (he:starEach (e::es) X.env=(false,eval e X.env)::starEach es X.env:=by rfl) (hpl:(backTo pos (starEach es X.env)).any (·.1)=false:=by rfl):
 PE X (.Call (.Name x p) (e::es) [] pos) (qJY C sp dvs E t):=by
 intro pins s σ H Q I h
 refine rJ (q2G I hg hm ?_ hdb)
 refine wJ (h₀:=X.base) I.ok.mod.kin M.kp (thn (ha pos pins s σ H _ I h) λus s1 ⟨vs,H1,I1,r,q⟩=>⟨I1.kIn,?_⟩) he hpl
 exact qD6 M F hr hb hd hx I1 r q
end
noncomputable def PK(X:Cx)(kws:List Keyword)(t:TA):Prop:=
 ∀(pos:Pos) (pins:List (Addr×Obj)) (s:Shared) (σ:St) (H:Hp) (Q:List V→Hp→Prop),Inv X pins σ H s→t σ H Q→wpAny (model X.prog X.w) X.A (evalAll ((backToKw pos (keywordEach kws X.env)).map (·.2))) (AP X pins σ Q) X.xe s
section
variable{X:Cx}{CX:CXT}{k:Nat}{f C:Addr}{fd:FuncData}{ps ks:List Str}{sp:Sp}{E:XK}{x m:Str}{p pos apos kpos:Pos}{e o:Expr}{es:List Expr}{kws:List Keyword}{te ta:TE}{t tk:TA}{nm:Option Str}
theorem qHW:PK X [] tNil:=λ_ _ _ _ H Q I h=>wpAny_evalAll_nil ⟨[],H,I,.nil,h⟩
theorem qFF(ha:PE X e te)(hr:PK X kws t):PK X (⟨nm,e,kpos⟩::kws) (q93 te t):=by
 intro pos pins s σ H Q I h
 show wpAny _ _ (evalAll ((do let v←eval e X.env;standAt pos;pure v)::(backToKw pos (keywordEach kws X.env)).map (·.2))) _ _ s
 refine wpAny_evalAll_cons (kD (thn (ha pins s σ H _ I h) λu s1 ⟨x,H1,I1,r1,q1⟩=>kD (p8 (kZ ?_))))
 exact thn (hr pos pins s1 σ H1 _ I1 q1) λus s2 ⟨xs,H2,I2,r2,q2⟩=>⟨x::xs,H2,I2,.cons r1 r2,q2⟩
variable{g:List Value→List Value→List Value}{gV:List V→List V→List V}
end
structure FnScope(N P:List Str)(sc:Scope):Prop where
 kind:sc.kind=.function
 co:sc.isCoroutine=false
 gen:sc.isGenerator=false
 nd:N.Nodup
 pre:N.take P.length=P
 par:∀x∈P,sc.names.lookup x=some .local∨sc.names.lookup x=some .cell
 nofree:∀y∈sc.names,y.2≠ .free
theorem q7G{kindOf:Str→Option NameKind}{x:Str}:∀{binds:List (Str×Value)} {m:Str→Option Value},(∀v,(x,v)∉binds)→bindL kindOf binds m x=m x
 | [],_,_=>rfl
 |(n,v)::r,m,h=>by
  unfold bindL
  rw[q7G λw hw=>h w (hU _ hw)]
  split
  ·have:x≠n:=by rintro rfl;exact h v kW
   simp[this]
  ·rfl
theorem q7H{kindOf:Str→Option NameKind}{x:Str}:∀{binds:List (Str×Value)} {m:Str→Option Value},(∀v,(x,v)∉binds)→bindC kindOf binds m x=m x
 | [],_,_=>rfl
 |(n,v)::r,m,h=>by
  unfold bindC
  rw[q7H λw hw=>h w (hU _ hw)]
  split
  ·rfl
  ·have:x≠n:=by rintro rfl;exact h v kW
   simp[this]
theorem q7I{kindOf:Str→Option NameKind}{x:Str}{v:Value}:∀{P:List Str} {vs:List Value} {i:Nat} {m:Str→Option Value},P.Nodup→P[i]?=some x→vs[i]?=some v→kindOf x=some .local→
 bindL kindOf (P.zip vs) m x=some v
 | [],_,_,_,_,h,_,_=>by simp at h
 |_::_,[],_,_,_,_,h,_=>by simp at h
 |p::P,w::vs,0,m,nd,h1,h2,hk=>by
  simp at h1 h2;subst h1;subst h2
  show bindL kindOf ((p,w)::P.zip vs) m p=_
  unfold bindL
  rw[q7G λv hv=>(gB.mp nd).1 (sS hv).1,kF hk]
  simp
 |p::P,w::vs,i+1,m,nd,h1,h2,hk=>by
  show bindL kindOf ((p,w)::P.zip vs) m x=_
  unfold bindL
  exact q7I (i:=i) (gB.mp nd).2 (by simpa using h1) (by simpa using h2) hk
theorem q7J{kindOf:Str→Option NameKind}{x:Str}{v:Value}:∀{P:List Str} {vs:List Value} {i:Nat} {m:Str→Option Value},P.Nodup→P[i]?=some x→vs[i]?=some v→kindOf x≠some .local→
 bindC kindOf (P.zip vs) m x=some v
 | [],_,_,_,_,h,_,_=>by simp at h
 |_::_,[],_,_,_,_,h,_=>by simp at h
 |p::P,w::vs,0,m,nd,h1,h2,hk=>by
  simp at h1 h2;subst h1;subst h2
  show bindC kindOf ((p,w)::P.zip vs) m p=_
  unfold bindC
  rw[q7H λv hv=>(gB.mp nd).1 (sS hv).1,kB hk]
  simp
 |p::P,w::vs,i+1,m,nd,h1,h2,hk=>by
  show bindC kindOf ((p,w)::P.zip vs) m x=_
  unfold bindC
  exact q7J (i:=i) (gB.mp nd).2 (by simpa using h1) (by simpa using h2) hk
noncomputable def q2V(N:List Str)(vs:List V):St:=vs.map some++List.replicate (N.length-vs.length) none
noncomputable def cxOf(CX:CXT)(P:Program)(w:World)(K:PySem.W.Frag)(mg:Str→Option Value)(base:Heap)(N:List Str)(qual:Str)(scope:Scope)(f:Addr)(cd:Value)(A:Around)(outer:List Env)(s:Shared)(H:Hp)(E:XK):Cx where
 prog:=P
 w:=w
 K:=K
 mg:=mg
 base:=base
 A:=A.deeper (envOfC qual scope s.heap.objs.size f cd)
 N:=N
 s₀:=s
 H₀:=H
 env:=envOfC qual scope s.heap.objs.size f cd
 outer:=outer
 stack:=envOfC qual scope s.heap.objs.size f cd::outer
 ex:=[]
 calm:=true
 fn:=λ_=>true
 pn:=[]
 xe:=λe s'=>wpAny (model P w) (A.deeper (envOfC qual scope s.heap.objs.size f cd)) (leaving (envOfC qual scope s.heap.objs.size f cd) e) (λ_ s''=>CX outer H s E e s'') (λe' s''=>CX outer H s E e' s'') s'
theorem q94{sc:Scope}{n:Nat}{x:Str}(h:sc.names.lookup x=some .cell):∃c,(cellsFrom n sc.names []).lookup x=some c:=by
 have q:=PySem.W.cellsFrom_some sc.names n [] (.inl h)
 exact cF.mp q
theorem qC8{CX:CXT}{P:Program}{w:World}{K:PySem.W.Frag}{mg:Str→Option Value}{base:Heap}{N ps:List Str}{qual:Str}{scope:Scope}{f:Addr}{cd:Value}{A:Around}{outer:List Env}{s s1:Shared}{H:Hp}{E:XK}{us:List Value}{vs:List V}
 (S:FnScope N ps scope) (hd:A.handled=none) (e0:Env0 P w K mg base A outer s H) (hl:vs.length=ps.length) (r:Vals vs us)
 (x:InCallC s s.heap.objs.size (bindL (envOfC qual scope s.heap.objs.size f cd).kindOf (ps.zip us) λ_=>none) (cellsFrom (s.heap.objs.size+1) scope.names []) (bindC (envOfC qual scope s.heap.objs.size f cd).kindOf (ps.zip us) λ_=>none) s1):
 Inv (cxOf CX P w K mg base N qual scope f cd A outer s H E) [] (q2V N vs) H s1:=by
 have hpl:ps.length≤N.length:=by have:=g0 List.length S.pre;rw[gE]at this;omega
 obtain⟨h1,tk,rfl,hk⟩:=x.done
 have noA:∀b:Addr,b∉(cxOf CX P w K mg base N qual scope f cd A outer s H E).ex:=λb z=>absurd (show b∈([]:List Addr)from z) (by simp)
 refine⟨⟨e0.mod,S.kind,rfl,rfl,kN _,λy z c h1 h2=>?_,λy hy=>?_,λy c _ h=>?_,λ_=>hd,Around.frames_deeper e0.frames,.inr ⟨rfl,rfl⟩,λb z=>absurd z (noA b),e0.bs,e0.bsz,λb _ _=>noA b,λb z=>absurd z (noA b),e0.funs,e0.frf⟩,
  rfl,e0.bare,Un.kept hk,⟨_,x.toInCall.ns,λi y v h1 h2 h3=>?_⟩,λy c h=>⟨_,x.cell y c h⟩,e0.hok.fresh (kN _),λy c h=>?_,λp hp=>absurd (show p∈([]:List (Addr×Obj))from hp) (by simp),e0.hok.kept hk,?_⟩
 ·exact name_of_addr x.apart (gP h1) (gP h2)
 ·have hy:scope.names.lookup y=some .cell∨scope.names.lookup y=some .free:=hy
  rcases hy with hy|hy
  ·exact q94 hy
  ·exact absurd rfl (S.nofree _ (gP hy))
 ·exact pQ (x.above y c (gP h))
 ·have hi:i<vs.length:=by
   unfold q2V at h2
   by_cases hi:i<vs.length
   ·exact hi
   ·rw[rK (by simpa using hi)]at h2
    rw[dW]at h2
    split at h2<;>cases h2
  have ha:vs[i]?=some v:=by
   unfold q2V at h2
   rw[List.getElem?_append_left (by simpa using hi),mB]at h2
   cases e:vs[i]? with
   |none=>rw[e]at h2;cases h2
   |some a=>rw[e]at h2;cases h2;rfl
  obtain⟨u,hu,rv⟩:=r.get ha
  have hp:ps[i]?=some y:=by
   rw[←S.pre,List.getElem?_take_of_lt (by omega)];exact h1
  have ndP:ps.Nodup:=by rw[←S.pre];exact S.nd.sublist (List.take_sublist _ _)
  refine⟨u,rv,?_⟩
  rcases S.par y (gK hp)with k|k
  ·exact .inl ⟨k,q7I ndP hp hu k⟩
  ·obtain⟨c,e⟩:=q94 (n:=s.heap.objs.size+1) k
   refine .inr ⟨.inl k,c,e,?_⟩
   have q:=x.cell y c e
   rw[q7J ndP hp hu (by show scope.names.lookup y≠_;rw[k];decide)]at q
   exact q
 ·exact e0.hok.fresh (pQ (x.above y c (gP h)))
 ·unfold q2V
  show _=N.length
  rw[mC,hI,gG]
  omega
theorem qD7{CX:CXT}{P:Program}{w:World}{K:PySem.W.Frag}{mg:Str→Option Value}{base:Heap}{k:Nat}{f:Addr}{name qual:Str}{params:Arguments}{body:List Stmt}{scope:Scope}{dV kV doc pm cdv ct oc:Value}{an od:Option Addr}
 {osl:Array (Option Value)} {N ps:List Str} {sp:Sp} (lk:K.lookup f=some ⟨oc,od,.func (PySem.W.fnOf name qual params body scope dV kV doc pm an cdv ct),osl⟩) (hcd:PySem.W.codeIn K cdv qual=true) (S:FnScope N ps scope)
 (len:∀vs H Q E,sp vs H Q E→vs.length=ps.length)
 (hbody:∀(A:Around) (outer:List Env) (s:Shared) (H:Hp) (vs:List V) (Q:VK) (E:XK),Room k (A.deeper (envOfC qual scope s.heap.objs.size f cdv))→sp vs H Q E→
  ∃t,PSs (cxOf CX P w K mg base N qual scope f cdv A outer s H E) body t∧t { nx:=λ_ H'=>Q .non H',rt:=Q } (q2V N vs) H):
 FnOk P w K mg base CX (k+1) f (PySem.W.fnOf name qual params body scope dV kV doc pm an cdv ct) ps sp:=by
 refine⟨len,λA outer s H args us vs Q E hr e0 hb r hsp=>?_⟩
 have hl:=len _ _ _ _ hsp
 have KX:K.In s.heap:=e0.mod.kin.keeps λb o e=>(e0.bs b o e).1
 have lim:s.heap.NoLimit:=e0.mod.nolimit.keeps λb o e=>(e0.bs b o e).1
 have hkind:∀y∈ps.zip us,scope.names.lookup y.1=some .local∨(scope.names.lookup y.1=some .cell∧((cellsFrom (s.heap.objs.size+1) scope.names []).lookup y.1).isSome=true):=λ⟨n,v⟩ hy=>by
  rcases S.par n (sS hy).1 with q|q
  ·exact .inl q
  ·exact .inr ⟨q,PySem.W.cellsFrom_some _ _ _ (.inl q)⟩
 refine codeAny_call_function hr.depth (KX _ _ lk) rfl S.co S.gen rfl (PySem.W.codeRec_of KX hcd) (hb _ _ _ _ ?_)
 refine wpAny_newFunctionEnv_cells S.kind hkind λenv he s1 x=>?_
 subst he
 refine⟨lim.keeps x.toInCall.keep,codeAny_func ?_⟩
 obtain⟨t,ht,hq⟩:=hbody A outer s H vs Q E (hr.deeper _) hsp
 have I:Inv (cxOf CX P w K mg base N qual scope f cdv A outer s H E) [] (q2V N vs) H s1:=qC8 S hr.hd e0 hl r x
 refine dC (ht [] s1 (q2V N vs) H _ I hq) (λfl s' hs=>?_) λe s' hs=>hs
 have fin:∀{σ':St} {H':Hp} {v:V} {u:Value},Inv (cxOf CX P w K mg base N qual scope f cdv A outer s H E) [] σ' H' s'→RelV v u→Q v H'→CE outer P w H s Q u s':=
  fun {σ' H' v u} J rv q=>⟨v,H',J.os,J.bare,J.base,J.hok,rv,q⟩
 cases fl with
 |ret u=>
  obtain⟨v,σ',H',J,rv,q⟩:=hs
  exact fin J rv q
 |next=>
  obtain⟨σ',H',J,q⟩:=hs
  exact fin (v:=V.non) (u:=Value.none) J rfl q
 |brk=>
  obtain⟨_,_,_,q⟩:=hs
  exact False.elim q
 |cont=>
  obtain⟨_,_,_,q⟩:=hs
  exact False.elim q
section
variable{X:Cx}{x:Str}{p pos:Pos}{e:Expr}{es:List Expr}{t:TA}{id T:String}{r:List V→Hp→VK→Prop}
noncomputable def tCB(r:List V→Hp→VK→Prop)(t:TA):TE:=λσ H Q=>t σ H λvs H1=>r vs H1 Q
theorem j8(hc:q17 X (.builtin id) r)(hg:Gl X x)(hm:X.mg x=none)(hv:bootBuiltins x=some (.builtin id))(ha:PA X (e::es) t)(hn:x≠"__name__":=by decide)(hdb:(x==("__debug__":Str))=false:=by decide)
 (he:starEach (e::es) X.env=(false,eval e X.env)::starEach es X.env:=by rfl) (hpl:(backTo pos (starEach es X.env)).any (·.1)=false:=by rfl):PE X (.Call (.Name x p) (e::es) [] pos) (tCB r t):=by
 intro pins s σ H Q I h
 refine rJ (q4A I hg hm hv ?_ hn hdb)
 exact PyProof.Rows.callWith_builtin1 (thn (ha pos pins s σ H _ I h) λus s1 ⟨vs,H1,I1,r1,q1⟩=>hc pins s1 σ H1 vs us Q I1 r1 q1) he hpl
theorem q4F(hc:q17 X (.type T) r)(hg:Gl X x)(hm:X.mg x=none)(hv:bootBuiltins x=some (.type T))(ha:PA X (e::es) t)(hn:x≠"__name__":=by decide)(hdb:(x==("__debug__":Str))=false:=by decide)
 (he:starEach (e::es) X.env=(false,eval e X.env)::starEach es X.env:=by rfl) (hpl:(backTo pos (starEach es X.env)).any (·.1)=false:=by rfl):PE X (.Call (.Name x p) (e::es) [] pos) (tCB r t):=by
 intro pins s σ H Q I h
 refine rJ (q4A I hg hm hv ?_ hn hdb)
 exact wR (thn (ha pos pins s σ H _ I h) λus s1 ⟨vs,H1,I1,r1,q1⟩=>hc pins s1 σ H1 vs us Q I1 r1 q1) he hpl
end
end L2
namespace HT
open PySem PyProof.Rows
section
variable{prog:Program}{w:World}{A:Around}{E:Value→Shared→Prop}{s:Shared}
noncomputable def sIx(n d:Nat):Option Int→Nat
 |none=>d
 |some v=>if v<0 then(v+(n:Int)).toNat else min v.toNat n
theorem qHX(n d:Nat)(hd:d≤n)(o:Option Int):sIx n d o≤n:=by
 cases o with
 |none=>exact hd
 |some v=>
  show(if v<0 then(v+(n:Int)).toNat else min v.toNat n)≤n
  by_cases hv:v<0
  ·rw[kF hv];omega
  ·rw[kB hv];exact Nat.min_le_right _ _
theorem qB3(v:Int)(n d:Nat):(if v<0 then max (v+(n:Int)) 0 else min v (n:Int))=((sIx n d (some v):Nat):Int):=by
 show(if v<0 then max (v+(n:Int)) 0 else min v (n:Int))=(((if v<0 then(v+(n:Int)).toNat else min v.toNat n):Nat):Int)
 by_cases hv:v<0
 ·simp only[kF hv];omega
 ·simp only[kB hv];omega
theorem qA9(lo hi:Option Int)(n:Nat):Builtin.Slice.sliceAdjust lo hi 1 (n:Int)=(((sIx n 0 lo:Nat):Int),((sIx n n hi:Nat):Int)):=by
 have h1:¬((1:Int)<0):=by omega
 unfold Builtin.Slice.sliceAdjust
 simp only[h1,if_false]
 refine Prod.ext ?_ ?_
 ·cases lo with
  |none=>rfl
  |some v=>exact qB3 v n 0
 ·cases hi with
  |none=>rfl
  |some v=>exact qB3 v n n
theorem qAA(i j:Nat):Builtin.Slice.slicePlaces (i:Int) (j:Int) 1=j-i:=by
 unfold Builtin.Slice.slicePlaces
 have h1:(1:Int)>0:=by omega
 simp only[h1,if_true,Int.ediv_one]
 split<;>omega
theorem q5Y{v:Value}{o:Option Int}{Q:Option Int→Shared→Prop}(p:IsPart v o)(h:Q o s):wpAny (model prog w) A (Builtin.Slice.slicePartIndex v) Q E s:=by
 cases p with
 |none=>exact slicePart_none h
 |int i t=>exact slicePart_int h
theorem q4G{sl:Addr}{vl vu:Value}{lo hi:Option Int}{n:Nat}{Q:Int×Int×Nat→Shared→Prop}(hs:s.heap.IsSliceOf sl vl vu .none)(pl:IsPart vl lo)(pu:IsPart vu hi)
 (h:Q (((sIx n 0 lo:Nat):Int),1,sIx n n hi-sIx n 0 lo) s):wpAny (model prog w) A (Builtin.Slice.sliceApplied (.ref sl) (pure (n:Int))) Q E s:=by
 obtain⟨os,hos,hcs,hds⟩:=id hs
 unfold Builtin.Slice.sliceApplied Builtin.Slice.sliceFields
 refine kD (kD (wX hos hds (x:=vl) rfl (kD (wX hos hds (x:=vu) rfl (kD (wX hos hds (x:=.none) rfl (kZ ?_)))))))
 refine kD (slicePart_none ?_)
 show wpAny _ _ (if((1:Int)==0)=true then _ else _) _ _ s
 rw[kB (by decide)]
 refine kD (q5Y pl (kD (q5Y pu (kD (kZ ?_)))))
 show wpAny _ _ (match Builtin.Slice.sliceAdjust lo hi 1 (n:Int)with|(lo,hi)=>pure (lo,(1:Int),Builtin.Slice.slicePlaces lo hi 1)) _ _ s
 rw[qA9 lo hi n]
 show wpAny _ _ (pure (((sIx n 0 lo:Nat):Int),(1:Int),Builtin.Slice.slicePlaces ((sIx n 0 lo:Nat):Int) ((sIx n n hi:Nat):Int) 1)) _ _ s
 rw[qAA]
 exact kZ h
theorem qD8(xs:Array Value)(i k:Nat):((List.range k).filterMap λ(m:Nat)=>xs[((i:Int)+(m:Int)*1).toNat]?).toArray=((xs.toList.drop i).take k).toArray:=by
 have e:(λ(m:Nat)=>xs[((i:Int)+(m:Int)*1).toNat]?)=λm=>xs[i+m]?:=by
  funext m
  have:((i:Int)+(m:Int)*1).toNat=i+m:=by omega
  rw[this]
 rw[e]
 have:=pick_run xs i k
 rw[List.filterMap_map]at this
 have e2:((λx=>xs[x]?) ∘ λx=>i+x)=λm=>xs[i+m]?:=rfl
 rw[e2]at this
 rw[this]
theorem getItem_tuple_cut{t sl:Addr}{items:Array Value}{vl vu:Value}{lo hi:Option Int}{Q:Value→Shared→Prop}(ht:IsTup s.heap t items)(hs:s.heap.IsSliceOf sl vl vu .none)(pl:IsPart vl lo)(pu:IsPart vu hi)
 (hw:¬(sIx items.size 0 lo=0∧sIx items.size items.size hi=items.size))
 (h:Q (.ref s.heap.objs.size) { s with heap:=s.heap.push { cls:=.type "tuple",data:=.seq ((items.toList.drop (sIx items.size 0 lo)).take (sIx items.size items.size hi-sIx items.size 0 lo)).toArray } })
 (hsz:items.size≤sizeLine):wpAny (model prog w) A (getItem (.ref t) (.ref sl)) Q E s:=by
 have htake:sizeOk (.seq ((items.toList.drop (sIx items.size 0 lo)).take (sIx items.size items.size hi-sIx items.size 0 lo)).toArray):=by
  show((items.toList.drop (sIx items.size 0 lo)).take (sIx items.size items.size hi-sIx items.size 0 lo)).toArray.size≤sizeLine
  rw[mF,gE,p9,gA]
  omega
 have hj:sIx items.size items.size hi≤items.size:=qHX _ _ (kN _) hi
 obtain⟨os,hos,hcs,hds⟩:=id hs
 have hTs:s.TypeIs (.ref sl) "slice":=⟨os,hos,hcs⟩
 unfold getItem
 try with_reducible refine dB ?_
 first|refine kD (kZ ?_)|skip
 refine kD (wpAny_sequenceKey ht.typeIs (by decide) ?_)
 refine kD (wpAny_callSpecial?_slot (name:=Str.ofString "__getitem__") ht.typeIs wC
  (wZ wC ht.typeIs entry_tuple_getitem ?_ (args_tuple_getitem _ _)))
 show wpAny _ _ (Builtin.Tuple.tupleItemsOf (.ref t) >>= _) _ _ s
 refine kD (tupleItemsOf_ ht ?_)
 refine kD (wpAny_typeOf hTs ?_)
 rw[kF (by decide)]
 refine kD (q4G hs pl pu ?_)
 have hno:¬((((sIx items.size 0 lo:Nat):Int)==0&&(1:Int)==1&&(sIx items.size items.size hi-sIx items.size 0 lo)==items.size)=true):=by
  intro q
  rw[mO,mO]at q
  have q1:((sIx items.size 0 lo:Nat):Int)=0:=eq_of_beq q.1.1
  have q2:sIx items.size items.size hi-sIx items.size 0 lo=items.size:=eq_of_beq q.2
  exact hw ⟨by omega,by omega⟩
 show wpAny _ _ (if(((sIx items.size 0 lo:Nat):Int)==0&&(1:Int)==1&&(sIx items.size items.size hi-sIx items.size 0 lo)==items.size)=true then _ else _) _ _ s
 rw[kB hno,qD8]
 first
  |exact kD (m:=Builtin.Tuple.tupleExact _) (dX (kZ ⟨_,rfl,kZ h⟩) htake)
  |exact kD (m:=Builtin.Tuple.tupleExact _) (dX (kD (kZ (kZ ⟨_,rfl,kZ h⟩))) htake)
  |exact kD (kD (m:=Builtin.Tuple.tupleExact _) (dX (kZ (kZ ⟨_,rfl,kZ h⟩)) htake))
  |exact kD (kD (m:=Builtin.Tuple.tupleExact _) (dX (kZ ⟨_,rfl,kZ h⟩) htake))
end
end HT
namespace L2
open PySem PySem.Spec PyProof.Rows
noncomputable abbrev TO:=St→Hp→(Option Int→Hp→Prop)→Prop
noncomputable def PO(X:Cx)(e:Option Expr)(t:TO):Prop:=
 ∀(pins:List (Addr×Obj)) (s:Shared) (σ:St) (H:Hp) (Q:Option Int→Hp→Prop),Inv X pins σ H s→t σ H Q→
  wpAny (model X.prog X.w) X.A (evalPart e X.env) (λu s'=>∃o H',Inv X pins σ H' s'∧IsPart u o∧Q o H') X.xe s
noncomputable def qFG:TO:=λ_ H Q=>Q none H
noncomputable def qJZ(t:TE):TO:=λσ H Q=>t σ H λx H1=>∃i,x=.int i∧Q (some i) H1
section
variable{X:Cx}{e:Expr}{te:TE}{lo hi:Option Expr}{tl th:TO}{pos p2:Pos}
theorem qFH:PO X none qFG:=by
 intro pins s σ H Q I h
 rw[evalPart_none]
 exact kZ ⟨none,H,I,.none,h⟩
theorem qFI(h:PE X e te):PO X (some e) (qJZ te):=by
 intro pins s σ H Q I hw
 rw[evalPart_some]
 refine thn (h pins s σ H _ I hw) λu s1 hZ=>?_
 obtain⟨x,H1,I1,r1,q1⟩:=hZ
 obtain⟨i,rfl,q⟩:=q1
 obtain⟨t,rfl⟩:=r1
 exact⟨some i,H1,I1,.int i t,q⟩
noncomputable def SlR(X:Cx)(r:V→Option Int→Option Int→Hp→VK→Prop):Prop:=
 ∀(pins:List (Addr×Obj)) (s:Shared) (σ:St) (H:Hp) (x:V) (v vl vu:Value) (lo hi:Option Int) (sl:Addr) (Q:VK),Inv X pins σ H s→RelV x v→s.heap.IsSliceOf sl vl vu .none→IsPart vl lo→IsPart vu hi→r x lo hi H Q→
  ∃T id,typeLookup (.type T) "__getitem__"=pure (some (.builtin id))∧s.TypeIs v T∧wpAny (model X.prog X.w) X.A (getItem v (.ref sl)) (EP X pins σ Q) X.xe s
noncomputable def tSl(r:V→Option Int→Option Int→Hp→VK→Prop)(te:TE)(tl th:TO):TE:=λσ H Q=>te σ H λx H1=>tl σ H1 λl H2=>th σ H2 λu H3=>r x l u H3 Q
theorem qD9{r:V→Option Int→Option Int→Hp→VK→Prop}(hr:SlR X r)(he:PE X e te)(hl:PO X lo tl)(hu:PO X hi th):PE X (.Subscript e (.Slice lo hi none p2) pos) (tSl r te tl th):=by
 intro pins s σ H Q I h
 refine Subscript_ (thn (he pins s σ H _ I h) λv s1 hZ=>?_)
 obtain⟨x,H1,I1,r1,q1⟩:=hZ
 refine wpAny_Slice (thn (hl pins s1 σ H1 _ I1 q1) λvl s2 ⟨l,H2,I2,pl,q2⟩=>thn (hu pins s2 σ H2 _ I2 q2) λvu s3 hZ=>?_)
 obtain⟨u,H3,I3,pu,q3⟩:=hZ
 rw[evalPart_none]
 refine kZ ?_
 have I4:Inv X pins σ H3 { s3 with heap:=s3.heap.push { cls:=.type "slice",data:=.fields #[vl,vu,.none] } }:=I3.kept (t':=s3.toks) λb ob q=>kE _ q
 obtain⟨T,id,hT,ht,hg⟩:=hr pins { s3 with heap:=s3.heap.push { cls:=.type "slice",data:=.fields #[vl,vu,.none] } } σ H3 x v vl vu l u s3.heap.objs.size Q I4 r1 (Heap.IsSliceOf.new ..) pl pu q3
 show wpAny (model X.prog X.w) X.A (subscriptTail e (.Slice lo hi none p2) v (.ref s3.heap.objs.size)) (EP X pins σ Q) X.xe { s3 with heap:=s3.heap.push { cls:=.type "slice",data:=.fields #[vl,vu,.none] } }
 exact tail_any (ops:=[.ref s3.heap.objs.size,v]) ht hT hg (by with_unfolding_all rfl)
noncomputable def cutV(xs:List V)(lo hi:Option Int):List V:=(xs.drop (HT.sIx xs.length 0 lo)).take (HT.sIx xs.length xs.length hi-HT.sIx xs.length 0 lo)
theorem q95(xs:List V)(lo hi:Option Int):(cutV xs lo hi).length≤xs.length:=by
 unfold cutV
 rw[gE,p9]
 omega
noncomputable def rSlT(K:PySem.W.Frag):V→Option Int→Option Int→Hp→VK→Prop:=λx lo hi H Q=>∃a xs,x=.ref a∧SqT K H a xs∧
 ¬(HT.sIx xs.length 0 lo=0∧HT.sIx xs.length xs.length hi=xs.length)∧∀p,H p=none→Q (.ref p) (upd H p (.tup (cutV xs lo hi)))
theorem qHY:SlR X (rSlT X.K):=by
 intro pins s σ H x v vl vu lo hi sl Q I rx hs pl pu h
 obtain⟨a,xs,rfl,hx,hw,q⟩:=h
 cases rx
 obtain⟨its,r,ht,hz⟩:=I.tuple hx
 have hlen:its.toArray.size=xs.length:=by rw[mF];exact r.length.symm
 refine⟨"tuple",_,wC.lookup,ht.typeIs,?_⟩
 refine HT.getItem_tuple_cut ht hs pl pu (by rw[hlen];exact hw) ?_ (by rw[hlen];exact hz)
 rw[hlen]
 refine⟨.ref s.heap.objs.size,_,I.laid (t':=s.toks) (o:=.tup (cutV xs lo hi)) (λb ob q=>kE _ q) (kN _) ?_,rfl,q _ (I.hok.fresh (kN _))⟩
 exact⟨mI (q95 xs lo hi) hz,_,(r.drop (HT.sIx xs.length 0 lo)).take (HT.sIx xs.length xs.length hi-HT.sIx xs.length 0 lo),IsTup.new _ _⟩
end
noncomputable def ixN(n:Nat)(i:Int):Option Nat:=if 0≤i then(if i<n then some i.toNat else none)else if-(n:Int)≤i then some (i+n).toNat else none
noncomputable def atI{α:Type}(xs:List α)(i:Int):Option α:=(ixN xs.length i).bind λj=>xs[j]?
theorem qB4{n:Nat}{i:Int}{j:Nat}(h:ixN n i=some j):seqIndex? i n=some j∧j<n∧-(n:Int)≤i∧i<n:=by
 unfold ixN at h
 by_cases h0:0≤i
 ·rw[kF h0]at h
  by_cases h1:i<n
  ·rw[kF h1]at h
   have e:i.toNat=j:=kP h
   exact⟨by rw[seqIndex_of h0 h1,e],by omega,by omega,h1⟩
  ·rw[kB h1]at h;cases h
 ·rw[kB h0]at h
  by_cases h1:-(n:Int)≤i
  ·rw[kF h1]at h
   have e:(i+n).toNat=j:=kP h
   exact⟨by rw[seqIndex_neg (by omega) h1,e],by omega,h1,by omega⟩
  ·rw[kB h1]at h;cases h
theorem q7Y{α:Type}{xs:List α}{i:Int}{v:α}(h:atI xs i=some v):∃j,seqIndex? i xs.length=some j∧xs[j]?=some v∧j<xs.length∧-(xs.length:Int)≤i∧i<xs.length:=by
 unfold atI at h
 cases e:ixN xs.length i with
 |none=>rw[e]at h;cases h
 |some j=>
  rw[e]at h
  obtain⟨h1,h2,h3,h4⟩:=qB4 e
  exact⟨j,h1,h,h2,h3,h4⟩
theorem yT{α:Type}{xs:List α}{j:Nat}{v:α}(h:xs[j]?=some v):atI xs (j:Int)=some v:=by
 have hj:j<xs.length:=(kC.mp h).1
 have e:ixN xs.length (j:Int)=some j:=by
  unfold ixN
  rw[kF (by omega),kF (by omega)];simp
 unfold atI;rw[e];exact h
noncomputable def qFJ(b:Expr):Prop:=∀o i,subscripted b false o i=operate [o,i] (getItem o i)
noncomputable def IxR(X:Cx)(r:R2):Prop:=
 ∀(value slice:Expr) (pins:List (Addr×Obj)) (s:Shared) (σ:St) (H:Hp) (x y:V) (v u:Value) (Q:VK),Inv X pins σ H s→RelV x v→RelV y u→r x y H Q→
  subscripted slice false v u=operate [v,u] (getItem v u)→wpAny (model X.prog X.w) X.A (subscriptTail value slice v u) (EP X pins σ Q) X.xe s
noncomputable def MtR(X:Cx)(id:String)(r:V→List V→Hp→VK→Prop):Prop:=
 ∀(pins:List (Addr×Obj)) (s:Shared) (σ:St) (H:Hp) (x:V) (xs:List V) (v:Value) (us:List Value) (Q:VK),Inv X pins σ H s→RelV x v→Vals xs us→r x xs H Q→
  wpAny (model X.prog X.w) X.A (call (.builtin id) (v::us)) (EP X pins σ Q) X.xe s
section
variable{X:Cx}{a b:Expr}{ta tb:TE}{pos:Pos}
theorem qW{r:R2}(hr:IxR X r)(ha:PE X a ta)(hb:PE X b tb)(hs:qFJ b):PE X (.Subscript a b pos) (tOp r ta tb):=by
 intro pins s σ H Q I h
 exact Subscript_ (binT ha hb I h λv u s2 x y H2 I2 rx ry q=>hr a b pins s2 σ H2 x y v u Q I2 rx ry q (hs _ _))
noncomputable def rIxL(K:PySem.W.Frag):R2:=λx y H Q=>∃p xs i v,x=.ref p∧y=.int i∧SqL K H p xs∧atI xs i=some v∧Q v H
noncomputable def rIxT(K:PySem.W.Frag):R2:=λx y H Q=>∃p xs i v,x=.ref p∧y=.int i∧SqT K H p xs∧atI xs i=some v∧Q v H
theorem qY:IxR X (rIxL X.K):=by
 intro value slice pins s σ H x y v u Q I rx ry h hs
 obtain⟨p,xs,i,z,rfl,rfl,hq,he,q⟩:=h
 cases rx
 obtain⟨t,rfl⟩:=ry
 obtain⟨its,r,pl,hz⟩:=I.list hq
 obtain⟨j,h1,h2,h3,h4,h5⟩:=q7Y he
 obtain⟨w,ew,rw'⟩:=r.get h2
 have hl:=r.length
 have hn:=q5V
 have fin:EP X pins σ Q w s:=⟨z,H,I,rw',q⟩
 by_cases h0:0≤i
 ·have hj:i.toNat=j:=by
   rw[seqIndex_of h0 h5]at h1
   exact kP h1
  exact item_listR pl.isList h0 (by omega) (by rw[hj];simpa using ew) fin hs
 ·have hj:(i+(its.toArray.size:Int)).toNat=j:=by
   rw[seqIndex_neg (by omega) h4]at h1
   rw[mF,←hl]
   exact kP h1
  exact subscriptTail_builtinR (x:=w) pl.isList.typeIs slot_list_getitem.lookup
   (wpAny_getItem_list_neg (Q:=λr s'=>r=w∧EP X pins σ Q r s') pl.isList (by omega) (by rw[mF]<;>omega) (by omega) (by rw[hj];simpa using ew) ⟨rfl,fin⟩) hs
theorem yQ:IxR X (rIxT X.K):=by
 intro value slice pins s σ H x y v u Q I rx ry h hs
 obtain⟨p,xs,i,z,rfl,rfl,hq,he,q⟩:=h
 cases rx
 obtain⟨t,rfl⟩:=ry
 obtain⟨its,r,pl,hz⟩:=I.tuple hq
 obtain⟨j,h1,h2,h3,h4,h5⟩:=q7Y he
 obtain⟨w,ew,rw'⟩:=r.get h2
 have hl:=r.length
 have hn:=q5V
 have fin:EP X pins σ Q w s:=⟨z,H,I,rw',q⟩
 exact subscriptTail_builtinR (x:=w) pl.typeIs slot_tuple_getitem.lookup
  (getItem_tuple (j:=j) (Q:=λr s'=>r=w∧EP X pins σ Q r s') pl (by omega) (by omega) (by rw[mF,←hl];exact h1) (by simpa using ew) ⟨rfl,fin⟩) hs
theorem qAB(its:List Value)(n j:Nat)(u:Value):Obj.mapSeq (·.setIfInBounds j u) { cls:=.type "list",data:=.seq its.toArray n } = { cls:=.type "list",data:=.seq (its.set j u).toArray n }:=by
 simp[Obj.mapSeq]
theorem Inv.lst{pins:List (Addr×Obj)}{σ:St}{H:Hp}{s:Shared}{p:Addr}{xs:List V}(I:Inv X pins σ H s)(h:H p=some (.lst xs)):
 ∃(its:List Value) (n:Nat),Vals xs its∧s.heap.get? p=some { cls:=.type "list",data:=.seq its.toArray n }∧xs.length≤sizeLine:=by
 obtain⟨z,its,n,r,e⟩:=I.hok p _ h
 exact⟨its,n,r,e,z⟩
theorem Inv.lstUpd{pins:List (Addr×Obj)}{σ:St}{H:Hp}{s:Shared}{p:Addr}{xs ys:List V}{its its':List Value}{n n':Nat}{f:Obj→Obj}(I:Inv X pins σ H s)(h:H p=some (.lst xs))
 (ho:s.heap.get? p=some { cls:=.type "list",data:=.seq its.toArray n }) (hf:f { cls:=.type "list",data:=.seq its.toArray n } = { cls:=.type "list",data:=.seq its'.toArray n' }) (r:Vals ys its') (hz:ys.length≤sizeLine) (t:Nat):
 Inv X pins σ (upd H p (.lst ys)) { s with heap:=s.heap.update p f,toks:=t }:=by
 have e:(s.heap.update p f).get? p=some { cls:=.type "list",data:=.seq its'.toArray n' }:=by
  rw[wP f ho (by rw[hf]<;>rfl),hf]
 refine I.write (x:=p) (e:=p) (by rw[h];trivial) (.inl rfl) (λb u hb q=>(mZ _ _ (wH hb)).trans q) ⟨_,e⟩ ?_
 exact⟨hz,its',n',r,e⟩
noncomputable def qK0:V→V→V→Hp→(Hp→Prop)→Prop:=λo i v H Q=>∃p xs k j,o=.ref p∧i=.int k∧H p=some (.lst xs)∧ixN xs.length k=some j∧Q (upd H p (.lst (xs.set j v)))
theorem yZ:PSet X qK0:=by
 intro pins s σ H o i v ov iv u Q I ro ri rv h
 obtain⟨p,xs,k,j,rfl,rfl,hp,hj,q⟩:=h
 cases ro
 obtain⟨t,rfl⟩:=ri
 obtain⟨its,n,r,ho,hz⟩:=I.lst hp
 obtain⟨h1,h2,h3,h4⟩:=qB4 hj
 have hl:=r.length
 have hn:=q5V
 have I':Inv X pins σ (upd H p (.lst (xs.set j v))) { s with heap:=s.heap.update p (Obj.mapSeq (·.setIfInBounds j u)) }:=
  I.lstUpd hp ho (qAB its n j u) (r.set rv j) (by rw[gF];exact hz) s.toks
 by_cases h0:0≤k
 ·have hk:k.toNat=j:=by
   rw[seqIndex_of h0 h4]at h1
   exact kP h1
  exact PySem.W.ki_setAt ho h0 (by omega) (by rw[mF,←hl];exact h4) (by rw[hk];exact⟨_,I',q⟩)
 ·have hk:(k+(its.toArray.size:Int)).toNat=j:=by
   rw[seqIndex_neg (by omega) h3]at h1
   rw[mF,←hl]
   exact kP h1
  exact PySem.W.ki_setBack ho (by omega) (by rw[mF,←hl];exact h3) (by omega) (by rw[hk];exact⟨_,I',q⟩)
noncomputable def q18:V→Bool
 | .non=>true
 | .bl _=>true
 | .int _=>true
 | .str _=>true
 |_=>false
noncomputable def eqV:V→V→Bool
 | .non,.non=>true
 | .bl a,.bl b=>a==b
 | .bl a,.int b=>(if a then 1 else 0)==b
 | .int a,.bl b=>a==(if b then 1 else 0)
 | .int a,.int b=>a==b
 | .str a,.str b=>a==b
 |_,_=>false
theorem qDA{A:Around}{s:Shared}{y x:V}{u v:Value}(ry:RelV y u)(rx:RelV x v)(fy:q18 y=true)(fx:q18 x=true):SeqAt.EqAt A s u v (eqV y x):=by
 cases y with
 |non=>
  cases ry
  cases x with
  |non=>cases rx;exact SeqAt.EqAt.same _
  |bl b=>cases rx;exact SeqAt.EqAt.none_bool b
  |int b=>obtain⟨t,rfl⟩:=rx;exact SeqAt.EqAt.none_int b t
  |str b=>obtain⟨t,rfl⟩:=rx;exact SeqAt.EqAt.none_str b t
  |_=>exact absurd (show false=true from fx) kQ
 |bl a=>
  cases ry
  cases x with
  |non=>cases rx;exact SeqAt.EqAt.bool_none a
  |bl b=>cases rx;exact SeqAt.EqAt.bool_bool a b
  |int b=>obtain⟨t,rfl⟩:=rx;exact SeqAt.EqAt.bool_int a b t
  |str b=>obtain⟨t,rfl⟩:=rx;exact SeqAt.EqAt.bool_str a b t
  |_=>exact absurd (show false=true from fx) kQ
 |int a=>
  obtain⟨t',rfl⟩:=ry
  cases x with
  |non=>cases rx;exact SeqAt.EqAt.int_none a t'
  |bl b=>cases rx;exact SeqAt.EqAt.int_bool a t' b
  |int b=>obtain⟨t,rfl⟩:=rx;exact SeqAt.EqAt.int_int a t' b t
  |str b=>obtain⟨t,rfl⟩:=rx;exact SeqAt.EqAt.int_str a t' b t
  |_=>exact absurd (show false=true from fx) kQ
 |str a=>
  obtain⟨t',rfl⟩:=ry
  cases x with
  |non=>cases rx;exact SeqAt.EqAt.str_none a t'
  |bl b=>cases rx;exact SeqAt.EqAt.str_bool a t' b
  |int b=>obtain⟨t,rfl⟩:=rx;exact SeqAt.EqAt.str_int a t' b t
  |str b=>obtain⟨t,rfl⟩:=rx;exact SeqAt.EqAt.str_str a t' b t
  |_=>exact absurd (show false=true from fx) kQ
 |_=>exact absurd (show false=true from fy) kQ
noncomputable def eqU(x:V)(u:Value):Bool:=match u with
 | .none=>eqV .non x
 | .bool b=>eqV (.bl b) x
 | .int i _=>eqV (.int i) x
 | .str z _=>eqV (.str z) x
 |_=>false
theorem qDB{x y:V}{u:Value}(r:RelV y u)(f:q18 y=true):eqU x u=eqV y x:=by
 cases y with
 |non=>cases r;rfl
 |bl b=>cases r;rfl
 |int i=>obtain⟨t,rfl⟩:=r;rfl
 |str z=>obtain⟨t,rfl⟩:=r;rfl
 |_=>exact absurd (show false=true from f) kQ
theorem q3M{x:V}:∀{xs:List V} {us:List Value},Vals xs us→xs.all q18=true→us.any (eqU x)=xs.any λy=>eqV y x
 |_,_,.nil,_=>rfl
 |y::xs,u::us,.cons r t,f=>by
  rw[List.all_cons,mO]at f
  rw[r9,r9,qDB r f.1,q3M t f.2]
theorem q1F{A:Around}{s:Shared}{x:V}{v:Value}(rx:RelV x v)(fx:q18 x=true):∀{xs:List V} {us:List Value},Vals xs us→xs.all q18=true→∀u∈us,SeqAt.EqAt A s u v (eqU x u)
 |_,_,.nil,_=>λu hu=>by cases hu
 |y::xs,u::us,.cons r t,f=>λu' hu=>by
  rw[List.all_cons,mO]at f
  rcases kL.mp hu with rfl|hu
  ·rw[qDB r f.1];exact qDA r rx f.1 fx
  ·exact q1F rx fx t f.2 u' hu
noncomputable def inV(x:V)(xs:List V):Bool:=xs.any λy=>eqV y x
noncomputable def rIn(K:PySem.W.Frag)(neg:Bool):R2:=λx y H Q=>∃p xs,y=.ref p∧(SqL K H p xs∨SqT K H p xs)∧q18 x=true∧xs.all q18=true∧Q (.bl (if neg then !inV x xs else inV x xs)) H
theorem qC9:OpR X (compareOp .In) (rIn X.K false):=by
 intro pins s σ H x y v u Q I rx ry h
 obtain⟨p,xs,rfl,hq,fx,fs,q⟩:=h
 cases ry
 rcases hq with hq|hq
 ·obtain⟨its,r,pl,hz⟩:=I.list hq
  refine SeqAt.in_listAt (eqU x) pl.isList (λw hw=>q1F rx fx r fs w (by simpa using hw)) ⟨.bl _,H,I,rfl,?_⟩
  rw[show its.toArray.any (eqU x)=its.any (eqU x) by simp,q3M r fs]
  exact q
 ·obtain⟨its,r,pl,hz⟩:=I.tuple hq
  refine SeqAt.in_tupleAt (eqU x) pl (λw hw=>q1F rx fx r fs w (by simpa using hw)) ⟨.bl _,H,I,rfl,?_⟩
  rw[show its.toArray.any (eqU x)=its.any (eqU x) by simp,q3M r fs]
  exact q
theorem q3N:OpR X (compareOp .NotIn) (rIn X.K true):=by
 intro pins s σ H x y v u Q I rx ry h
 obtain⟨p,xs,rfl,hq,fx,fs,q⟩:=h
 cases ry
 rcases hq with hq|hq
 ·obtain⟨its,r,pl,hz⟩:=I.list hq
  refine SeqAt.notIn_listAt (eqU x) pl.isList (λw hw=>q1F rx fx r fs w (by simpa using hw)) ⟨.bl _,H,I,rfl,?_⟩
  rw[show its.toArray.any (eqU x)=its.any (eqU x) by simp,q3M r fs]
  exact q
 ·obtain⟨its,r,pl,hz⟩:=I.tuple hq
  refine SeqAt.notIn_tupleAt (eqU x) pl (λw hw=>q1F rx fx r fs w (by simpa using hw)) ⟨.bl _,H,I,rfl,?_⟩
  rw[show its.toArray.any (eqU x)=its.any (eqU x) by simp,q3M r fs]
  exact q
theorem jD:q17 X (.builtin "len") (λxs H Q=>∃p ys,xs=[.ref p]∧(SqL X.K H p ys∨SqT X.K H p ys)∧Q (.int ys.length) H):=by
 intro pins s σ H xs us Q I r h
 obtain⟨p,ys,rfl,hq,q⟩:=h
 obtain⟨u,rfl,rx⟩:=q3L r
 cases rx
 have hn:=q5V
 rcases hq with hq|hq
 ·obtain⟨its,r',pl,hz⟩:=I.list hq
  have hlen:=r'.length
  exact Calls.call_len_list pl.isList (by simp only[mF]<;>omega) ⟨.int ys.length,H,I.tok _,⟨s.toks+1,by rw[mF,hlen]⟩,q⟩
 ·obtain⟨its,r',pl,hz⟩:=I.tuple hq
  have hlen:=r'.length
  exact len_tuple pl (by simp only[mF]<;>omega) ⟨.int ys.length,H,I.tok _,⟨s.toks+1,by rw[mF,hlen]⟩,q⟩
theorem q7Z:q17 X (.type "list") (λxs H Q=>∃p ys,xs=[.ref p]∧(SqL X.K H p ys∨SqT X.K H p ys)∧∀l,H l=none→Q (.ref l) (upd H l (.lst ys))):=by
 intro pins s σ H xs us Q I r h
 obtain⟨p,ys,rfl,hq,q⟩:=h
 obtain⟨u,rfl,rx⟩:=q3L r
 cases rx
 have fin:∀(its:List Value),Vals ys its→ys.length≤sizeLine→∀(h':Heap) (c':Nat),(∀b o',s.heap.get? b=some o'→h'.get? b=some o')→
  h'.get? s.heap.objs.size=some { cls:=.type "list",dict:=none,data:=.seq its.toArray c',slots:=#[] }→EP X pins σ Q (.ref s.heap.objs.size) { s with heap:=h' }:=λits r' hz h' c' kp e=>
  ⟨.ref s.heap.objs.size,_,I.laid (t':=s.toks) kp (kN _) (show jK X.prog X.w _ h' _ (.lst ys)from⟨hz,its,c',r',e⟩),rfl,q _ (I.hok.fresh (kN _))⟩
 rcases hq with hq|hq
 ·obtain⟨its,r',pl,hz⟩:=I.list hq
  have hlen:=r'.length
  obtain⟨o,ho,hc,n,hd⟩:=pl.isList
  exact call_list_seq p (.inl rfl) ho hc hd (λh' c' kp e=>fin its r' hz h' c' kp e) (by simp only[mF]<;>omega)
 ·obtain⟨its,r',pl,hz⟩:=I.tuple hq
  have hlen:=r'.length
  obtain⟨o,ho,hc,n,hd⟩:=pl
  exact call_list_seq p (.inr rfl) ho hc hd (λh' c' kp e=>fin its r' hz h' c' kp e) (by simp only[mF]<;>omega)
noncomputable def tyV(K:PySem.W.Frag)(T:String)(x:V)(H:Hp):Prop:=match x with
 | .str _=>T="str"
 | .int _=>T="int"
 | .ref p=>(T="list"∧∃xs,SqL K H p xs)∨(T="tuple"∧∃o,K.lookup p=some o∧o.cls=.type "tuple"∧o.dict=none)∨
   (T="dict"∧((∃kvs,H p=some (.dK kvs))∨∃kvs,H p=some (.dT kvs)))∨(T="set"∧∃S n,H p=some (.set S n))
 |_=>False
theorem qDC{pins:List (Addr×Obj)}{σ:St}{H:Hp}{s:Shared}{T:String}{x:V}{v:Value}(I:Inv X pins σ H s)(r:RelV x v)(ty:tyV X.K T x H):
 s.TypeIs v T∧∀a,v=.ref a→∃ob,s.heap.get? a=some ob∧ob.dict=none:=by
 cases x with
 |str z=>
  obtain⟨t,rfl⟩:=r
  cases(show T="str" from ty)
  exact⟨typeIs_str s z t,λ_ e=>nomatch e⟩
 |int i=>
  obtain⟨t,rfl⟩:=r
  cases(show T="int" from ty)
  exact⟨typeIs_int s i t,λ_ e=>nomatch e⟩
 |ref p=>
  cases r
  rcases ty with⟨rfl,xs,hq⟩|⟨rfl,o,hk,hc,hd⟩|⟨rfl,hk⟩|⟨rfl,S,n,hk⟩
  ·obtain⟨its,_,pl,_⟩:=I.list hq
   refine⟨pl.isList.typeIs,λa e=>?_⟩
   cases e
   obtain⟨o,n,e,c,hd,_⟩:=pl
   exact⟨o,e,hd⟩
  ·refine⟨⟨o,I.kIn p o hk,hc⟩,λa e=>?_⟩
   cases e
   exact⟨o,I.kIn _ o hk,hd⟩
  ·have z:∃o,s.heap.get? p=some o∧o.ExactDict:=by
    rcases hk with⟨kvs,hk⟩|⟨kvs,hk⟩
    ·obtain⟨_,_,_,_,o,_,_,e,ex,_⟩:=I.hok p _ hk
     exact⟨o,e,ex⟩
    ·obtain⟨_,_,_,_,o,_,_,e,ex,_⟩:=I.hok p _ hk
     exact⟨o,e,ex⟩
   obtain⟨o,e,ex⟩:=z
   refine⟨⟨o,e,ex.1⟩,λa e2=>?_⟩
   cases e2
   exact⟨o,e,ex.2.1⟩
  ·obtain⟨o,_,_,_,e,ex,_⟩:=I.hok p _ hk
   refine⟨⟨o,e,ex.1⟩,λa e2=>?_⟩
   cases e2
   exact⟨o,e,ex.2.1⟩
 |_=>exact False.elim ty
noncomputable def tBM0(K:PySem.W.Frag)(T:String)(r:V→List V→Hp→VK→Prop)(to:TE):TE:=λσ H Q=>to σ H λx H1=>tyV K T x H1∧r x [] H1 Q
noncomputable def tBM(K:PySem.W.Frag)(T:String)(r:V→List V→Hp→VK→Prop)(to:TE)(t:TA):TE:=λσ H Q=>to σ H λx H1=>tyV K T x H1∧t σ H1 λxs H2=>r x xs H2 Q
variable{o e:Expr}{es:List Expr}{to:TE}{t:TA}{name:Str}{apos cpos:Pos}{T id:String}{r:V→List V→Hp→VK→Prop}
theorem qDD(pa:PlainAttrs T)(slot:Slot T name id)(hty:typeOf (.builtin id)=pure (.type "method_descriptor"))(hm:MtR X id r)(ho:PE X o to)
 (hbase:attributeBase o name X.env (eval o X.env)=eval o X.env:=by rfl) (hline:(apos.endLine==cpos.line)=true:=by rfl):PE X (.Call (.Attribute o name apos) [] [] cpos) (tBM0 X.K T r to):=by
 intro pins s σ H Q I h
 refine wpAny_Call_method0_late hbase hline (thn (ho pins s σ H _ I h) λv s1 hZ=>?_)
 obtain⟨x,H1,I1,r1,ty,q1⟩:=hZ
 obtain⟨h1,h2⟩:=qDC I1 r1 ty
 exact⟨T,id,pa,slot,hty,h1,h2,d9 rfl (PySem.evalArgs_none (hm pins s1 σ H1 x [] v [] Q I1 r1 .nil q1))⟩
theorem qB5(pa:PlainAttrs T)(slot:Slot T name id)(hty:typeOf (.builtin id)=pure (.type "method_descriptor"))(hm:MtR X id r)(ho:PE X o to)(ha:PA X (e::es) t)
 (hbase:attributeBase o name X.env (eval o X.env)=eval o X.env:=by rfl)
 (hfew:((backTo cpos (starEach (e::es) X.env)).all (λx=>!x.1)&&(backToKw cpos (keywordEach [] X.env)).all (λx=>x.1.isSome)
  &&decide ((e::es).length+([]:List Keyword).length+(if([]:List Keyword).isEmpty then 0 else 1)<30))=true:=by rfl)
 (hline:(apos.endLine==cpos.line)=true:=by rfl) (hs:starEach (e::es) X.env=(false,eval e X.env)::starEach es X.env:=by rfl) (hplain:(backTo cpos (starEach es X.env)).any (·.1)=false:=by rfl):
 PE X (.Call (.Attribute o name apos) (e::es) [] cpos) (tBM X.K T r to t):=by
 intro pins s σ H Q I h
 refine wpAny_Call_method_late hbase hfew hline rfl (thn (ho pins s σ H _ I h) λv s1 hZ=>?_)
 obtain⟨x,H1,I1,r1,ty,q1⟩:=hZ
 obtain⟨h1,h2⟩:=qDC I1 r1 ty
 refine⟨T,id,pa,slot,hty,h1,h2,?_⟩
 have hA:=ha cpos pins s1 σ H1 _ I1 q1
 rw[hs]at hA ⊢
 refine d9 (by show(false||(backTo cpos (starEach es X.env)).any (·.1))=false;rw[hplain]<;>rfl) (wY ?_)
 exact thn hA λus s2 ⟨vs,H2,I2,r2,q2⟩=>hm pins s2 σ H2 x vs v us Q I2 r1 r2 q2
end
noncomputable def MtM(X:Cx)(id:String)(r:V→List V→Hp→VK→Prop):Prop:=
 ∀(pins:List (Addr×Obj)) (s:Shared) (σ:St) (H:Hp) (x:V) (xs:List V) (v:Value) (us:List Value) (Q:VK),Inv X pins σ H s→RelV x v→Vals xs us→r x xs H Q→
  wpAny (model X.prog X.w) X.A (call (.builtin id) (v::us)) (EP X pins σ Q) X.xe s
theorem Vals.one{x:V}{us:List Value}(h:Vals [x] us):∃u,us=[u]∧RelV x u:=by
 cases h with
 |cons r t=>
  cases t
  exact⟨_,rfl,r⟩
theorem Vals.zero:∀{us:List Value},Vals [] us→us=[]
 |_,.nil=>rfl
theorem Vals.rep{xs:List V}{us:List Value}(h:Vals xs us):∀k:Nat,Vals (List.replicate k xs).flatten (List.replicate k us).flatten
 |0=>.nil
 |k+1=>by
  rw[dE,dE,wS,wS]
  exact Vals.append h (Vals.rep h k)
theorem q7K(its:List Value):∀(k:Nat) (acc:List Value),
 List.foldl (λx1 x2=>x1++x2) acc.toArray (List.replicate k its.toArray)=(acc++(List.replicate k its).flatten).toArray
 |0,acc=>by simp
 |k+1,acc=>by
  have e:acc.toArray++its.toArray=(acc++its).toArray:=by simp
  have e2:(acc++its)++(List.replicate k its).flatten=acc++(List.replicate (k+1) its).flatten:=by
   rw[dE,wS,cQ]
  rw[←e2,←q7K its k (acc++its),←e,dE,sT]
section
variable{X:Cx}{pins:List (Addr×Obj)}{σ:St}{H:Hp}{s:Shared}{l b:Addr}{xs ys zs:List V}
theorem Inv.lset{its its':List Value}{n:Nat}{f:Array Value→Array Value}{t':Nat}(I:Inv X pins σ H s)(hH:H l=some (.lst xs))
 (e:s.heap.get? l=some { cls:=.type "list",data:=.seq its.toArray n }) (hf:f its.toArray=its'.toArray) (hv:Vals ys its') (hz:ys.length≤sizeLine):
 Inv X pins σ (upd H l (.lst ys)) { s with heap:=s.heap.update l (Obj.mapSeq f),toks:=t' }:=by
 have q:=PySem.IsL.update e f
 rw[hf]at q
 refine I.write (x:=l) (e:=l) (by rw[hH];exact trivial) (.inl rfl) (λb' u hb hu=>(mZ s.heap (Obj.mapSeq f) (wH hb)).trans hu) ⟨_,q⟩ ?_
 exact⟨hz,its',_,hv,q⟩
theorem Inv.lnew{its:List Value}{t':Nat}(I:Inv X pins σ H s)(hv:Vals ys its)(hz:ys.length≤sizeLine):
 Inv X pins σ (upd H s.heap.objs.size (.lst ys)) { s with heap:=s.heap.push { cls:=.type "list",data:=.seq its.toArray },toks:=t' }:=
 I.laid (λ_ _ q=>kE _ q) (kN _) ⟨hz,its,0,hv,mK _ rfl⟩
theorem Inv.fresh(I:Inv X pins σ H s):H s.heap.objs.size=none:=I.hok.fresh (kN _)
theorem Inv.lstM(I:Inv X pins σ H s)(hH:H l=some (.lst xs)):xs.length≤sizeLine∧∃(its:List Value) (n:Nat),Vals xs its∧xs.length=its.length∧s.heap.get? l=some { cls:=.type "list",data:=.seq its.toArray n }:=by
 obtain⟨z,its,n,r,e⟩:=I.hok l _ hH
 exact⟨z,its,n,r,r.length,e⟩
theorem qDE{n:Nat}(h:n≤sizeLine):Builtin.List.listTooLong n=false:=by
 unfold Builtin.List.listTooLong
 exact hG (by omega)
end
section
variable{X:Cx}
noncomputable def qFK:V→List V→Hp→VK→Prop:=λx vs H Q=>∃l xs y,x=.ref l∧vs=[y]∧H l=some (.lst xs)∧xs.length<sizeLine∧Q .non (upd H l (.lst (xs++[y])))
theorem vV:MtM X "list.append" qFK:=by
 intro pins s σ H x vs v us Q I rx rv h
 obtain⟨l,xs,y,rfl,rfl,hH,hz,q⟩:=h
 cases rx
 obtain⟨u,rfl,ru⟩:=rv.one
 obtain⟨z,its,n,r,hl,e⟩:=I.lstM hH
 refine call_meets F.slot_list_append ⟨_,e,rfl⟩ F.entry_list_append (F.args_list_append_2 _ _) (PySem.list_append l its.toArray n u (by rw[mF];omega)) ⟨e,?_⟩
 refine⟨.non,_,I.lset (its':=its++[u]) hH e (by simp) (r.append (.cons ru .nil)) ?_,rfl,q⟩
 rw[mC,gD]
 omega
noncomputable def rRep:R2:=λx y H Q=>∃l k xs,x=.ref l∧y=.int k∧H l=some (.lst xs)∧-(2 ^ 63)≤k∧k<2 ^ 63∧xs.length*k.toNat≤sizeLine∧
 ∀p,H p=none→Q (.ref p) (upd H p (.lst (List.replicate k.toNat xs).flatten))
theorem qFL{α:Type}(xs:List α)(k:Nat):(List.replicate k xs).flatten.length=k*xs.length:=by
 induction k with
 |zero=>simp
 |succ k ih=>rw[dE,wS,mC,ih,wK,Nat.add_comm]
theorem qHZ:OpR X (binaryOp .Mult) rRep:=by
 intro pins s σ H x y v u Q I rx ry h
 obtain⟨l,k,xs,rfl,rfl,hH,h1,h2,hz,q⟩:=h
 cases rx
 obtain⟨t,rfl⟩:=ry
 obtain⟨z,its,n,r,hl,e⟩:=I.lstM hH
 have hlen:its.toArray.size*k.toNat≤sizeLine:=by rw[mF,←hl];exact hz
 have hcap:¬its.toArray.size*k.toNat>(2 ^ 63-1) / 8:=by
  have:(sizeLine:Nat)≤(2 ^ 63-1) / 8:=by decide
  omega
 have hfit:¬(!Builtin.List.listFitsIndex k)=true:=by
  rw[fitsIndex_both h1 h2]
  exact kQ
 have hlong:¬Builtin.List.listTooLong (its.toArray.size*k.toNat)=true:=by
  rw[qDE hlen]
  exact kQ
 have hnew:List.foldl (λx1 x2=>x1++x2) #[] (List.replicate (if its.toArray.isEmpty=true then 0 else k.toNat) its.toArray)=(List.replicate k.toNat its).flatten.toArray:=by
  have f0:∀m:Nat,List.foldl (λx1 x2=>x1++x2) #[] (List.replicate m its.toArray)=(List.replicate m its).flatten.toArray:=λm=>by
   have:=q7K its m []
   rw[rS]at this
   exact this
  rw[f0]
  cases its with
  |nil=>simp
  |cons a r'=>rw[kB (by simp)]
 refine wpAny_binaryOp_repeat_ref (T:="list") (U:="int") (by decide) ⟨_,e,rfl⟩ (λs'=>typeIs_int s' k t) noFill_list_mul F.fills_int_mul F.slot_int_rmul repeat_list F.slot_int_index.lookup
  (call_meets F.slot_int_rmul (typeIs_int s k t) F.entry_int_rmul (F.args_int_rmul_2 _ _) (int___rmul___int_list k t l its.toArray n)
   ⟨e,rfl,⟨_,e,rfl⟩,call_meets F.slot_list_mul ⟨_,e,rfl⟩ F.entry_list_mul (F.args_list_mul_2 _ _) (AutoListH.list___mul___list_int_3 l its.toArray n k t hfit hcap hlong) ⟨e,?_⟩⟩)
 rw[hnew]
 exact⟨.ref _,_,I.lnew (t':=s.toks) (r.rep k.toNat) (by rw[qFL,wL];exact hz),rfl,q _ I.fresh⟩
end
section
variable{κ:Type}[DecidableEq κ]
noncomputable def valV(kvs:List (κ×V))(k:κ):Option V:=(kvs.find? λkv=>decide (kv.1=k)).map (·.2)
noncomputable def putK(kvs:List (κ×V))(k:κ)(v:V):List (κ×V):=
 if(kvs.any λkv=>decide (kv.1=k))=true then kvs.map (λkv=>if kv.1=k then(kv.1,v)else kv)else kvs++[(k,v)]
noncomputable def q4Z(kvs:List (κ×V))(k:κ):List (κ×V):=kvs.filter λkv=>decide (kv.1≠k)
theorem q08{p:κ×V}{r:List (κ×V)}{k:κ}(e:p.1=k):valV (p::r) k=some p.2:=by simp[valV,dH,e]
theorem vF{p:κ×V}{r:List (κ×V)}{k:κ}(e:¬p.1=k):valV (p::r) k=valV r k:=by simp[valV,dH,e]
theorem q96(k:κ):∀kvs:List (κ×V),(kvs.any λkv=>decide (kv.1=k))=(valV kvs k).isSome
 | []=>rfl
 |p::r=>by
  rw[r9]
  by_cases e:p.1=k
  ·simp only[q08 e,hC e,Bool.true_or,Option.isSome_some]
  ·rw[vF e,hG e,Bool.false_or];exact q96 k r
theorem q50(kvs:List (κ×V))(k:κ)(v:V):(putK kvs k v).length≤kvs.length+1:=by
 unfold putK
 split
 ·rw[hI];omega
 ·rw[mC,mQ,pG];omega
theorem RelO.isSome_eq{o:Option V}{u:Option Value}(r:RelO o u):o.isSome=u.isSome:=by
 cases o with
 |none=>cases u with
  |none=>rfl
  |some _=>exact(show False from r).elim
 |some _=>cases u with
  |none=>exact(show False from r).elim
  |some _=>rfl
theorem RelO.getD{o:Option V}{u:Option Value}{d:V}{d':Value}(r:RelO o u)(rd:RelV d d'):RelV (o.getD d) (u.getD d'):=by
 cases o with
 |none=>cases u with
  |none=>exact rd
  |some _=>exact(show False from r).elim
 |some _=>cases u with
  |none=>exact(show False from r).elim
  |some _=>exact r
theorem KV.val{kvs:List (κ×V)}{vs:List (κ×Value)}(r:KV kvs vs)(k:κ):RelO (valV kvs k) (valueAt vs k):=by
 unfold KV at r
 induction r with
 |nil=>exact True.intro
 |@cons p q ps qs h t ih=>
  obtain⟨h1,h2⟩:=h
  by_cases e:p.1=k
  ·have e':q.1=k:=h1.symm.trans e
   have b:valueAt (q::qs) k=some q.2:=by simp[valueAt,dH,e']
   rw[q08 e,b];exact h2
  ·have e':¬q.1=k:=λz=>e (h1.trans z)
   have b:valueAt (q::qs) k=valueAt qs k:=by simp[valueAt,dH,e']
   rw[vF e,b];exact ih
theorem KV.any{kvs:List (κ×V)}{vs:List (κ×Value)}(r:KV kvs vs)(k:κ):(kvs.any λkv=>decide (kv.1=k))=vs.any λkv=>decide (kv.1=k):=by
 unfold KV at r
 induction r with
 |nil=>rfl
 |cons h t ih=>rw[r9,r9,ih,h.1]
theorem KV.repl{kvs:List (κ×V)}{vs:List (κ×Value)}(r:KV kvs vs)(k:κ){y:V}{u:Value}(ry:RelV y u):
 KV (kvs.map λkv=>if kv.1=k then(kv.1,y)else kv) (vs.map λkv=>if kv.1=k then(kv.1,u)else kv):=by
 unfold KV at r ⊢
 induction r with
 |nil=>exact .nil
 |@cons p q ps qs h t ih=>
  rw[mG,mG]
  refine .cons ?_ ih
  obtain⟨h1,h2⟩:=h
  by_cases e:p.1=k
  ·rw[kF e,kF (h1.symm.trans e)];exact⟨h1,ry⟩
  ·rw[kB e,kB (λz=>e (h1.trans z))];exact⟨h1,h2⟩
theorem KV.put{kvs:List (κ×V)}{vs:List (κ×Value)}(r:KV kvs vs)(k:κ){y:V}{u:Value}(ry:RelV y u):KV (putK kvs k y) (stored vs k u):=by
 unfold putK stored
 rw[r.any k]
 by_cases e:(vs.any λkv=>decide (kv.1=k))=true
 ·rw[kF e,kF e];exact r.repl k ry
 ·rw[kB e,kB e];exact Paired.snoc r ⟨rfl,ry⟩
theorem KV.drop{kvs:List (κ×V)}{vs:List (κ×Value)}(r:KV kvs vs)(k:κ):KV (q4Z kvs k) (without vs k):=by
 unfold KV at r ⊢
 unfold q4Z without
 induction r with
 |nil=>exact .nil
 |@cons p q ps qs h t ih=>
  obtain⟨h1,h2⟩:=h
  rw[mR,mR]
  by_cases e:p.1=k
  ·have a:¬decide (p.1≠k)=true:=by simp[e]
   have b:¬decide (q.1≠k)=true:=by simp[h1.symm.trans e]
   rw[kB a,kB b];exact ih
  ·have e':¬q.1=k:=λz=>e (h1.trans z)
   have a:decide (p.1≠k)=true:=by simp[e]
   have b:decide (q.1≠k)=true:=by simp[e']
   rw[kF a,kF b];exact .cons ⟨h1,h2⟩ ih
theorem KV.keys{kvs:List (κ×V)}{vs:List (κ×Value)}(r:KV kvs vs):kvs.map (·.1)=vs.map (·.1):=by
 unfold KV at r
 induction r with
 |nil=>rfl
 |cons h t ih=>rw[mG,mG,ih,h.1]
theorem KV.length{kvs:List (κ×V)}{vs:List (κ×Value)}(r:KV kvs vs):kvs.length=vs.length:=Paired.length r
theorem qDF(kvs:List (κ×V))(k:κ):(q4Z kvs k).length≤kvs.length:=mD _ _
end
theorem q5Z{P:Program}{w:World}{k:Key}{u:Value}(r:RelV (kV k) u):(jN P w).is k u=true:=by
 cases k with
 |inl i=>obtain⟨t,e⟩:=(show ∃t,u=Value.int i t from r);subst e;exact q8W P w i t
 |inr x=>obtain⟨t,e⟩:=(show ∃t,u=Value.str x t from r);subst e;exact q8X P w x t
theorem q7L{P:Program}{w:World}:∀{ks:List Key} {us:List Value},Vals (ks.map kV) us→ItemsAre (jN P w) ks us
 | [],_,r=>by rw[List.map_nil]at r;cases r;exact .nil
 |k::ks,_,r=>by
  rw[mG]at r
  cases r with
  |cons h t=>exact .cons (q5Z h) (q7L t)
noncomputable abbrev KT(H:Hp):List (List Key×V)→List (List Key×Addr×Value)→Prop:=Paired λp q=>p.1=q.1∧H q.2.1=some (.tup (p.1.map kV))∧RelV p.2 q.2.2
theorem KT.val{H:Hp}{kvs:List (List Key×V)}{xs:List (List Key×Addr×Value)}(r:KT H kvs xs)(k:List Key):RelO (valV kvs k) ((atKey xs k).map (·.2)):=by
 induction r with
 |nil=>exact True.intro
 |@cons p q ps qs h t ih=>
  obtain⟨h1,_,h2⟩:=h
  by_cases e:p.1=k
  ·have e':q.1=k:=h1.symm.trans e
   have b:atKey (q::qs) k=some q.2:=by simp[atKey,dH,e']
   rw[q08 e,b];exact h2
  ·have e':¬q.1=k:=λz=>e (h1.trans z)
   have b:atKey (q::qs) k=atKey qs k:=by simp[atKey,dH,e']
   rw[vF e,b];exact ih
theorem KT.repl{H:Hp}{kvs:List (List Key×V)}{xs:List (List Key×Addr×Value)}(r:KT H kvs xs)(k:List Key){y:V}{u:Value}(ry:RelV y u):
 KT H (kvs.map λkv=>if kv.1=k then(kv.1,y)else kv) (xs.map (putAt k u)):=by
 induction r with
 |nil=>exact .nil
 |@cons p q ps qs h t ih=>
  rw[mG,mG]
  refine .cons ?_ ih
  obtain⟨h1,h2,h3⟩:=h
  unfold putAt
  by_cases e:p.1=k
  ·rw[kF e,kF (h1.symm.trans e)];exact⟨h1,h2,ry⟩
  ·rw[kB e,kB (λz=>e (h1.trans z))];exact⟨h1,h2,h3⟩
theorem KT.put{H:Hp}{kvs:List (List Key×V)}{xs:List (List Key×Addr×Value)}(r:KT H kvs xs)(k:List Key){b:Addr}{y:V}{u:Value}(hb:H b=some (.tup (k.map kV)))(ry:RelV y u):
 KT H (putK kvs k y) (storedH xs k b u):=by
 have e:(kvs.any λkv=>decide (kv.1=k))=(atKey xs k).isSome:=by
  rw[q96,(r.val k).isSome_eq,cR]
 unfold putK storedH
 rw[e]
 by_cases q:(atKey xs k).isSome=true
 ·rw[kF q,kF q];exact r.repl k ry
 ·rw[kB q,kB q];exact Paired.snoc r ⟨rfl,hb,ry⟩
theorem KT.keeps{H H':Hp}{kvs:List (List Key×V)}{xs:List (List Key×Addr×Value)}(r:KT H kvs xs)(ht:∀b ys,H b=some (.tup ys)→H' b=some (.tup ys)):KT H' kvs xs:=
 Paired.mapP r λ_ _ z=>⟨z.1,ht _ _ z.2.1,z.2.2⟩
section
variable{P:Program}{w:World}{H:Hp}{h:Heap}{a:Addr}
theorem qH8{u:HO}(ok:HOk P w H h)(e:Rd H a u):jK P w H h a u:=e.ok ok
theorem q60{kvs:List (Key×V)}(ok:HOk P w H h)(e:Rd H a (.dK kvs)):kvs.length≤sizeLine∧(a==sysModules)=false∧∃vs,KV kvs vs∧h.DictOf (jN P w) a vs:=
 show jK P w H h a (.dK kvs)from qH8 ok e
theorem q3O{kvs:List (Key×V)}(ok:HOk P w H h)(e:H a=some (.dK kvs)):kvs.length≤sizeLine∧(a==sysModules)=false∧∃vs,KV kvs vs∧h.DictOf (jN P w) a vs:=q60 ok (.inl e)
theorem q61{ks:List Key}(ok:HOk P w H h)(e:H a=some (.tup (ks.map kV))):(tupleKind (jN P w)).is h ks a:=by
 obtain⟨_,its,r,o,h1,h2,n,h3⟩:=(show jK P w H h a (.tup (ks.map kV))from ok a _ e)
 exact⟨o,its.toArray,n,h1,h2,h3,by simpa using q7L r⟩
theorem q7M{kvs:List (List Key×V)}(ok:HOk P w H h)(e:Rd H a (.dT kvs)):kvs.length≤sizeLine∧(a==sysModules)=false∧
 ∃xs,KT H kvs xs∧h.DictOfH (tupleKind (jN P w)) a xs:=by
 obtain⟨z,y,xs,r,o,es,ep,h1,h2,h3,h4,h5⟩:=(show jK P w H h a (.dT kvs)from qH8 ok e)
 refine⟨z,y,xs,r,o,es,ep,h1,h2,h3,h4,λx hx=>?_,h5⟩
 have all:∀{l:List (List Key×V)} {m:List (List Key×Addr×Value)},KT H l m→∀x∈m,(tupleKind (jN P w)).is h x.1 x.2.1:=by
  intro l m q
  induction q with
  |nil=>intro x hx;exact nomatch hx
  |@cons p q ps qs hq t ih=>
   intro x hx
   rcases kL.mp hx with e|hx
   ·subst e
    exact q61 ok (by rw[←hq.1];exact hq.2.1)
   ·exact ih x hx
 exact all r x hx
theorem qK1{kvs:List (List Key×V)}(ok:HOk P w H h)(e:H a=some (.dT kvs)):kvs.length≤sizeLine∧(a==sysModules)=false∧
 ∃xs,KT H kvs xs∧h.DictOfH (tupleKind (jN P w)) a xs:=q7M ok (.inl e)
end
noncomputable def DGet(H:Hp)(a:Addr)(y:V)(r:Option V):Prop:=
 (∃kvs k,Rd H a (.dK kvs)∧y=kV k∧r=valV kvs k)∨∃kvs k b,Rd H a (.dT kvs)∧y=.ref b∧H b=some (.tup (k.map kV))∧r=valV kvs k
noncomputable def DPut(H:Hp)(a:Addr)(y v:V)(H':Hp):Prop:=
 (∃kvs k,H a=some (.dK kvs)∧y=kV k∧kvs.length<sizeLine∧H'=upd H a (.dK (putK kvs k v)))∨
 ∃kvs k b,H a=some (.dT kvs)∧y=.ref b∧H b=some (.tup (k.map kV))∧kvs.length<sizeLine∧H'=upd H a (.dT (putK kvs k v))
theorem DGet.k{H:Hp}{a:Addr}{kvs:List (Key×V)}{k:Key}(e:H a=some (.dK kvs)):DGet H a (kV k) (valV kvs k):=.inl ⟨kvs,k,.inl e,rfl,rfl⟩
section
variable{X:Cx}{pins:List (Addr×Obj)}{σ:St}{H:Hp}{s:Shared}{a:Addr}{y v:V}{u r:Value}{o:Option V}{A:Around}{E:Value→Shared→Prop}
theorem Inv.big(I:Inv X pins σ H s):sysModules<s.heap.objs.size:=by
 have h:mainGlobals<s.heap.objs.size:=(I.mod.glob.keeps I.bk).lt
 exact Nat.lt_trans (by decide) h
theorem qCA{Q:Value→Shared→Prop}(hu:A.units+1<cLine)(I:Inv X pins σ H s)(g:DGet H a y (some v))(ry:RelV y u)(h:∀w' s',Inv X pins σ H s'→RelV v w'→Q w' s'):
 wpAny (model X.prog X.w) A (getItem (.ref a) u) Q E s:=by
 rcases g with⟨kvs,k,e,ey,l⟩|⟨kvs,k,b,e,ey,eb,l⟩
 ·subst ey
  obtain⟨z,hd,vs,rel,dd⟩:=q60 I.hok e
  obtain⟨w',hw,rw'⟩:=RelO.some_of (v:=v) (o:=valueAt vs k) (by rw[l];exact rel.val k)
  exact wpAny_getItem_of (q5Z ry) dd.mapOf hw (h w' _ (I.tok _) rw')
 ·subst ey
  cases(show u=Value.ref b from ry)
  obtain⟨z,hd,xs,rel,dd⟩:=q7M I.hok e
  obtain⟨w',hw,rw'⟩:=RelO.some_of (v:=v) (o:=(atKey xs k).map (·.2)) (by rw[l];exact rel.val k)
  obtain⟨p,hp,hp2⟩:=mU.mp hw
  refine wpAny_getItem_heap (cH hu) (q61 I.hok eb) dd hp ?_
  rw[hp2]
  exact h w' _ (I.tok _) rw'
theorem d_in{Q:Value→Shared→Prop}(hu:A.units+1<cLine)(I:Inv X pins σ H s)(g:DGet H a y o)(ry:RelV y u)(h:∀s',Inv X pins σ H s'→Q (.bool o.isSome) s'):
 wpAny (model X.prog X.w) A (compareOp .In u (.ref a)) Q E s:=by
 rcases g with⟨kvs,k,e,ey,l⟩|⟨kvs,k,b,e,ey,eb,l⟩
 ·subst ey
  obtain⟨z,hd,vs,rel,dd⟩:=q60 I.hok e
  refine wpAny_in_of (q5Z ry) hd dd.mapOf ?_
  rw[←(rel.val k).isSome_eq,←l]
  exact h _ (I.tok _)
 ·subst ey
  cases(show u=Value.ref b from ry)
  obtain⟨z,hd,xs,rel,dd⟩:=q7M I.hok e
  refine wpAny_in_heap (cH hu) (q61 I.hok eb) hd dd ?_
  have q:=(rel.val k).isSome_eq
  rw[cR]at q
  rw[←q,←l]
  exact h _ (I.tok _)
theorem q80{h':Heap}{t':Nat}{ob:HO}(I:Inv X pins σ H s)(mu:Mut (H a))(hs:Heap.SameBut a s.heap h')(he:∃q,h'.get? a=some q)(new:jK X.prog X.w (upd H a ob) h' a ob):
 Inv X pins σ (upd H a ob) { s with heap:=h',toks:=t' }:=
 I.write (x:=a) (e:=a) mu (.inl rfl) (λb q hb z=>(hs.2 b hb).trans z) he new
theorem qDG{P:Program}{w:World}{H':Hp}{h':Heap}{kvs:List (Key×V)}{vs:List (Key×Value)}(z:kvs.length≤sizeLine)(hd:(a==sysModules)=false)(rel:KV kvs vs)(dd:h'.DictOf (jN P w) a vs):
 jK P w H' h' a (.dK kvs):=⟨z,hd,vs,rel,dd⟩
theorem qCB{H':Hp}{Q:Unit→Shared→Prop}(hu:A.units+1<cLine)(I:Inv X pins σ H s)(g:DPut H a y v H')(ry:RelV y u)(rv:RelV v r)(h:∀s',Inv X pins σ H' s'→Q () s'):
 wpAny (model X.prog X.w) A (setItem (.ref a) u r) Q E s:=by
 rcases g with⟨kvs,k,e,ey,l,eH⟩|⟨kvs,k,b,e,ey,eb,l,eH⟩
 ·subst ey eH
  obtain⟨z,hd,vs,rel,dd⟩:=q3O I.hok e
  have hz:vs.length≤sizeLine:=by rw[←rel.length];exact z
  have hl:(putK kvs k v).length≤sizeLine:=by have:=q50 kvs k v;omega
  refine wpAny_setItem_pairs (hsz:=hz) (q5Z ry) dd λh' dd' hs=>h _ ?_
  have he:∃q,h'.get? a=some q:=let⟨q,_,_,hq,_⟩:=dd';⟨q,hq⟩
  exact q80 I (by rw[e];exact True.intro) hs he (qDG hl hd (rel.put k rv) dd')
 ·subst ey eH
  cases(show u=Value.ref b from ry)
  obtain⟨z,hd,xs,rel,dd⟩:=qK1 I.hok e
  have hz:xs.length≤sizeLine:=by rw[←Paired.length rel];exact z
  have hl:(putK kvs k v).length≤sizeLine:=by have:=q50 kvs k v;omega
  refine wpAny_setItem_heap (hsz:=hz) (cH hu) (q61 I.hok eb) dd λh' dd' hs=>h _ ?_
  obtain⟨q,es,ep,hq,h2,h3,h4,_,h5⟩:=dd'
  refine q80 I (by rw[e];exact True.intro) hs ⟨q,hq⟩ ⟨hl,hd,_,(rel.put k eb rv).keeps λc ys ec=>?_,q,es,ep,hq,h2,h3,h4,h5⟩
  rw[qC (jS ec e (λz=>nomatch z))]
  exact ec
end
section
variable{X:Cx}{pins:List (Addr×Obj)}{σ:St}{H:Hp}{s:Shared}{a:Addr}{kvs:List (Key×V)}{k:Key}{u:Value}{A:Around}{E:Value→Shared→Prop}
theorem qH9{v:V}{more:List Value}{Q:Value→Shared→Prop}(I:Inv X pins σ H s)(e:H a=some (.dK kvs))(ry:RelV (kV k) u)(l:valV kvs k=some v)(hm:more=[]∨∃x,more=[x])
 (h:∀w' s',Inv X pins σ (upd H a (.dK (q4Z kvs k))) s'→RelV v w'→Q w' s'):wpAny (model X.prog X.w) A (call (.builtin "dict.pop") (.ref a::u::more)) Q E s:=by
 obtain⟨z,hd,vs,rel,dd⟩:=q3O I.hok e
 obtain⟨w',hw,rw'⟩:=RelO.some_of (v:=v) (o:=valueAt vs k) (by rw[←l];exact rel.val k)
 have hp:(keyPart u).isSome=true:=by
  cases k with
  |inl i=>obtain⟨t,q⟩:=(show ∃t,u=Value.int i t from ry);subst q;rfl
  |inr x=>obtain⟨t,q⟩:=(show ∃t,u=Value.str x t from ry);subst q;rfl
 have ha:argsOk "dict.pop" ⟨.ref a::u::more,[]⟩:=by
  rcases hm with q|⟨x,q⟩
  ·subst q;exact PySem.F.args_dict_pop_2 _ _
  ·subst q;exact PySem.F.args_dict_pop_3 _ _ _
 refine cS wQ dd.typeIs PySem.F.entry_dict_pop ha (meets_dict_pop_there (jN X.prog X.w) a (q5Z ry) more hm hp)
  ⟨vs,w',dd,by rw[←rel.length];exact z,hw,λh' dd' hs=>h w' _ ?_ rw'⟩
 have he:∃q,h'.get? a=some q:=let⟨q,_,_,hq,_⟩:=dd';⟨q,hq⟩
 exact q80 I (by rw[e];exact True.intro) hs he (qDG (mI (qDF kvs k) z) hd (rel.drop k) dd')
theorem qI0{r:Value}{Q:Value→Shared→Prop}(I:Inv X pins σ H s)(e:H a=some (.dK kvs))(ry:RelV (kV k) u)(l:valV kvs k=none)(h:∀s',Inv X pins σ H s'→Q r s'):
 wpAny (model X.prog X.w) A (call (.builtin "dict.pop") [.ref a,u,r]) Q E s:=by
 obtain⟨z,hd,vs,rel,dd⟩:=q3O I.hok e
 have hn:valueAt vs k=none:=RelO.none_of (by rw[←l];exact rel.val k)
 have hp:(keyPart u).isSome=true:=by
  cases k with
  |inl i=>obtain⟨t,q⟩:=(show ∃t,u=Value.int i t from ry);subst q;rfl
  |inr x=>obtain⟨t,q⟩:=(show ∃t,u=Value.str x t from ry);subst q;rfl
 exact cS wQ dd.typeIs PySem.F.entry_dict_pop (PySem.F.args_dict_pop_3 _ _ _) (meets_dict_pop_default (jN X.prog X.w) a (q5Z ry) hd hp r) ⟨vs,dd,hn,h _ (I.tok _)⟩
theorem qK2{Q:Value→Shared→Prop}(I:Inv X pins σ H s)(e:Rd H a (.dK kvs))(h:∀t s',Inv X pins σ H s'→Q (.int kvs.length t) s'):wpAny (model X.prog X.w) A (call (.builtin "len") [.ref a]) Q E s:=by
 obtain⟨z,hd,vs,rel,dd⟩:=q60 I.hok e
 refine call_len_dict hd dd (by rw[←rel.length];rw[gI]at z;omega) ?_
 rw[←rel.length]
 exact h _ _ (I.tok _)
end
noncomputable def NoSl(i:Expr):Prop:=∀ov iv,subscripted i false ov iv=operate [ov,iv] (getItem ov iv)
theorem qFM{prog:Program}{w:World}{A:Around}{E:Value→Shared→Prop}{s:Shared}{env:Env}{value slice:Expr}{pos:Pos}{T id:String}{Q:Value→Shared→Prop}
 (hl:typeLookup (.type T) "__getitem__"=pure (some (.builtin id))) (hs:NoSl slice)
 (h:wpAny (model prog w) A (eval value env) (λo s₁=>wpAny (model prog w) A (eval slice env) (λi s₂=>s₂.TypeIs o T∧wpAny (model prog w) A (getItem o i) Q E s₂) E s₁) E s):
 wpAny (model prog w) A (eval (.Subscript value slice pos) env) Q E s:=by
 refine Subscript_ (dC h (λo s₁ h₁=>dC h₁ (λi s₂ h₂=>?_) λ_ _ x=>x) λ_ _ x=>x)
 obtain⟨hT,h₂⟩:=h₂
 unfold subscriptTail
 refine kD ?_
 rw[getitemInPython_of_ne hT.not_modules]
 refine kD (wpAny_specialOf hT hl ?_)
 have fin:wpAny (model prog w) A (subscripted slice false o i) (λr s₃=>wpAny (model prog w) A (letTemporaryGo value o r >>= λ_=>pure r) Q E s₃) E s₂:=by
  rw[hs o i]
  exact wpAny_operating (dC h₂ (λr s₃ h₃=>kD (wpAny_letTemporaryGo (kZ h₃))) λ_ _ x=>x)
 first
  |exact kZ (kD fin)
  |exact kD (kZ (kD fin))
  |exact kD fin
theorem q97{X:Cx}{pins:List (Addr×Obj)}{σ:St}{H:Hp}{s:Shared}{a:Addr}{y:V}{o:Option V}(I:Inv X pins σ H s)(g:DGet H a y o):s.TypeIs (.ref a) "dict":=by
 rcases g with⟨kvs,k,e,_,_⟩|⟨kvs,k,b,e,_,_,_⟩
 ·obtain⟨_,_,vs,_,dd⟩:=q60 I.hok e
  exact dd.typeIs
 ·obtain⟨_,_,xs,_,dd⟩:=q7M I.hok e
  exact dd.typeIs
noncomputable def qK3(td ty:TE):TE:=λσ H Q=>td σ H λx H1=>ty σ H1 λy H2=>∃a v,x=.ref a∧DGet H2 a y (some v)∧Q v H2
noncomputable def tDIn(ty td:TE):TE:=λσ H Q=>ty σ H λy H1=>td σ H1 λx H2=>∃a o,x=.ref a∧DGet H2 a y o∧Q (.bl o.isSome) H2
noncomputable def qK4(td ty tv:TE):TS:=λD σ H=>tv σ H λv H1=>td σ H1 λx H2=>ty σ H2 λy H3=>∃a H4,x=.ref a∧DPut H3 a y v H4∧D.nx σ H4
section
variable{X:Cx}{o i e value:Expr}{pos pos' tpos:Pos}{td ty tv:TE}
theorem qFN(hu:X.A.units+1<cLine)(ho:PE X o td)(hi:PE X i ty)(hs:NoSl i):PE X (.Subscript o i pos) (qK3 td ty):=by
 intro pins s σ H Q I h
 refine qFM PySem.F.slot_dict_getitem.lookup hs (thn (ho pins s σ H _ I h) λu s1 ⟨x,H1,I1,rx,q1⟩=>thn (hi pins s1 σ H1 _ I1 q1) λiv s2 hZ=>?_)
 obtain⟨y,H2,I2,ry,a,v,ex,g,q2⟩:=hZ
 subst ex
 obtain rfl:u=Value.ref a:=rx
 exact⟨q97 I2 g,qCA hu I2 g ry λw' s3 I3 rw'=>⟨v,H2,I3,rw',q2⟩⟩
theorem q81(hu:X.A.units+1<cLine)(hi:PE X i ty)(ho:PE X o td):PC X .In i o (tDIn ty td):=by
 intro pins s σ H Q I h
 refine thn (hi pins s σ H _ I h) λiv s1 ⟨y,H1,I1,ry,q1⟩=>thn (ho pins s1 σ H1 _ I1 q1) λu s2 hZ=>?_
 obtain⟨x,H2,I2,rx,a,ov,ex,g,q2⟩:=hZ
 subst ex
 obtain rfl:u=Value.ref a:=rx
 exact d_in hu I2 g ry λs3 I3=>⟨.bl ov.isSome,H2,I3,rfl,q2⟩
theorem q82(hu:X.A.units+1<cLine)(ho:PE X o td)(hi:PE X i ty)(hv:PE X value tv)(hs:swapsWith value (some (.Subscript o i pos')) pos.line X.env=pure false):
 PS X (.Assign [.Subscript o i pos'] value pos) (qK4 td ty tv):=by
 intro pins s σ H D I h
 refine wpAny_Assign_Subscript (thn (hv pins s σ H _ I h) λr s1 ⟨v,H1,I1,rv,q1⟩=>thn (ho pins s1 σ H1 _ I1 q1) λu s2 ⟨x,H2,I2,rx,q2⟩=>thn (hi pins s2 σ H2 _ I2 q2) λiv s3 hZ=>?_) hs
 obtain⟨y,H3,I3,ry,a,H4,ex,g,q3⟩:=hZ
 subst ex
 obtain rfl:u=Value.ref a:=rx
 exact qCB hu I3 g ry rv λs4 I4=>⟨σ,H4,I4,q3⟩
end
theorem qDH{P:Program}{w:World}{H:Hp}(h:Heap)(hb:sysModules<h.objs.size):jK P w H (h.push { cls:=.type "dict",data:=.dict #[] }) h.objs.size (.dK []):=
 ⟨m8 _,d6.mpr (wH (mW hb)),[],.nil,Heap.DictOf.new h⟩
noncomputable def qI1:TE:=λ_ H Q=>∀p,H p=none→Q (.ref p) (upd H p (.dK []))
section
variable{X:Cx}{pos:Pos}
theorem q3P:PE X (.Dict [] [] pos) qI1:=λpins s σ H Q I h=>
 wpAny_Dict_empty ⟨.ref s.heap.objs.size,_,I.laid (a:=s.heap.objs.size) (o:=.dK []) (t':=s.toks) (λ_ _ q=>kE _ q) (kN _) (qDH s.heap I.big),rfl,h _ (I.hok.fresh (kN _))⟩
end
structure M1(X:Cx)(o:Expr)(m:Str)(apos:Pos)(e:Expr)(cpos:Pos):Prop where
 base:attributeBase o m X.env (eval o X.env)=eval o X.env
 few:((backTo cpos (starEach [e] X.env)).all (λx=>!x.1)&&(backToKw cpos (keywordEach [] X.env)).all (λx=>x.1.isSome)
  &&decide (([e]:List Expr).length+([]:List Keyword).length+(if([]:List Keyword).isEmpty then 0 else 1)<30))=true
 line:(apos.endLine==cpos.line)=true
 trees:backTo cpos (starEach [e] X.env)=[(false,eval e X.env)]
structure M2(X:Cx)(o:Expr)(m:Str)(apos:Pos)(e f:Expr)(cpos:Pos):Prop where
 base:attributeBase o m X.env (eval o X.env)=eval o X.env
 few:((backTo cpos (starEach [e,f] X.env)).all (λx=>!x.1)&&(backToKw cpos (keywordEach [] X.env)).all (λx=>x.1.isSome)
  &&decide (([e,f]:List Expr).length+([]:List Keyword).length+(if([]:List Keyword).isEmpty then 0 else 1)<30))=true
 line:(apos.endLine==cpos.line)=true
 trees:backTo cpos (starEach [e,f] X.env)=[(false,eval e X.env),(false,eval f X.env)]
noncomputable def IsD(H:Hp)(a:Addr):Prop:=(∃kvs,Rd H a (.dK kvs))∨∃kvs,Rd H a (.dT kvs)
theorem qAC{X:Cx}{pins:List (Addr×Obj)}{σ:St}{H:Hp}{s:Shared}{a:Addr}(I:Inv X pins σ H s)(d:IsD H a):
 s.TypeIs (.ref a) "dict"∧(∀b,Value.ref a=.ref b→∃ob,s.heap.get? b=some ob∧ob.dict=none)∧(a==sysModules)=false:=by
 rcases d with⟨kvs,e⟩|⟨kvs,e⟩
 ·obtain⟨_,hd,vs,_,dd⟩:=q60 I.hok e
  refine⟨dd.typeIs,λb q=>?_,hd⟩
  cases q
  obtain⟨ob,_,_,h1,h2,_⟩:=dd
  exact⟨ob,h1,h2.2.1⟩
 ·obtain⟨_,hd,xs,_,dd⟩:=q7M I.hok e
  refine⟨dd.typeIs,λb q=>?_,hd⟩
  cases q
  obtain⟨ob,_,_,h1,h2,_⟩:=dd
  exact⟨ob,h1,h2.2.1⟩
section
variable{X:Cx}{pins:List (Addr×Obj)}{σ:St}{H:Hp}{s:Shared}{a:Addr}{y d:V}{u r:Value}{o:Option V}{A:Around}{E:Value→Shared→Prop}
theorem qI2{Q:Value→Shared→Prop}(hu:A.units+1<cLine)(I:Inv X pins σ H s)(g:DGet H a y o)(ry:RelV y u)(rd:RelV d r)(h:∀w' s',Inv X pins σ H s'→RelV (o.getD d) w'→Q w' s'):
 wpAny (model X.prog X.w) A (call (.builtin "dict.get") [.ref a,u,r]) Q E s:=by
 rcases g with⟨kvs,k,e,ey,l⟩|⟨kvs,k,b,e,ey,eb,l⟩
 ·subst ey
  obtain⟨z,hd,vs,rel,dd⟩:=q60 I.hok e
  refine cS cU dd.typeIs PySem.F.entry_dict_get (PySem.F.args_dict_get_3 _ _ _) (meets_dict_get_default (jN X.prog X.w) a (q5Z ry) hd r) ⟨_,dd.mapOf,h _ _ (I.tok _) ?_⟩
  rw[l]
  exact(rel.val k).getD rd
 ·subst ey
  cases(show u=Value.ref b from ry)
  obtain⟨z,hd,xs,rel,dd⟩:=q7M I.hok e
  refine cS cU dd.typeIs PySem.F.entry_dict_get (PySem.F.args_dict_get_3 _ _ _) (meetsH_dict_get_default (tupleKind (jN X.prog X.w)) a b hd r) ⟨cH hu,k,xs,q61 I.hok eb,dd,h _ _ (I.tok _) ?_⟩
  rw[l]
  exact(rel.val k).getD rd
end
noncomputable def qDI(td ty tx:TE):TE:=λσ H Q=>td σ H λx H1=>∃a,x=.ref a∧IsD H1 a∧ty σ H1 λy H2=>tx σ H2 λz H3=>∃o,DGet H3 a y o∧Q (o.getD z) H3
noncomputable def qI3(td ty:TE):TE:=λσ H Q=>td σ H λx H1=>∃a,x=.ref a∧IsD H1 a∧ty σ H1 λy H2=>∃kvs k v,H2 a=some (.dK kvs)∧y=kV k∧valV kvs k=some v∧Q v (upd H2 a (.dK (q4Z kvs k)))
noncomputable def qI4(td ty tx:TE):TE:=λσ H Q=>td σ H λx H1=>∃a,x=.ref a∧IsD H1 a∧ty σ H1 λy H2=>tx σ H2 λz H3=>∃kvs k,H3 a=some (.dK kvs)∧y=kV k∧
 (∀v,valV kvs k=some v→Q v (upd H3 a (.dK (q4Z kvs k))))∧(valV kvs k=none→Q z H3)
section
variable{X:Cx}{o e f:Expr}{apos cpos:Pos}{td ty tx:TE}
theorem qDJ(hu:X.A.units+1<cLine)(ho:PE X o td)(he:PE X e ty)(hf:PE X f tx)(m:M2 X o "get" apos e f cpos):PE X (.Call (.Attribute o "get" apos) [e,f] [] cpos) (qDI td ty tx):=by
 intro pins s σ H Q I h
 refine wpAny_Call_method m.base m.few m.line dY cU PySem.F.type_dict_get (thn (ho pins s σ H _ I h) λu s1 hZ=>?_)
 obtain⟨x,H1,I1,rx,a,ex,d,q1⟩:=hZ
 subst ex
 obtain rfl:u=Value.ref a:=rx
 obtain⟨t1,t2,_⟩:=qAC I1 d
 refine⟨t1,t2,?_⟩
 rw[m.trees]
 refine d9 rfl (wY (rH (thn (he pins s1 σ H1 _ I1 q1) λiv s2 ⟨y,H2,I2,ry,q2⟩=>
  rH (thn (hf pins s2 σ H2 _ I2 q2) λfv s3 ⟨z,H3,I3,rz,ov,g,q3⟩=>cO ?_))))
 exact qI2 hu I3 g ry rz λw' s4 I4 rw'=>⟨_,H3,I4,rw',q3⟩
theorem qDK(ho:PE X o td)(he:PE X e ty)(m:M1 X o "pop" apos e cpos):PE X (.Call (.Attribute o "pop" apos) [e] [] cpos) (qI3 td ty):=by
 intro pins s σ H Q I h
 refine wpAny_Call_method m.base m.few m.line dY wQ PySem.F.type_dict_pop (thn (ho pins s σ H _ I h) λu s1 hZ=>?_)
 obtain⟨x,H1,I1,rx,a,ex,d,q1⟩:=hZ
 subst ex
 obtain rfl:u=Value.ref a:=rx
 obtain⟨t1,t2,_⟩:=qAC I1 d
 refine⟨t1,t2,?_⟩
 rw[m.trees]
 refine d9 rfl (wY (rH (thn (he pins s1 σ H1 _ I1 q1) λiv s2 ⟨y,H2,I2,ry,kvs,k,v,ea,ey,l,q2⟩=>cO ?_)))
 subst ey
 exact qH9 I2 ea ry l (.inl rfl) λw' s3 I3 rw'=>⟨v,_,I3,rw',q2⟩
theorem qDL(ho:PE X o td)(he:PE X e ty)(hf:PE X f tx)(m:M2 X o "pop" apos e f cpos):PE X (.Call (.Attribute o "pop" apos) [e,f] [] cpos) (qI4 td ty tx):=by
 intro pins s σ H Q I h
 refine wpAny_Call_method m.base m.few m.line dY wQ PySem.F.type_dict_pop (thn (ho pins s σ H _ I h) λu s1 hZ=>?_)
 obtain⟨x,H1,I1,rx,a,ex,d,q1⟩:=hZ
 subst ex
 obtain rfl:u=Value.ref a:=rx
 obtain⟨t1,t2,_⟩:=qAC I1 d
 refine⟨t1,t2,?_⟩
 rw[m.trees]
 refine d9 rfl (wY (rH (thn (he pins s1 σ H1 _ I1 q1) λiv s2 ⟨y,H2,I2,ry,q2⟩=>
  rH (thn (hf pins s2 σ H2 _ I2 q2) λfv s3 ⟨z,H3,I3,rz,kvs,k,ea,ey,q3,q4⟩=>cO ?_))))
 subst ey
 cases l:valV kvs k with
 |some v=>exact qH9 I3 ea ry l (.inr ⟨fv,rfl⟩) λw' s4 I4 rw'=>⟨v,_,I4,rw',q3 v l⟩
 |none=>exact qI0 I3 ea ry l λs4 I4=>⟨z,H3,I4,rz,q4 l⟩
end
end L2
namespace Att
open PySem PySem.W PySem.Calls PyProof.Rows
theorem q57{P:Params}{h:Heap}:∀(ns:List Int) (vs:List Value),WellAll P h vs (ns.map WData.int)→IntsAre vs ns:=by
 intro ns
 induction ns with
 |nil=>
  intro vs w
  rw[List.map_nil]at w
  cases w
  exact .nil
 |cons n ns ih=>
  intro vs w
  rw[mG]at w
  cases w with
  |cons a b=>
   cases a
   exact .cons _ _ (ih _ b)
theorem qCC{l:OpenLaw}{n:Nat}(hn:l.most=some n){P:Params}{h:Heap}{args:List WData}{vals:List Value}
 (hpre:l.row.toRowW.claim.pre args=true) (hwl:WellAll P h vals args):
 ∃a vs ns,vals=[Value.ref a]∧args=[WData.list (ns.map WData.int)]∧h.get? a=some { cls:=.type "list",data:=.seq vs.toArray }∧IntsAre vs ns∧ns.length≤n:=by
 have hsh:WShape.hasAll [] args [.list .int]=true:=(pre_splitW hpre).1
 have hc:l.pre.holds [] { args:=args } =true:=(pre_splitW hpre).2
 obtain⟨d,r,rfl,h1,h2⟩:=hasAllW_cons hsh
 obtain rfl:=hasAllW_nil h2
 obtain⟨xs,rfl,h3⟩:=hasW_list h1
 obtain⟨ns,rfl⟩:=items_int h3
 have hlen:ns.length≤n:=by
  unfold OpenLaw.pre at hc
  have h4:(WTm.not (.lt (.lit (.int (n:Int))) (.len (.arg 0)))).holds [] { args:=[.list (ns.map .int)] } =true:=by
   have h4:=(holds_andW hc).1
   rw[hn]at h4
   exact h4
  have h5:=condW_of h4 (w_not (w_lt w_lit (w_len_list (w_arg rfl))))
  rw[hI]at h5
  refine Nat.le_of_not_lt λq=>?_
  have q':(n:Int)<((ns.length:Nat):Int):=by omega
  first
   |(rw[hC q']at h5;exact absurd h5 (by decide))
   |(simp at h5;omega)
 cases hwl with
 |cons w1 w2=>
  cases w2
  cases w1 with
  |list ho hall=>exact⟨_,_,ns,rfl,rfl,ho,q57 ns _ hall,hlen⟩
theorem qCD(l:OpenLaw)(args:List WData):l.row.toRowW.claim.post args (.bool true) args=true:=
 postW_of (r:=l.row.toRowW) (X:=(true==true))
  (show WShape.has [] (.bool true) .bool=true by first|rfl|decide|simp[WShape.has,WShape.arms,WShape.armsAll])
  (show(WTm.eq .res (.lit (.bool true))).value [] { args:=args,res:=some (.bool true),after:=args } =some (.bool (true==true))from w_eq_bool (w_res rfl) w_lit) rfl
theorem attach_call{l:OpenLaw}{n:Nat}{q:Program}{loose:List Str}{XP:(Str→Option Value)→Heap→Prop}{YP:World→Heap→Prop}{d:DefRec}
 (hn:l.most=some n) (hdf:d.params.defaults=[])
 (call:∀(w:World) (s₀ s₁:Shared) (mg mb:Str→Option Value) (fa:Addr) (o:Obj) (pm cd doc:Value) (a:Addr) (vs:List Value) (ns:List Int),
  Ground q loose [] XP w s₀ mg mb s₁.heap→YP w s₁.heap→
  s₁.heap.get? fa=some o→o.data=.func (docDef d.name d.params d.body d.scope pm cd doc)→s₁.heap.CodeRec cd d.name→mg d.name=some (.ref fa)→
  s₁.heap.get? a=some { cls:=.type "list",data:=.seq vs.toArray }→IntsAre vs ns→ns.length≤n→s₁.gens=#[]→
  codeAny (model l.prog w) callerA (.call (.ref fa) ⟨[.ref a],[]⟩) (λr s'=>r=.ok (.ret (.bool true))∧OldK s₁.heap s'.heap∧s'.os=s₁.os∧AllBare s'.gens) s₁):
 WalkO q loose XP YP l.row.toRowW d [] (λf vs=>PySem.call f vs):=by
 intro w s₀ s₁ mg mb G Y fa o pm cd doc dV kV ho hd hcd hD hmg hg args vals as hpre hlay hrd hwl hlo
 obtain rfl:dV=.none:=Dflts.none hD hdf
 obtain rfl:kV=.none:=Dflts.noKw hD
 obtain⟨a,vs,ns,rfl,rfl,hobj,hints,hlen⟩:=qCC hn hpre hwl
 refine enter_call (cP (call w s₀ s₁ mg mb fa o pm cd doc a vs ns G Y ho (fd_plain hd) hcd hmg hobj hints hlen hg) λr s' hq=>?_)
 obtain⟨rfl,h2,h3,h4⟩:=hq
 exact⟨.inl ⟨.bool true,.bool true,[],rfl,λ_=>rfl,.bool true,qCD l _,λ_=>⟨List.Pairwise.nil,λ_ hm=>(nomatch hm)⟩⟩,h2,h3,h4⟩
end Att
namespace L2
open PySem PySem.Spec PyProof.Rows
theorem q7N:∀{vs:List Value} {ns:List Int},IntsAre vs ns→Vals (ns.map V.int) vs
 |_,_,.nil=>.nil
 |_,_,.cons n t h=>.cons ⟨t,rfl⟩ (q7N h)
noncomputable def qM(s:Stmt)(j:Nat):Stmt:=match s with
 | .ClassDef _ _ _ body _ _ _ _ _ _ _=>body.getD j (.Pass ⟨0,0,0,0⟩)
 |_=>.Pass ⟨0,0,0,0⟩
noncomputable def yJ(s:Stmt):Arguments:=match s with
 | .FunctionDef _ a _ _ _ _ _ _ _ _=>a
 |_=>{ posonlyargs:=[],args:=[],vararg:=none,kwonlyargs:=[],kw_defaults:=[],kwarg:=none,defaults:=[] }
noncomputable def yB(s:Stmt):List Stmt:=match s with
 | .FunctionDef _ _ b _ _ _ _ _ _ _=>b
 |_=>[]
noncomputable def qH(s:Stmt):Scope:=match s with
 | .FunctionDef _ _ _ _ _ _ sc _ _ _=>sc
 |_=>{ kind:=.function,names:=[],isGenerator:=false,isCoroutine:=false }
noncomputable abbrev CX0:CXT:=λ_ _ _ _ _ _=>False
noncomputable abbrev E0:XK:=λ_ _ _=>False
theorem qK{X:Cx}:q0Q CX0 X E0:=λ_ _ _ _ _ _ _ h=>h.elim
theorem q1G{A:Around}{k:Nat}(hr:Room k A):A.units+1<cLine:=dD (Nat.add_le_add_left (by decide:1≤64) _) hr.units
section
variable{X:Cx}
theorem pv(i:Nat){x:Str}{pos:Pos}(hN:X.N[i]?=some x:=by rfl)(hv:Vis X.env.scope x:=by first|exact Or.inl rfl|exact Or.inr (Or.inl rfl)|exact Or.inr (Or.inr rfl))(hd:(x==("__debug__":Str))=false:=by decide)
 (hcd:(x==("__classdict__":Str))=false:=by decide):PE X (.Name x pos) (tVar i):=qHM hN hv hd hcd
end
theorem iteF{A B:Prop}(h:B):if false=true then A else B:=by
 rw[kB kQ]
 exact h
theorem iteT{A B:Prop}(h:A):if true=true then A else B:=by
 rw[kF rfl]
 exact h
theorem ite2{c A B:Prop}[Decidable c](h1:c→A)(h2:¬c→B):if c then A else B:=by
 by_cases h:c
 ·rw[kF h]
  exact h1 h
 ·rw[kB h]
  exact h2 h
noncomputable def Same(H H':Hp):Prop:=∀b o,H b=some o→H' b=some o
theorem Same.refl(H:Hp):Same H H:=λ_ _ h=>h
theorem Same.trans{H H1 H2:Hp}(a:Same H H1)(b:Same H1 H2):Same H H2:=λc o h=>b c o (a c o h)
theorem Same.free{H H':Hp}(e:Same H H'){l:Addr}(h:H' l=Option.none):H l=Option.none:=by
 cases q:H l with
 |none=>rfl
 |some o=>
  rw[e l o q]at h
  cases h
theorem Same.seq{K:PySem.W.Frag}{H H':Hp}{a:Addr}{xs:List V}(e:Same H H')(h:SqL K H a xs):SqL K H' a xs:=by
 rcases h with(h|⟨o,h⟩)|h
 ·exact .inl (.inl (e _ _ h))
 ·exact .inl (.inr ⟨o,e _ _ h⟩)
 ·exact .inr h
section
variable{X:Cx}
theorem qCE:q17 X (.builtin "len") (λxs H Q=>∃a kvs,xs=[V.ref a]∧H a=some (.dK kvs)∧Q (.int kvs.length) H):=by
 intro pins s σ H xs us Q I r h
 obtain⟨a,kvs,rfl,ha,q⟩:=h
 obtain⟨u,rfl,ru⟩:=q3L r
 cases ru
 exact qK2 I (.inl ha) λt s' I'=>⟨.int kvs.length,H,I',⟨t,rfl⟩,q⟩
end
section
variable{X:Cx}
theorem q1H:PGet X (rIxL X.K):=by
 intro pins s σ H o i ov iv Q I ro ri h
 obtain⟨p,xs,k,z,rfl,rfl,hq,he,q⟩:=h
 cases ro
 obtain⟨t,rfl⟩:=ri
 obtain⟨its,r,pl,hz⟩:=I.list hq
 obtain⟨j,h1,h2,h3,h4,h5⟩:=q7Y he
 obtain⟨w,ew,rw'⟩:=r.get h2
 have hl:=r.length
 have hn:=q5V
 have fin:EP X pins σ Q w s:=⟨z,H,I,rw',q⟩
 by_cases h0:0≤k
 ·have hj:k.toNat=j:=by
   rw[seqIndex_of h0 h5]at h1
   exact kP h1
  exact wpAny_getItem_list pl.isList h0 (by omega) (by rw[hj];simpa using ew) fin
 ·have hj:(k+(its.toArray.size:Int)).toNat=j:=by
   rw[seqIndex_neg (by omega) h4]at h1
   rw[mF,←hl]
   exact kP h1
  exact wpAny_getItem_list_neg pl.isList (by omega) (by rw[mF]<;>omega) (by omega) (by rw[hj];simpa using ew) fin
end
noncomputable def isW:V→Bool
 | .int _=>true
 |_=>false
noncomputable def isI:V→Bool
 | .int _=>true
 | .bl _=>true
 |_=>false
noncomputable def isB:V→Bool
 | .bl _=>true
 |_=>false
noncomputable def isS:V→Bool
 | .str _=>true
 |_=>false
inductive Knd(H:Hp):V→Prop where
 |non:Knd H .non
 |bl (b:Bool):Knd H (.bl b)
 |int (i:Int):Knd H (.int i)
 |str (x:Str):Knd H (.str x)
 |lst {a:Addr} {xs:List V} (e:H a=some (.lst xs)):Knd H (.ref a)
 |tup {a:Addr} {xs:List V} (e:H a=some (.tup xs)):Knd H (.ref a)
section
variable{K:PySem.W.Frag}{H:Hp}{x:V}
theorem qI5:PySem.W.kitOne K (.type "NoneType") (.type "int")=some false:=by kernel_rfl
theorem qI6:PySem.W.kitOne K (.type "bool") (.type "int")=some true:=by kernel_rfl
theorem qI7:PySem.W.kitOne K (.type "int") (.type "int")=some true:=by kernel_rfl
theorem qI8:PySem.W.kitOne K (.type "str") (.type "int")=some false:=by kernel_rfl
theorem qI9:PySem.W.kitOne K (.type "list") (.type "int")=some false:=by kernel_rfl
theorem qIA:PySem.W.kitOne K (.type "tuple") (.type "int")=some false:=by kernel_rfl
theorem qIB:PySem.W.kitOne K (.type "NoneType") (.type "bool")=some false:=by kernel_rfl
theorem qDM:PySem.W.kitOne K (.type "bool") (.type "bool")=some true:=by kernel_rfl
theorem qIC:PySem.W.kitOne K (.type "int") (.type "bool")=some false:=by kernel_rfl
theorem qID:PySem.W.kitOne K (.type "str") (.type "bool")=some false:=by kernel_rfl
theorem qIE:PySem.W.kitOne K (.type "list") (.type "bool")=some false:=by kernel_rfl
theorem qIF:PySem.W.kitOne K (.type "tuple") (.type "bool")=some false:=by kernel_rfl
theorem qIG:PySem.W.kitOne K (.type "NoneType") (.type "str")=some false:=by kernel_rfl
theorem qIH:PySem.W.kitOne K (.type "bool") (.type "str")=some false:=by kernel_rfl
theorem qII:PySem.W.kitOne K (.type "int") (.type "str")=some false:=by kernel_rfl
theorem qIJ:PySem.W.kitOne K (.type "str") (.type "str")=some true:=by kernel_rfl
theorem qIK:PySem.W.kitOne K (.type "list") (.type "str")=some false:=by kernel_rfl
theorem qIL:PySem.W.kitOne K (.type "tuple") (.type "str")=some false:=by kernel_rfl
theorem qIM:PySem.W.kitOne K (.type "tuple") (.type "tuple")=some true:=by kernel_rfl
theorem qIN:PySem.W.kitOne K (.type "list") (.type "list")=some true:=by kernel_rfl
theorem Knd.ty(k:Knd H x):∃t,TyOf K H x t∧PySem.W.kitOne K t (.type "int")=some (isI x)∧PySem.W.kitOne K t (.type "bool")=some (isB x)∧PySem.W.kitOne K t (.type "str")=some (isS x):=by
 cases k with
 |non=>exact⟨_,.non,qI5,qIB,qIG⟩
 |bl b=>exact⟨_,.bl b,qI6,qDM,qIH⟩
 |int i=>exact⟨_,.int i,qI7,qIC,qII⟩
 |str y=>exact⟨_,.str y,qI8,qID,qIJ⟩
 |lst e=>exact⟨_,.lst e,qI9,qIE,qIK⟩
 |tup e=>exact⟨_,.tup e,qIA,qIF,qIL⟩
theorem qDN(x:V):(if isI x=true then !isB x else false)=isW x:=by cases x<;>rfl
end
noncomputable def jV(ns:List Int)(k:Int):Int:=ns.getD k.toNat 0
theorem qCF{ns:List Int}{k:Int}(h0:0≤k)(h:k<ns.length):atI (ns.map V.int) k=some (.int (jV ns k)):=by
 obtain⟨j,rfl⟩:=wE h0
 refine yT ?_
 have hj:j<ns.length:=by omega
 unfold jV
 simp[hj]
theorem qAD{ns:List Int}{k:Int}(h0:0≤k)(h:¬k<ns.length):jV ns k=0:=by
 unfold jV
 rw[kJ,dA (by omega)]
 rfl
theorem Same.upd{H:Hp}{p:Addr}{o:HO}(h:H p=none):Same H (upd H p o):=λb u e=>by
 rw[qC (qF e h)]
 exact e
noncomputable abbrev NewO(H:Hp)(o:HO)(Q:VK):Prop:=∀p H',H p=none→Same H H'→H' p=some o→Q (.ref p) H'
theorem NewO.at{H:Hp}{o:HO}{Q:VK}(q:NewO H o Q)(p:Addr)(n:H p=none):Q (.ref p) (upd H p o):=q p _ n (Same.upd n) qI
section
variable{X:Cx}{e:Expr}{es:List Expr}{t:TA}{pos:Pos}
noncomputable def qHA(t:TA):TE:=λσ H Q=>t σ H λxs H1=>xs.length≤sizeLine∧NewO H1 (.tup xs) Q
noncomputable def qK5(t:TA):TE:=λσ H Q=>t σ H λxs H1=>xs.length≤sizeLine∧NewO H1 (.lst xs) Q
theorem uQ{x1}(h:PA X es t):PE X (.Tuple es x1 pos) (qHA t):=by
 intro pins s σ H Q I hq
 refine wpAny_Tuple_spliced (thn (h pos pins s σ H _ I hq) λus s1 ⟨xs,H1,I1,r,z,q⟩=>⟨by rw[←r.length];exact z,?_⟩)
 have hf:H1 s1.heap.objs.size=none:=I1.hok.fresh (kN _)
 refine⟨.ref s1.heap.objs.size,upd H1 s1.heap.objs.size (.tup xs),I1.laid (t':=s1.toks) (λb u e=>kE _ e) (kN _) ?_,rfl,q.at _ hf⟩
 exact⟨z,us,r,⟨_,mK _ rfl,rfl,_,rfl⟩⟩
theorem jZ(h:PA X es t):PE X (.List es pos) (qK5 t):=by
 intro pins s σ H Q I hq
 refine wpAny_List_spliced (thn (h pos pins s σ H _ I hq) λus s1 ⟨xs,H1,I1,r,z,q⟩=>⟨by rw[←r.length];exact z,?_⟩)
 have hf:H1 s1.heap.objs.size=none:=I1.hok.fresh (kN _)
 refine⟨.ref s1.heap.objs.size,upd H1 s1.heap.objs.size (.lst xs),I1.laid (t':=s1.toks) (λb u e=>kE _ e) (kN _) ?_,rfl,q.at _ hf⟩
 exact⟨z,us,0,r,mK _ rfl⟩
noncomputable def qK6:R2:=λx y H Q=>∃l k v,x=.ref l∧y=.int k∧H l=some (.lst [v])∧0≤k∧k≤100000∧NewO H (.lst (List.replicate k.toNat v)) Q
theorem q98{α:Type}(v:α):∀k:Nat,(List.replicate k [v]).flatten=List.replicate k v
 |0=>rfl
 |k+1=>by rw[dE,wS,q98 v k,dE];rfl
theorem zL:OpR X (binaryOp .Mult) qK6:=by
 intro pins s σ H x y v u Q I rx ry hZ
 obtain⟨l,k,z,e1,e2,h1,h2,h3,q⟩:=hZ
 refine qHZ pins s σ H x y v u Q I rx ry ⟨l,k,[z],e1,e2,h1,by omega,by omega,?_,?_⟩
 ·rw[gI,gD]
  omega
 ·rw[q98]
  exact q.at
theorem zO:q17 X (.type "list") (λxs H Q=>∃p ys,xs=[.ref p]∧(SqL X.K H p ys∨SqT X.K H p ys)∧NewO H (.lst ys) Q):=by
 intro pins s σ H xs us Q I r hZ
 obtain⟨p,ys,e,h,q⟩:=hZ
 exact q7Z pins s σ H xs us Q I r ⟨p,ys,e,h,q.at⟩
end
noncomputable def qB6:Sp:=λvs H Q _=>∃x,vs=[x]∧Knd H x∧Q (.bl (isW x)) H
noncomputable def inB(x:V)(lo hi:Int):Bool:=match x with
 | .int i=>decide (lo≤i)&&decide (i≤hi)
 |_=>false
noncomputable def qDO:Sp:=λvs H Q _=>∃x lo hi,vs=[x,.int lo,.int hi]∧Knd H x∧Q (.bl (inB x lo hi)) H
noncomputable def qIO(K:PySem.W.Frag):Sp:=λvs H Q _=>∃a ns k,vs=[.ref a,.int k]∧SqL K H a (ns.map V.int)∧0≤k∧Q (.int (jV ns k)) H
end L2
namespace L2
open PySem
noncomputable def ExO(h:Heap)(e:Addr)(C:Value)(od:Option Addr)(vs:Array Value):Prop:=∃oe,h.get? e=some oe∧oe.cls=C∧oe.dict=od∧oe.data=.fields vs∧1<vs.size
noncomputable def TrO(h:Heap)(e T:Addr)(vs:Array Value)(f:Value):Prop:=vs[1]?=some (.ref T)∧T≠e∧∃oT ts,h.get? T=some oT∧oT.data=.fields ts∧ts[3]?=some f
noncomputable def Air(L:Addr)(h:Heap)(e:Addr)(C:Value)(od:Option Addr):Option Addr→Prop
 |none=>∃vs,ExO h e C od vs∧vs[1]?=some .none
 |some T=>∃vs f,ExO h e C od vs∧TrO h e T vs f∧(f=.none∨f=rawInt L)
noncomputable def Held(f:Value)(h:Heap)(e T:Addr)(C:Value)(od:Option Addr):Prop:=∃vs,ExO h e C od vs∧TrO h e T vs f
structure Chg(fr rs:List Addr)(h h':Heap):Prop where
 keep:∀b o,b∉fr→b∉rs→h.get? b=some o→h'.get? b=some o
 slot:∀b o,b∉rs→h.get? b=some o→∃sl,h'.get? b=some { o with slots:=sl }
 there:∀b o,h.get? b=some o→∃o',h'.get? b=some o'
theorem Chg.refl{fr rs:List Addr}{h:Heap}:Chg fr rs h h:=⟨λ_ _ _ _ e=>e,λ_ o _ e=>⟨o.slots,e⟩,λ_ o e=>⟨o,e⟩⟩
theorem Chg.trans{fr rs:List Addr}{h h1 h2:Heap}(x:Chg fr rs h h1)(y:Chg fr rs h1 h2):Chg fr rs h h2:=
 ⟨λb o f r e=>y.keep b o f r (x.keep b o f r e),λb o r e=>let⟨_,e1⟩:=x.slot b o r e;let⟨sl,e2⟩:=y.slot b _ r e1;⟨sl,e2⟩,
  λb o e=>let⟨_,e1⟩:=x.there b o e;y.there b _ e1⟩
theorem Chg.fresh{fr rs rs':List Addr}{h h1 h2:Heap}(x:Chg fr rs h h1)(y:Chg fr rs' h1 h2)(n:∀b∈rs',b∈rs∨h.get? b=none):Chg fr rs h h2:=by
 have m:∀b o,b∉rs→h.get? b=some o→b∉rs':=λb o r e z=>(n b z).elim r λq=>by rw[q]at e;cases e
 exact⟨λb o f r e=>y.keep b o f (m b o r e) (x.keep b o f r e),λb o r e=>let⟨_,e1⟩:=x.slot b o r e;let⟨sl,e2⟩:=y.slot b _ (m b o r e) e1;⟨sl,e2⟩,
  λb o e=>let⟨_,e1⟩:=x.there b o e;y.there b _ e1⟩
theorem Chg.slots{fr rs:List Addr}{h h':Heap}(x:Heap.SlotsOnly fr h h'):Chg fr rs h h':=
 ⟨λb o f _ e=>(x.2.1 b f).trans e,λb o _ e=>x.2.2 b o e,λb o e=>let⟨sl,q⟩:=x.2.2 b o e;⟨_,q⟩⟩
theorem Chg.upd{fr rs:List Addr}{h:Heap}{a:Addr}{f:Obj→Obj}(ha:a∈rs)(hf:∀o,h.get? a=some o→(f o).isFreed=false):Chg fr rs h (h.update a f):=by
 have k:∀b o,b∉rs→h.get? b=some o→(h.update a f).get? b=some o:=λb o r e=>by
  exact(mZ h f (λ(q:a=b)=>r (q▸ha))).trans e
 refine⟨λb o _ r e=>k b o r e,λb o r e=>⟨o.slots,k b o r e⟩,λb o e=>?_⟩
 by_cases q:b=a
 ·subst q;exact⟨_,wP f e (hf o e)⟩
 ·exact⟨o,by rw[mZ h f (wH q)];exact e⟩
theorem Chg.push{fr rs:List Addr}{h:Heap}{o:Obj}:Chg fr rs h (h.push o):=
 ⟨λb u _ _ e=>kE _ e,λb u _ e=>⟨u.slots,kE _ e⟩,λb u e=>⟨u,kE _ e⟩⟩
theorem qCG(o:Obj)(f:Array Value→Array Value):(o.mapFields f).dict=o.dict:=by
 obtain⟨c,d,dt,sl⟩:=o
 cases dt<;>rfl
theorem ExO.set{h:Heap}{e:Addr}{C:Value}{od:Option Addr}{vs:Array Value}(x:ExO h e C od vs)(i:Nat)(v:Value):ExO (h.update e (Obj.mapFields (·.setIfInBounds i v))) e C od (vs.setIfInBounds i v):=by
 obtain⟨oe,h1,h2,h3,h4,h5⟩:=x
 have hd:=cI h4 (·.setIfInBounds i v)
 exact⟨_,wP _ h1 (rN hd),(Obj.cls_mapFields _ _).trans h2,(qCG _ _).trans h3,hd,by simpa using h5⟩
theorem ExO.of{h h':Heap}{e:Addr}{C:Value}{od:Option Addr}{vs:Array Value}(x:ExO h e C od vs)(k:∀o,h.get? e=some o→h'.get? e=some o):ExO h' e C od vs:=
 let⟨oe,h1,r⟩:=x;⟨oe,k _ h1,r⟩
section
variable{M:Model}{A:Around}{E:Value→Shared→Prop}{s:Shared}{env:Env}{outer:List Env}{L e T:Addr}{C:Value}{od:Option Addr}{base:Heap}
theorem ExO.nofr{h:Heap}{l:List Env}{vs:Array Value}(x:ExO h e C od vs)(hl:h.FunFrames base l):e∉l.filterMap (·.frame):=λhm=>by
 obtain⟨_,o,ho,hn⟩:=hl.mem hm
 obtain⟨oe,h1,_,_,h4,_⟩:=x
 rw[h1]at ho
 cases ho
 exact hn _ h4
theorem q99{head:Value}{hn:Bool}{vs:Array Value}{Q:Unit→Shared→Prop}(hfr:A.frames=some (env::outer))(hl:s.heap.FunFrames base (env::outer))(hf:env.frame=some L)(x:ExO s.heap e C od vs)
 (q:∀h' T,Chg ((env::outer).filterMap (·.frame)) [e] s.heap h'→Held (rawInt L) h' e T C od→s.heap.objs.size≤T→Q () { s with heap:=h' }):
 wpAny M A (do let a←frameOf env;let pl←entryPlaceOf L hn;let b←EntryCells.newEntry head a .none (rawInt L) .none pl;setField (.ref e) 1 b) Q E s:=by
 have ne:=x.nofr hl
 refine kD (wpAny_frameOf_fun hfr hl hf λh1 so=>kD (wpAny_entryPlaceOf λpl hp=>?_))
 unfold EntryCells.newEntry newFields
 refine kD (dX ?_ (hp.sizeOk5 _ _ _ _ _))
 have x1:ExO h1 e C od vs:=x.of λo z=>(so.2.1 e ne).trans z
 have x2:=x1.of (h':=h1.push _) λo z=>kE { cls:=.type "traceback",dict:=none,data:=.fields ([head,.ref L,.none,rawInt L,.none]++(if pl.isEmpty then List.replicate 6 Value.none else pl)).toArray } z
 obtain⟨oe,a1,a2,a3,a4,a5⟩:=id x2
 refine wpAny_setField a1 a4 a5 ?_
 have hlt:e<h1.objs.size:=let⟨_,z,_⟩:=x1;kX z
 have fresh:s.heap.objs.size≤h1.objs.size:=cN so.1.symm
 refine q _ h1.objs.size (((Chg.slots so).trans Chg.push).trans (Chg.upd (kI.mpr rfl) λo z=>?_)) ⟨_,x2.set 1 _,?_,rX hlt,{ cls:=.type "traceback",dict:=none,data:=.fields ([head,.ref L,.none,rawInt L,.none]++(if pl.isEmpty then List.replicate 6 Value.none else pl)).toArray },_,?_,rfl,?_⟩ fresh
 ·rw[a1]at z
  cases z
  exact rN (cI a4 _)
 ·simp[a5]
 ·rw[mZ _ _ (mW hlt)]
  exact mK h1 rfl
 ·first|(simp;done)|(rcases hp with rfl|⟨_,_,_,_,_,_,_,rfl⟩<;>simp)
theorem qB7{tr:Option Addr}{Q:Unit→Shared→Prop}(hfr:A.frames=some (env::outer))(hl:s.heap.FunFrames base (env::outer))(hf:env.frame=some L)(x:Air L s.heap e C od tr)
 (q:∀h' T,Chg ((env::outer).filterMap (·.frame)) (e::tr.toList) s.heap h'→Held (rawInt L) h' e T C od→(T∈tr∨s.heap.objs.size≤T)→Q () { s with heap:=h' }):
 wpAny M A (noteFrame (.ref e) env) Q E s:=by
 unfold noteFrame
 simp only[hf]
 cases tr with
 |none=>
  obtain⟨vs,x,h1⟩:=x
  obtain⟨oe,a1,a2,a3,a4,a5⟩:=id x
  refine kD (wX a1 a4 h1 ?_)
  rw[kB (by decide)]
  exact q99 hfr hl hf x λh' T c hd n=>q h' T c hd (.inr n)
 |some T=>
  obtain⟨vs,f,x,⟨t1,t2,oT,ts,t3,t4,t5⟩,hfl⟩:=x
  obtain⟨oe,a1,a2,a3,a4,a5⟩:=id x
  refine kD (wX a1 a4 t1 ?_)
  rw[kF (by simp)]
  refine kD (wX t3 t4 t5 ?_)
  rcases hfl with rfl|rfl
  ·rw[kB (by simp[rawInt])]
   refine kD (wpAny_setField t3 t4 (Array.getElem?_eq_some_iff.mp t5).1 ?_)
   have k:∀b o,b≠T→s.heap.get? b=some o→(s.heap.update T (Obj.mapFields (·.setIfInBounds 3 Value.none))).get? b=some o:=λb o n z=>(mZ _ _ (wH n)).trans z
   have hl2:(s.heap.update T (Obj.mapFields (·.setIfInBounds 3 Value.none))).FunFrames base (env::outer):=hl.of_keeps λb o z nf=>⟨o,k b o (λw=>by subst w;rw[t3]at z;cases z;exact nf _ t4) z,rfl⟩
   refine q99 (s:={ s with heap:=s.heap.update T (Obj.mapFields (·.setIfInBounds 3 Value.none)) }) hfr hl2 hf (x.of λo z=>k e o (wH t2) z) λh' T' c hd n=>q h' T' ?_ hd ?_
   ·refine(Chg.upd (a:=T) (by simp) λo z=>?_).fresh c λb hb=>.inl ?_
    ·rw[t3]at z
     cases z
     exact rN (cI t4 _)
    ·rw[kI.mp hb]
     exact kW
   ·exact .inr (mI (cN (Heap.size_after_update ..).symm) n)
  ·rw[kF (by simp)]
   exact kZ (q _ T .refl ⟨vs,x,t1,t2,oT,ts,t3,t4,t5⟩ (.inl rfl))
theorem q2I{f:Value}{fr:Option Addr}{Q:Unit→Shared→Prop}(x:Held f s.heap e T C od)
 (q:∀h',Chg [] [T] s.heap h'→Held (fr.elim .none λf=>rawInt f) h' e T C od→Q () { s with heap:=h' }):wpAny M A (setFlight (.ref e) fr) Q E s:=by
 obtain⟨vs,x,t1,t2,oT,ts,t3,t4,t5⟩:=x
 obtain⟨oe,a1,a2,a3,a4,a5⟩:=id x
 have hz:=(Array.getElem?_eq_some_iff.mp t5).1
 unfold setFlight
 refine kD (wX a1 a4 t1 ?_)
 rw[kF (by simp)]
 have hd:=cI t4 (·.setIfInBounds 3 (fr.elim .none λf=>rawInt f))
 refine wpAny_setField t3 t4 hz (q _ (Chg.upd (by simp) λo z=>?_) ⟨vs,x.of λo z=>?_,t1,t2,_,_,wP _ t3 (rN hd),hd,by simp[hz]⟩)
 ·rw[t3]at z
  cases z
  exact rN hd
 ·exact(mZ _ _ t2).trans z
theorem Held.air{f:Value}{h:Heap}(x:Held f h e T C od)(hf:f=.none∨f=rawInt L):Air L h e C od (some T):=let⟨vs,a,b⟩:=x;⟨vs,f,a,b,hf⟩
theorem qDP{tr:Option Addr}{Q:Unit→Shared→Prop}(hfr:A.frames=some (env::outer))(hl:s.heap.FunFrames base (env::outer))(hf:env.frame=some L)(x:Air L s.heap e C od tr)
 (q:∀h' T,Chg ((env::outer).filterMap (·.frame)) (e::tr.toList) s.heap h'→Held .none h' e T C od→(T∈tr∨s.heap.objs.size≤T)→Q () { s with heap:=h' }):wpAny M A (leaving env (.ref e)) Q E s:=by
 unfold leaving
 refine kD (qB7 hfr hl hf x λh' T c hd n=>q2I hd λh2 c2 hd2=>q h2 T ?_ hd2 n)
 refine c.fresh (rs':=[T]) ⟨λb o _ r z=>c2.keep b o (by simp) r z,c2.slot,c2.there⟩ λb hb=>?_
 rw[kI.mp hb]
 exact n.imp (λz=>hU _ (by cases tr with|none=>cases z|some t=>cases z;exact kI.mpr rfl)) pC
end
end L2
namespace L2
open PySem PySem.Spec PyProof.Rows
section
variable{P:Program}{w:World}{H:Hp}{h h':Heap}{a:Addr}{o:HO}
theorem jK.there(x:jK P w H h a o):∃ob,h.get? a=some ob:=by
 cases o with
 |lst xs=>obtain⟨_,_,_,_,e⟩:=x;exact⟨_,e⟩
 |tup xs=>obtain⟨_,_,_,_,e,_⟩:=x;exact⟨_,e⟩
 |dK kvs=>obtain⟨_,_,_,_,o,_,_,e,_⟩:=x;exact⟨_,e⟩
 |dT kvs=>obtain⟨_,_,_,_,o,_,_,e,_⟩:=x;exact⟨_,e⟩
 |set S n=>obtain⟨o,_,_,_,e,_⟩:=x;exact⟨_,e⟩
 |ins C dx fs=>obtain⟨_,_,_,e,_⟩:=x;exact⟨_,e⟩
 |own y=>exact x
 |xd fs=>obtain⟨_,⟨_,_,_,e,_⟩,_⟩:=x;exact⟨_,e⟩
 |rng lo hi=>obtain⟨_,_,_,e⟩:=x;exact⟨_,e⟩
 |frz ob u=>exact⟨_,x.1⟩
 |tbl ps=>exact⟨_,show h.get? a=some _ from x⟩
 |met f y=>exact⟨_,show h.get? a=some _ from x⟩
 |ext φ=>exact x.2.1
theorem HOk.free(x:HOk P w H h)(e:h.get? a=none):H a=none:=by
 cases q:H a with
 |none=>rfl
 |some o=>
  obtain⟨_,z⟩:=(x a o q).there
  rw[e]at z
  cases z
theorem HOk.chg{fr rs:List Addr}(x:HOk P w H h)(c:Chg fr rs h h')(hf:∀b∈fr,H b=none)(hr:∀b∈rs,H b=none):HOk P w H h':=by
 intro a o e
 refine(x a o e).stay (λb u hb z=>?_) (λ_ q=>q) λ_ _ q=>q
 have n:H b≠none:=by
  rcases hb with rfl|q
  ·rw[e];intro y;cases y
  ·rw[q];intro y;cases y
 exact c.keep b u (λm=>n (hf b m)) (λm=>n (hr b m)) z
end
noncomputable def Recs(h:Heap)(rs:List Addr):Prop:=∀b∈rs,∃o vs,h.get? b=some o∧o.data=.fields vs
theorem Air.recs{L e:Addr}{h:Heap}{C:Value}{od tr:Option Addr}(x:Air L h e C od tr):Recs h (e::tr.toList):=by
 intro b hb
 cases tr with
 |none=>
  obtain⟨vs,⟨oe,a1,_,_,a4,_⟩,_⟩:=x
  have e':b=e:=by simpa using hb
  subst e'
  exact⟨_,_,a1,a4⟩
 |some T=>
  obtain⟨vs,f,⟨oe,a1,_,_,a4,_⟩,⟨_,_,oT,ts,t3,t4,_⟩,_⟩:=x
  have e':b=e∨b=T:=by simpa using hb
  rcases e' with rfl|rfl
  ·exact⟨_,_,a1,a4⟩
  ·exact⟨_,_,t3,t4⟩
noncomputable def Ours(X:Cx)(pins:List (Addr×Obj))(H:Hp)(rs:List Addr):Prop:=∀b∈rs,(X.s₀.heap.get? b=none∨b∈X.ex)∧H b=none∧∀p∈X.pn++pins,p.1≠b
section
variable{X:Cx}{pins:List (Addr×Obj)}{σ:St}{H:Hp}{s:Shared}{h':Heap}{rs:List Addr}
theorem Inv.chg{t':Nat}(I:Inv X pins σ H s)(c:Chg (frs X.stack) rs s.heap h')(o:Ours X pins H rs)(rc:Recs s.heap rs):Inv X pins σ H { s with heap:=h',toks:=t' }:=by
 obtain⟨m,hn,hv⟩:=I.loc
 have nl:X.env.locals∉rs:=λz=>by
  obtain⟨ob,vs,e,d⟩:=rc _ z
  obtain⟨o',es,ep,ho,hd,_⟩:=hn
  rw[e]at ho
  cases ho
  rw[d]at hd
  cases hd
 have nc:∀c v,s.heap.IsCell c v→c∉rs:=λc v q z=>by
  obtain⟨ob,vs,e,d⟩:=rc _ z
  obtain⟨o',ho,hd⟩:=q
  rw[e]at ho
  cases ho
  rw[d]at hd
  cases hd
 have cellk:∀c v,s.heap.IsCell c v→h'.IsCell c v:=λa v q=>by
  have n:=nc a v q
  obtain⟨o',ho,hd⟩:=q
  obtain⟨sl,z⟩:=c.slot a o' n ho
  exact⟨_,z,hd⟩
 have old:∀b ob,X.s₀.heap.get? b=some ob→b∉X.ex→b∉rs:=λb ob q ne z=>by
  rcases(o b z).1 with y|y
  ·rw[q]at y;cases y
  ·exact ne y
 have ns':h'.Ns X.env.locals m:=by
  obtain⟨o',es,ep,ho,r⟩:=hn
  obtain⟨sl,z⟩:=c.slot _ o' nl ho
  exact⟨_,es,ep,z,r⟩
 refine⟨I.ok,I.os,I.bare,⟨λb ob q n nf ne=>?_,λb ob q n hf ne=>?_,I.base.free,λb ob q ne=>?_,I.base.tups,I.base.frzs,I.base.tbls⟩,
  ⟨m,ns',λi x v e1 e2 e3=>?_⟩,λx a e=>?_,I.free,I.freeC,λp hp=>?_,I.hok.chg c I.stkFree λb hb=>(o b hb).2.1,I.len⟩
 ·refine c.keep b ob (λz=>?_) (old b ob q ne) (I.base.keep b ob q n nf ne)
  rcases kL.mp (I.stkSub b z)with rfl|y
  ·exact absurd (kX q) (pU.mpr I.ok.above)
  ·exact nf y
 ·obtain⟨sl,z⟩:=I.base.slot b ob q n hf ne
  obtain⟨sl',z'⟩:=c.slot b _ (old b ob q ne) z
  exact⟨sl',z'⟩
 ·obtain⟨o',z⟩:=I.base.there b ob q ne
  exact c.there b o' z
 ·obtain⟨u,r,lk⟩:=hv i x v e1 e2 e3
  refine⟨u,r,lk.imp id λ⟨k,cc,l,q⟩=>⟨k,cc,l,cellk _ _ q⟩⟩
 ·obtain⟨v,q⟩:=I.cell x a e
  exact⟨v,cellk _ _ q⟩
 ·obtain⟨p1,p2,p3,p4,p5⟩:=I.pin p hp
  refine⟨c.keep _ _ (λz=>?_) (λz=>(o _ z).2.2 p hp rfl) p1,p2,p3,p4,p5⟩
  rcases kL.mp (I.stkSub _ z)with y|y
  ·exact p3 y
  ·exact p4 y
end
noncomputable def CXe(P:Program)(w:World):CXT:=λouter H s E e s'=>∃ea T C od H',e=.ref ea∧s'.os=s.os∧AllBare s'.gens∧Un (frs outer) [] H H' s.heap s'.heap∧HOk P w H' s'.heap∧
 Held .none s'.heap ea T C od∧(s.heap.get? ea=none∧s.heap.get? T=none)∧(H' ea=none∧H' T=none)∧E C od H'
noncomputable def q2W(X:Cx)(ES:St→XK):Prop:=∀(pins:List (Addr×Obj)) (σ:St) (H:Hp) (s:Shared) (ea:Addr) (tr:Option Addr) (C:Value) (od:Option Addr),
 Inv X pins σ H s→Air X.env.locals s.heap ea C od tr→Ours X pins H (ea::tr.toList)→ES σ C od H→X.xe (.ref ea) s
noncomputable def qFO(CX:CXT)(X:Cx)(ES:St→XK):Prop:=∀(pins:List (Addr×Obj)) (σ:St) (H:Hp) (s:Shared) (e:Value) (s':Shared),Inv X pins σ H s→CX X.stack H s (ES σ) e s'→X.xe e s'
theorem q2W.passes{X:Cx}{ES:St→XK}(t:q2W X ES):qFO (CXe X.prog X.w) X ES:=by
 intro pins σ H s e s' I hZ
 obtain⟨ea,T,C,od,H',e1,ho,hg,u,hok,hd,⟨f1,f2⟩,⟨g1,g2⟩,q⟩:=hZ
 subst e1
 refine t pins σ H' s' ea (some T) C od (I.call' ho u hok hg λb hb=>by cases hb) (hd.air (.inl rfl)) (λb hb=>?_) q
 have key:∀b,s.heap.get? b=none→H' b=none→(X.s₀.heap.get? b=none∨b∈X.ex)∧H' b=none∧∀p∈X.pn++pins,p.1≠b:=λb f g=>by
  refine⟨?_,g,λp hp z=>?_⟩
  ·by_cases y:b∈X.ex
   ·exact .inr y
   ·refine .inl ?_
    cases z:X.s₀.heap.get? b with
    |none=>rfl
    |some ob=>
     obtain⟨o',z'⟩:=I.base.there b ob z y
     rw[f]at z'
     cases z'
  ·have y:=(I.pin p hp).1
   rw[z,f]at y
   cases y
 have e':b=ea∨b=T:=by simpa using hb
 rcases e' with rfl|rfl
 ·exact key _ f1 g1
 ·exact key _ f2 g2
theorem jH{P:Program}{w:World}{K:PySem.W.Frag}{mg:Str→Option Value}{base:Heap}{N:List Str}{qual:Str}{scope:Scope}{f:Addr}{cd:Value}{A:Around}{outer:List Env}{s:Shared}{H:Hp}{E:XK}:
 q2W (cxOf (CXe P w) P w K mg base N qual scope f cd A outer s H E) (λ_=>E):=by
 intro pins σ H' s' ea tr C od I air ours q
 refine qDP (base:=base) I.ok.frames I.stack rfl air λh' T c hd n=>?_
 have I2:=I.chg (t':=s'.toks) c ours air.recs
 have out:∀b,s'.heap.objs.size≤b→s.heap.get? b=none:=λb z=>by
  cases y:s.heap.get? b with
  |none=>rfl
  |some ob=>
   obtain⟨o',y'⟩:=I.base.there b ob y (by intro m;cases m)
   exact absurd (kX y') (pU.mpr z)
 have own:∀b,b∈ea::tr.toList→s.heap.get? b=none∧H' b=none:=λb hb=>⟨(ours b hb).1.elim id (λz=>by cases z),(ours b hb).2.1⟩
 have hT:s.heap.get? T=none∧H' T=none:=by
  rcases n with z|z
  ·exact own T (hU _ (by cases tr with|none=>cases z|some t=>cases z;exact kI.mpr rfl))
  ·exact⟨out T z,I.hok.fresh z⟩
 exact⟨ea,T,C,od,H',rfl,I.os,I.bare,I2.base,I2.hok,hd,⟨(own ea (kW)).1,hT.1⟩,⟨(own ea (kW)).2,hT.2⟩,q⟩
noncomputable def qDQ(C:Addr)(m:Str)(sp:Sp)(dvs:List V)(ES:St→XK)(ta:TE)(t:TA):TE:=λσ H Q=>ta σ H λx H1=>∃a dx fs,x=.ref a∧H1 a=some (.ins C dx fs)∧fs.lookup m=none∧
 t σ H1 λvs H2=>sp (x::(vs++dvs)) H2 Q (ES σ)
theorem q1I{X:Cx}:q2W X (λ_ _ _ _=>False):=λ_ _ _ _ _ _ _ _ _ _ _ h=>h.elim
section
variable{X:Cx}{k:Nat}{f C:Addr}{fd:FuncData}{ps:List Str}{sp:Sp}{dvs:List V}{ds:List Value}{E:XK}{ES:St→XK}{x m:Str}{p pos apos:Pos}{e o:Expr}{es:List Expr}{ta:TE}{t:TA}
theorem qB8{pins:List (Addr×Obj)}{σ:St}{H:Hp}{s:Shared}{Q:VK}{us:List Value}{vs:List V}(F:FnOk X.prog X.w X.K X.mg X.base (CXe X.prog X.w) k f fd ps sp)(hr:Room k X.A)(hb:yG X.K fd ps ds)(hd:Vals dvs ds)(tk:q2W X ES)
 (I:Inv X pins σ H s) (r:Vals vs us) (h:sp (vs++dvs) H Q (ES σ)):wpAny (model X.prog X.w) X.A (call (.ref f) us) (EP X pins σ Q) X.xe s:=by
 have r2:Vals (vs++dvs) (us++ds):=r.append hd
 have hl:(us++ds).length=ps.length:=by rw[←r2.length];exact F.len _ _ _ _ h
 refine cY (cP (F.run X.A X.stack s H ⟨us,[]⟩ (us++ds) (vs++dvs) Q (ES σ) hr I.env0 (hb s us I.kIn hl) r2 h) λr s' hq=>?_)
 cases r with
 |error e=>exact tk.passes pins σ H s e s' I hq
 |ok fl=>
  cases fl with
  |ret u=>exact I.after hq
  |next=>exact False.elim hq
  |brk=>exact False.elim hq
  |cont=>exact False.elim hq
theorem jW{pl:Sem Bool}(tk:q2W X ES)(he:PE X o ta)(c:Cls X.K C)(hm:Meth X.K C m f)(F:FnOk X.prog X.w X.K X.mg X.base (CXe X.prog X.w) k f fd ps sp)(hr:Room k X.A)(hb:yG X.K fd ps ds)(hd:Vals dvs ds)(ha:PA X (e::es) t)
 (hst:starEach (e::es) X.env=(false,eval e X.env)::starEach es X.env:=by rfl) (hpl:(backTo pos (starEach es X.env)).any (·.1)=false:=by rfl)
 (ht:eval (.Call (.Attribute o m apos) (e::es) [] pos) X.env=(do
  let ov←eval o X.env
  standAt apos.atName
  let(f,first)←holding [ov] (getMethod ov m pl)
  callWith pos f first (backTo pos (starEach (e::es) X.env)) (backToKw pos (keywordEach [] X.env))):=by rfl):
 PE X (.Call (.Attribute o m apos) (e::es) [] pos) (qDQ C m sp dvs ES ta t):=by
 intro pins s σ H Q I h
 refine rM (pl:=pl) (thn (he pins s σ H _ I h) λu s1 hZ=>?_) ht
 obtain⟨x,H1,I1,rx,a,dx,fs,ex,ea,l,q⟩:=hZ
 subst ex
 obtain rfl:u=Value.ref a:=rx
 refine q0P I1 ea c hm l ?_
 refine wJ (first:=[.ref a]) (h₀:=X.base) I.ok.mod.kin hm.kp (thn (ha pos pins s1 σ H1 _ I1 q) λus s2 ⟨vs,H2,I2,r,q2⟩=>⟨I2.kIn,?_⟩) hst hpl
 exact qB8 (us:=.ref a::us) (vs:=.ref a::vs) F hr hb hd tk I2 (.cons rfl r) q2
theorem v7{pl:Sem Bool}(tk:q2W X ES)(he:PE X o ta)(c:Cls X.K C)(hm:Meth X.K C m f)(F:FnOk X.prog X.w X.K X.mg X.base (CXe X.prog X.w) k f fd ps sp)(hr:Room k X.A)(hb:yG X.K fd ps ds)(hd:Vals dvs ds)
 (ht:eval (.Call (.Attribute o m apos) [] [] pos) X.env=(do
  let ov←eval o X.env
  standAt apos.atName
  let(f,first)←holding [ov] (getMethod ov m pl)
  callWith pos f first (backTo pos (starEach [] X.env)) (backToKw pos (keywordEach [] X.env))):=by rfl):
 PE X (.Call (.Attribute o m apos) [] [] pos) (qDQ C m sp dvs ES ta tNil):=by
 intro pins s σ H Q I h
 refine rM (pl:=pl) (thn (he pins s σ H _ I h) λu s1 hZ=>?_) ht
 obtain⟨x,H1,I1,rx,a,dx,fs,ex,ea,l,q⟩:=hZ
 subst ex
 obtain rfl:u=Value.ref a:=rx
 refine q0P I1 ea c hm l ?_
 exact pM (first:=[.ref a]) I1.kIn hm.kp (qB8 (us:=[.ref a]) (vs:=[.ref a]) F hr hb hd tk I1 (.cons rfl .nil) q)
end
structure FunD(K:PySem.W.Frag)(x qual:Str)(st:Stmt)(dV:Value)(f:Addr)(fd:FuncData):Prop where
 ex:∃(oc:Value) (od:Option Addr) (kV doc pm:Value) (an:Option Addr) (cdv ct:Value) (osl:Array (Option Value)),
  fd=PySem.W.fnOf x qual (yJ st) (yB st) (qH st) dV kV doc pm an cdv ct∧K.lookup f=some ⟨oc,od,.func fd,osl⟩∧PySem.W.codeIn K cdv qual=true
section
variable{P:Program}{w:World}{K:PySem.W.Frag}{mg:Str→Option Value}{base:Heap}{dV:Value}
theorem FunD.mk'{x qual:Str}{st:Stmt}{f:Addr}{oc:Value}{od an:Option Addr}{osl:Array (Option Value)}{kV doc pm cdv ct:Value}(l:K.lookup f=some ⟨oc,od,.func (PySem.W.fnOf x qual (yJ st) (yB st) (qH st) dV kV doc pm an cdv ct),osl⟩)
 (c:PySem.W.codeIn K cdv qual=true):FunD K x qual st dV f (PySem.W.fnOf x qual (yJ st) (yB st) (qH st) dV kV doc pm an cdv ct):=⟨⟨oc,od,kV,doc,pm,an,cdv,ct,osl,rfl,l,c⟩⟩
theorem FunD.okE{x qual:Str}{st:Stmt}{f:Addr}{fd:FuncData}{N ps:List Str}{k:Nat}{sp:Sp}(F:FunD K x qual st dV f fd)(S:FnScope N ps (qH st))(len:∀vs H Q E,sp vs H Q E→vs.length=ps.length)
 (hbody:∀(cdv:Value) (A:Around) (outer:List Env) (s:Shared) (H:Hp) (vs:List V) (Q:VK) (E:XK),Room k (A.deeper (envOfC qual (qH st) s.heap.objs.size f cdv))→sp vs H Q E→
  ∃t,PSs (cxOf (CXe P w) P w K mg base N qual (qH st) f cdv A outer s H E) (yB st) t∧t { nx:=λ_ H'=>Q .non H',rt:=Q } (q2V N vs) H):FnOk P w K mg base (CXe P w) (k+1) f fd ps sp:=by
 obtain⟨oc,od,kV,doc,pm,an,cdv,ct,osl,rfl,lk,hcd⟩:=F.ex
 exact qD7 lk hcd S len λA outer s H vs Q E hr hsp=>hbody cdv A outer s H vs Q E hr hsp
theorem FunD.ok0{x qual:Str}{st:Stmt}{f:Addr}{fd:FuncData}{N ps:List Str}{k:Nat}{sp:Sp}(F:FunD K x qual st dV f fd)(S:FnScope N ps (qH st))
 (hbody:∀(cdv:Value) (A:Around) (outer:List Env) (s:Shared) (H:Hp) (vs:List V) (Q:VK) (E:XK),Room k (A.deeper (envOfC qual (qH st) s.heap.objs.size f cdv))→sp vs H Q E→
  ∃t,PSs (cxOf CX0 P w K mg base N qual (qH st) f cdv A outer s H E).nox (yB st) t∧t { nx:=λ_ H'=>Q .non H',rt:=Q } (q2V N vs) H)(len:∀vs H Q E,sp vs H Q E→vs.length=ps.length:=by intro _ _ _ _ h;(repeat obtain⟨_,h⟩:=h);all_goals subst_vars;rfl):FnOk P w K mg base CX0 (k+1) f fd ps sp:=by
 obtain⟨oc,od,kV,doc,pm,an,cdv,ct,osl,rfl,lk,hcd⟩:=F.ex
 refine qD7 lk hcd S len λA outer s H vs Q E hr hsp=>?_
 obtain⟨t,h,q⟩:=hbody cdv A outer s H vs Q E hr hsp
 exact⟨t,h.nox,q⟩
end
noncomputable abbrev bmVE:List Value:=[.type "ValueError",.type "Exception",.type "BaseException",.type "object"]
noncomputable abbrev XCls(K:PySem.W.Frag)(C:Addr):Prop:=PySem.W.excIn K C bmVE "ValueError.__new__"=true
theorem qFP{K:PySem.W.Frag}{C:Addr}(q:XCls K C):∃bm N nm qn bs hd sn sub ab col dd k0 k1 k2 k3 k5,K.lookup C=some (excClassObj nm qn C N bs bm hd sn sub ab col dd k0 k1 k2 k3 k5 "ValueError.__new__")∧
 PySem.W.tailIn K bmVE bm=true∧PySem.W.nsOkIn K N=true∧PySem.W.nsIn K N "__init__"=some none:=by
 unfold XCls PySem.W.excIn at q
 split at q
 ·rename_i dd cd sl ho
  split at q
  ·rename_i C' bm k0 k1 k2 k3 n k5 hm hs
   obtain⟨nm,bs,mro,ns,qn,hd,sn,sub,ab,col,del⟩:=cd
   obtain⟨l⟩:=sl
   simp only[mO,r6,dZ]at q hm hs
   obtain⟨⟨⟨⟨⟨e1,e2⟩,e3⟩,e4⟩,e5⟩,e6⟩:=q
   subst e1 e2 e3 hm hs
   exact⟨bm,ns,nm,qn,bs,hd,sn,sub,ab,col,dd,k0,k1,k2,k3,k5,ho,e4,e5,e6⟩
  ·cases q
 ·cases q
noncomputable def qIP(ES:St→XK)(C:Addr)(t:TA):TS:=λ_ σ H=>t σ H λvs H1=>vs.length≤sizeLine∧ES σ (.ref C) none H1
section
variable{X:Cx}{ES:St→XK}{C:Addr}{x:Str}{np cpos pos:Pos}{e:Expr}{es:List Expr}{t:TA}
theorem qDR{pins:List (Addr×Obj)}{σ:St}{H:Hp}{s:Shared}{h':Heap}{ea:Addr}{C:Value}{vs:List Value}(I:Inv X pins σ H s)(m:Heap.MadeExcOf s.heap h' ea C vs):
 Air X.env.locals h' ea C none none∧Ours X pins H [ea]:=by
 obtain⟨t,m1,m2,m3⟩:=m.there
 refine⟨⟨_,⟨_,m1,rfl,rfl,rfl,by simp⟩,rfl⟩,λb hb=>?_⟩
 rw[kI.mp hb]
 refine⟨?_,I.hok.free m.new,λp hp z=>?_⟩
 ·by_cases y:ea∈X.ex
  ·exact .inr y
  ·refine .inl ?_
   cases z:X.s₀.heap.get? ea with
   |none=>rfl
   |some ob=>
    obtain⟨o',z'⟩:=I.base.there ea ob z y
    rw[m.new]at z'
    cases z'
 ·have y:=(I.pin p hp).1
  rw[z,m.new]at y
  cases y
theorem q9A(tk:q2W X ES)(hc:X.calm=true)(hg:Gl X x)(hm:X.mg x=some (.ref C))(hx:XCls X.K C)(ha:PA X (e::es) t)(hdb:(x==("__debug__":Str))=false:=by decide)
 (he:starEach (e::es) X.env=(false,eval e X.env)::starEach es X.env:=by rfl) (hpl:(backTo cpos (starEach es X.env)).any (·.1)=false:=by rfl):
 PS X (.Raise (some (.Call (.Name x np) (e::es) [] cpos)) none pos) (qIP ES C t):=by
 intro pins s σ H D I hq
 obtain⟨bm,N,nm,qn,bs,hd,sn,sub,ab,col,dd,k0,k1,k2,k3,k5,lk,tl,ok,ni⟩:=qFP hx
 have kb:=I.mod.kin
 have T0:=PySem.W.tail_of_in kb tl
 have hN:X.base.Ns N (X.base.nsMap N):=.of_isNs (PySem.W.isNs_of_in kb ok)
 have hni:=PySem.W.nsMap_none_of_in kb ok ni
 have hplain:(backTo cpos (starEach (e::es) X.env)).any (·.1)=false:=by
  rw[he]
  show(false||(backTo cpos (starEach es X.env)).any (·.1))=false
  rw[hpl]
  rfl
 refine wpAny_Raise_call_subT (C:=C) (nm:=nm) (q:=qn) (N:=N) (bs:=bs) (bm:=bm) (hdct:=hd) (sn:=sn) (sub:=sub) (ab:=ab) (col:=col) (dd:=dd) (k0:=k0) (k1:=k1) (k2:=k2) (k3:=k3) (k5:=k5) (mN:=X.base.nsMap N)
  PySem.F.excBase_ValueError (T0.hasType (by decide)) (I.ok.hd hc) hplain hni (q2G I hg hm ⟨rfl,?_⟩ hdb)
 have h0:=ha cpos pins s σ H _ I hq
 rw[he]at h0 ⊢
 refine PySem.Calls.evalArgs_plain (dC h0 (λus s1 h1=>?_) λ_ _ y=>y)
 obtain⟨vs,H1,I1,r,hz,hE⟩:=h1
 refine⟨rfl,by rw[←r.length];exact hz,I1.bk _ _ (kb _ _ lk),?_,T0.keeps I1.bk,λh' ea m=>?_⟩
 ·obtain⟨o',es',ep',z,rr⟩:=hN
  exact⟨o',es',ep',I1.bk _ _ z,rr⟩
 ·obtain⟨air,ours⟩:=qDR I1 m
  refine tk pins σ H1 { s1 with heap:=h' } ea none (.ref C) none (I1.kept (t':=s1.toks) m.keeps) air ours hE
end
noncomputable abbrev Cx.tr(X:Cx)(pins:List (Addr×Obj))(XE:Value→Shared→Prop):Cx:={ X with pn:=X.pn++pins,xe:=XE }
noncomputable abbrev Cx.sui(X:Cx)(e:Addr):Cx:={ X with A:=X.A.mark (some (.ref e)),calm:=false,xe:=λ_ _=>False }
theorem Chg.mono{fr fr' rs rs':List Addr}{h h':Heap}(c:Chg fr rs h h')(f:∀b∈fr,b∈fr')(r:∀b∈rs,b∈rs'):Chg fr' rs' h h':=
 ⟨λb o a z e=>c.keep b o (λy=>a (f b y)) (λy=>z (r b y)) e,λb o z e=>c.slot b o (λy=>z (r b y)) e,c.there⟩
theorem Held.recs{f:Value}{e T:Addr}{h:Heap}{C:Value}{od:Option Addr}(x:Held f h e T C od):Recs h [e,T]:=by
 obtain⟨vs,⟨oe,a1,_,_,a4,_⟩,_,_,oT,ts,t3,t4,_⟩:=x
 intro b hb
 have e':b=e∨b=T:=by simpa using hb
 rcases e' with rfl|rfl
 ·exact⟨_,_,a1,a4⟩
 ·exact⟨_,_,t3,t4⟩
section
variable{X:Cx}{pins:List (Addr×Obj)}{σ:St}{H:Hp}{s:Shared}{XE:Value→Shared→Prop}
theorem Inv.tr(I:Inv X pins σ H s)(XE:Value→Shared→Prop):Inv (X.tr pins XE) [] σ H s:=
 have ok:=I.ok
 ⟨⟨ok.mod,ok.kind,ok.glob,ok.blt,ok.above,ok.inj,ok.has,ok.cab,ok.hd,ok.frames,ok.stk,ok.exf,ok.bs,ok.bsz,ok.noex,ok.exfs,ok.funs,ok.frf⟩,I.os,I.bare,I.base,I.loc,I.cell,I.free,I.freeC,λp hp=>I.pin p (by simpa using hp),I.hok,I.len⟩
theorem Inv.untr{ps:List (Addr×Obj)}(I:Inv (X.tr pins XE) ps σ H s):Inv X pins σ H s:=
 have ok:=I.ok
 ⟨⟨ok.mod,ok.kind,ok.glob,ok.blt,ok.above,ok.inj,ok.has,ok.cab,ok.hd,ok.frames,ok.stk,ok.exf,ok.bs,ok.bsz,ok.noex,ok.exfs,ok.funs,ok.frf⟩,I.os,I.bare,I.base,I.loc,I.cell,I.free,I.freeC,λp hp=>I.pin p (gU _ hp),I.hok,I.len⟩
theorem Inv.sui(I:Inv X pins σ H s)(e:Addr):Inv (X.sui e) pins σ H s:=
 have ok:=I.ok
 ⟨⟨ok.mod,ok.kind,ok.glob,ok.blt,ok.above,ok.inj,ok.has,ok.cab,(λz=>by cases z),ok.frames,ok.stk,ok.exf,ok.bs,ok.bsz,ok.noex,ok.exfs,ok.funs,ok.frf⟩,I.os,I.bare,I.base,I.loc,I.cell,I.free,I.freeC,I.pin,I.hok,I.len⟩
theorem Inv.unsui{e:Addr}(hc:X.calm=true→X.A.handled=none)(I:Inv (X.sui e) pins σ H s):Inv X pins σ H s:=
 have ok:=I.ok
 ⟨⟨ok.mod,ok.kind,ok.glob,ok.blt,ok.above,ok.inj,ok.has,ok.cab,hc,ok.frames,ok.stk,ok.exf,ok.bs,ok.bsz,ok.noex,ok.exfs,ok.funs,ok.frf⟩,I.os,I.bare,I.base,I.loc,I.cell,I.free,I.freeC,I.pin,I.hok,I.len⟩
theorem SP.untr{D:Ends}{f:Flow}{s':Shared}(h:SP (X.tr pins XE) [] D f s'):SP X pins D f s':=by
 cases f with
 |next=>obtain⟨σ',H',I,q⟩:=h;exact⟨σ',H',I.untr,q⟩
 |brk=>obtain⟨σ',H',I,q⟩:=h;exact⟨σ',H',I.untr,q⟩
 |cont=>obtain⟨σ',H',I,q⟩:=h;exact⟨σ',H',I.untr,q⟩
 |ret u=>obtain⟨v,σ',H',I,r,q⟩:=h;exact⟨v,σ',H',I.untr,r,q⟩
theorem SP.unsui{e:Addr}{D:Ends}{f:Flow}{s':Shared}(hc:X.calm=true→X.A.handled=none)(h:SP (X.sui e) pins D f s'):SP X pins D f s':=by
 cases f with
 |next=>obtain⟨σ',H',I,q⟩:=h;exact⟨σ',H',I.unsui hc,q⟩
 |brk=>obtain⟨σ',H',I,q⟩:=h;exact⟨σ',H',I.unsui hc,q⟩
 |cont=>obtain⟨σ',H',I,q⟩:=h;exact⟨σ',H',I.unsui hc,q⟩
 |ret u=>obtain⟨v,σ',H',I,r,q⟩:=h;exact⟨v,σ',H',I.unsui hc,r,q⟩
end
noncomputable def qK7(ea:Addr)(C:Value)(od:Option Addr):Heap→Prop:=λh=>∃o vs,h.get? ea=some o∧o.cls=C∧o.dict=od∧o.data=.fields vs
noncomputable abbrev XO(ea:Addr)(C:Value)(od:Option Addr):HO:=.ext (qK7 ea C od)
noncomputable abbrev TH:=Ends→St→Hp→Addr→Value→Option Addr→Prop
noncomputable def PHs(X:Cx)(hs:List ExceptHandler)(t:TH):Prop:=∀(pins:List (Addr×Obj)) (s:Shared) (σ:St) (H:Hp) (D:Ends) (ea T:Addr) (C:Value) (od:Option Addr),
 Inv X pins σ H s→Held .none s.heap ea T C od→Ours X pins H [ea,T]→t D σ H ea C od→wpAny (model X.prog X.w) X.A (handleBy (.ref ea) X.env hs) (SP X pins D) X.xe s
section
variable{X:Cx}{ES:St→XK}
theorem qIQ(tk:q2W X ES)(hf:X.env.frame=some X.env.locals:=by rfl):PHs X [] (λ_ σ H _ C od=>ES σ C od H):=by
 intro pins s σ H D ea T C od I hd ours q
 refine wpAny_handleBy_nil ?_
 unfold PySem.passOn
 have rc:=hd.recs
 obtain⟨vs,x,t1,t2,oT,ts,t3,t4,t5⟩:=id hd
 obtain⟨oe,a1,a2,a3,a4,a5⟩:=id x
 refine kD (wX a1 a4 t1 ?_)
 rw[kB (by simp)]
 refine kD (q2I hd λh' c hd2=>wpAny_throw ?_)
 rw[hf]at hd2
 exact tk pins σ H { s with heap:=h' } ea (some T) C od (I.chg (t':=s.toks) (rs:=[ea,T]) (c.mono (by simp) (by simp)) ours rc) (hd2.air (.inr rfl)) ours q
theorem Inv.pinX{pins:List (Addr×Obj)}{σ:St}{H:Hp}{s:Shared}{ea T:Addr}{C:Value}{od:Option Addr}{f:Value}(I:Inv X pins σ H s)(hd:Held f s.heap ea T C od)(ours:Ours X pins H [ea,T]):
 ∃oe oT,Inv X (pins++[(ea,oe),(T,oT)]) σ H s∧∀h':Heap,h'.get? ea=some oe→h'.get? T=some oT→Held f h' ea T C od:=by
 have rc:=hd.recs
 obtain⟨vs,⟨oe,a1,a2,a3,a4,a5⟩,t1,t2,oT,ts,t3,t4,t5⟩:=hd
 refine⟨oe,oT,I.pins_of λp hp=>?_,λh' z1 z2=>⟨vs,⟨oe,z1,a2,a3,a4,a5⟩,t1,t2,oT,ts,z2,t4,t5⟩⟩
 have nl:∀b o ws,s.heap.get? b=some o→o.data=.fields ws→b≠X.env.locals∧b∉X.fs:=λb o ws e d=>by
  refine⟨λz=>?_,λz=>?_⟩
  ·obtain⟨m,⟨o',es,ep,ho,hd',_⟩,_⟩:=I.loc
   rw[←z,e]at ho
   cases ho
   rw[d]at hd'
   cases hd'
  ·obtain⟨_,o',ho,hn⟩:=I.funs.mem z
   rw[e]at ho
   cases ho
   exact hn _ d
 rcases gM.mp hp with z|z
 ·exact I.pin p (mJ _ z)
 ·have z:p=(ea,oe)∨p=(T,oT):=by simpa using z
  rcases z with rfl|rfl
  ·exact⟨a1,(ours ea (by simp)).2.1,(nl _ _ _ a1 a4).1,(nl _ _ _ a1 a4).2,λv q=>by rw[a4]at q;cases q⟩
  ·exact⟨t3,(ours T (by simp)).2.1,(nl _ _ _ t3 t4).1,(nl _ _ _ t3 t4).2,λv q=>by rw[t4]at q;cases q⟩
theorem q9B{ty:Expr}{c:V}{cv:Value}{pins:List (Addr×Obj)}{s:Shared}{σ:St}{H:Hp}{ea T:Addr}{C:Value}{od:Option Addr}{b:Bool}{R:Result→Shared→Prop}{pos:Pos}(hc:PE (X.sui ea) ty (tC c))(rc:RelV c cv)
 (I:Inv X pins σ H s) (hh:X.calm=true→X.A.handled=none) (hd:Held .none s.heap ea T C od) (ours:Ours X pins H [ea,T]) (hx:PySem.W.exmOne X.K C cv=some b) (q:∀s',Inv X pins σ H s'→Held .none s'.heap ea T C od→R (.ok (if b then .brk else .next)) s'):
 codeAny (model X.prog X.w) (X.A.mark (some (.ref ea))) (.handlers (.ref ea) [.ExceptHandler (some ty) none [] pos] X.env) R s:=by
 obtain⟨oe,oT,I1,back⟩:=I.pinX hd ours
 refine codeAny_handlers_test (dC (hc _ s σ H (λv H'=>v=c∧H'=H) (I1.sui ea) ⟨rfl,rfl⟩) (λu s1 h1=>?_) λ_ _ z=>z.elim)
 obtain⟨v,H',I2,r,e1,e2⟩:=h1
 subst e1 e2
 have e3:u=cv:=by
  cases v with
  |non=>exact r.trans rc.symm
  |bl b=>exact r.trans rc.symm
  |ref a=>exact r.trans rc.symm
  |ty n=>exact r.trans rc.symm
  |int i=>obtain⟨t,e⟩:=r;obtain⟨t',e'⟩:=rc;subst e';unfold PySem.W.exmOne at hx;split at hx<;>cases hx
  |str i=>obtain⟨t,e⟩:=r;obtain⟨t',e'⟩:=rc;subst e';unfold PySem.W.exmOne at hx;split at hx<;>cases hx
  |byt i=>obtain⟨t,e⟩:=r;obtain⟨t',e'⟩:=rc;subst e';unfold PySem.W.exmOne at hx;split at hx<;>cases hx
  |flt i=>obtain⟨t,e⟩:=r;obtain⟨t',e'⟩:=rc;subst e';unfold PySem.W.exmOne at hx;split at hx<;>cases hx
 subst e3
 have p1:=(I2.pin (ea,oe) (by simp)).1
 have p2:=(I2.pin (T,oT) (by simp)).1
 have hd1:=back _ p1 p2
 obtain⟨vs,⟨oe',z1,z2,_⟩,_⟩:=id hd1
 have LT:PySem.W.Looks (model X.prog X.w) s1.heap (typeOf (.ref ea)) C:=by
  rw[←z2]
  exact(PySem.W.Looks.ld z1).andThen .now
 have I3:Inv X pins σ H' s1:=(Inv.unsui hh I2).unpinned
 exact(PySem.W.exm_one I2.kIn LT hx).here (q s1 I3 hd1)
theorem qFQ{ty:Expr}{c:V}{cv:Value}{b₀:Stmt}{suite:List Stmt}{pos:Pos}{rest:List ExceptHandler}{ts:TS}{tr:TH}(hc:∀ea,PE (X.sui ea) ty (tC c))(rc:RelV c cv)(hs:∀ea,PSs (X.sui ea) (b₀::suite) ts)(hr:PHs X rest tr):
 PHs X (.ExceptHandler (some ty) none (b₀::suite) pos::rest) (λD σ H ea C od=>∃b,PySem.W.exmOne X.K C cv=some b∧if b=true then ts D σ H else tr D σ H ea C od):=by
 intro pins s σ H D ea T C od I hd ours hZ
 obtain⟨b,hx,q⟩:=hZ
 refine wpAny_handleBy_cons (q9B (hc ea) rc I I.ok.hd hd ours hx λs' I' hd'=>?_) (by intro z;cases z)
 cases b with
 |false=>
  rw[kB (by simp)]at q
  exact hr pins s' σ H D ea T C od I' hd' ours q
 |true=>
  rw[kF rfl]at q
  refine codeAny_handlers_suite (q2I hd' λh' c hd2=>?_)
  have I2:=I'.chg (t':=s'.toks) (rs:=[ea,T]) (c.mono (by simp) (by simp)) ours hd'.recs
  exact dC (hs ea pins { s' with heap:=h' } σ H D (I2.sui ea) q) (λf s2 z=>z.unsui I.ok.hd) λ_ _ z=>z.elim
noncomputable def tTry(tb:(St→XK)→TS)(th:TH):TS:=λD σ H=>tb (λσ' C od H'=>∀ea,H' ea=none→th D σ' H' ea C od) D σ H
theorem qIR{body:List Stmt}{h₀:ExceptHandler}{hs:List ExceptHandler}{pos:Pos}{tb:(St→XK)→TS}{th:TH}
 (hb:∀(pins:List (Addr×Obj)) (XE:Value→Shared→Prop) (ES:St→XK),q2W (X.tr pins XE) ES→PassesOwn (model X.prog X.w) X.A X.env XE→PSs (X.tr pins XE) body (tb ES)) (hh:PHs X (h₀::hs) th)
 (hfs:∃fr,X.stack=X.env::fr:=by exact⟨_,rfl⟩) (hf:X.env.frame=some X.env.locals:=by rfl):PS X (.Try body (h₀::hs) [] [] pos) (tTry tb th):=by
 intro pins s σ H D I q
 refine wpAny_Try_except (dC (hb pins (λe s1=>wpAny (model X.prog X.w) X.A (noteFrame e X.env) (λ_ s2=>wpAny (model X.prog X.w) X.A (setFlight e none) (λ_ s3=>wpAny (model X.prog X.w) X.A (handleBy e X.env (h₀::hs)) (SP X pins D) X.xe s3) X.xe s2) X.xe s1)
  (λσ' C od H'=>∀ea,H' ea=none→th D σ' H' ea C od) ?_ PassesOwn.looking [] s σ H D (I.tr _) q) (λf s1 z=>?_) λe s1 z=>z)
 ·intro pins' σ' H' s' ea tr C od I' air ours y
  obtain⟨fr,ek⟩:=hfs
  have frames:X.A.frames=some (X.env::fr):=by rw[I.ok.frames,ek]
  have ff:s'.heap.FunFrames X.base (X.env::fr):=by rw[←ek];exact I'.stack
  refine qB7 frames ff hf air λh' T c hd n=>?_
  have en:frs X.stack=(X.env::fr).filterMap (·.frame):=by rw[ek];rfl
  have I2:Inv (X.tr pins _) pins' σ' H' { s' with heap:=h' }:=I'.chg (t':=s'.toks) (by show Chg (frs X.stack) _ _ _;rw[en];exact c) ours air.recs
  have oT:Ours (X.tr pins λe s1=>wpAny (model X.prog X.w) X.A (noteFrame e X.env) (λ_ s2=>wpAny (model X.prog X.w) X.A (setFlight e none) (λ_ s3=>wpAny (model X.prog X.w) X.A (handleBy e X.env (h₀::hs)) (SP X pins D) X.xe s3) X.xe s2) X.xe s1) pins' H' [ea,T]:=by
   intro b hb
   have hb:b=ea∨b=T:=by simpa using hb
   rcases hb with rfl|rfl
   ·exact ours b (by simp)
   ·rcases n with z|z
    ·exact ours b (hU _ (by cases tr with|none=>cases z|some t=>cases z;exact kI.mpr rfl))
    ·refine⟨?_,I'.hok.fresh z,λp hp w=>?_⟩
     ·by_cases y:b∈X.ex
      ·exact .inr y
      ·refine .inl ?_
       cases w:X.s₀.heap.get? b with
       |none=>rfl
       |some ob=>
        obtain⟨o',w'⟩:=I'.base.there b ob w y
        exact absurd (kX w') (pU.mpr z)
     ·have w':=(I'.pin p hp).1
      rw[w]at w'
      exact absurd (kX w') (pU.mpr z)
  refine q2I hd λh2 c2 hd2=>?_
  have I3:=I2.chg (t':=s'.toks) (rs:=[ea,T]) (c2.mono (by simp) (by simp)) oT hd.recs
  exact hh pins _ σ' H' D ea T C od I3.untr hd2 (λb hb=>⟨(oT b hb).1,(oT b hb).2.1,λp hp=>(oT b hb).2.2 p (gU _ hp)⟩) (y ea (ours ea (by simp)).2.1)
 ·have z:=z.untr
  cases f with
  |next=>obtain⟨σ',H',I',y⟩:=z;exact qQ pins s1 σ' H' D I' y
  |_=>exact z
end
noncomputable def NewX(ea:Addr)(C:Value)(od:Option Addr):Heap→Prop:=λh=>∃vs sl,h.get? ea=some ⟨C,od,.fields vs,sl⟩∧1<vs.size∧vs[1]?=some .none
noncomputable abbrev XN(ea:Addr)(C:Value)(od:Option Addr):HO:=.ext (NewX ea C od)
noncomputable def qHB(X:Cx)(pins:List (Addr×Obj))(a:Addr):Prop:=(X.s₀.heap.get? a=none∨a∈X.ex)∧∀p∈X.pn++pins,p.1≠a
section
variable{X:Cx}{pins:List (Addr×Obj)}{σ:St}{H:Hp}{s:Shared}{a:Addr}
theorem Inv.young(I:Inv X pins σ H s)(e:s.heap.get? a=none):qHB X pins a:=by
 refine⟨?_,λp hp z=>?_⟩
 ·by_cases y:a∈X.ex
  ·exact .inr y
  ·refine .inl ?_
   cases z:X.s₀.heap.get? a with
   |none=>rfl
   |some ob=>
    obtain⟨o',z'⟩:=I.base.there a ob z y
    rw[e]at z'
    cases z'
 ·have y:=(I.pin p hp).1
  rw[z,e]at y
  cases y
theorem Inv.trackG{o:HO}(I:Inv X pins σ H s)(n:H a=none)(y:qHB X pins a)(nl:a≠X.env.locals)(nc:∀x c,X.env.cells.lookup x=some c→c≠a)(new:jK X.prog X.w (upd H a o) s.heap a o):Inv X pins σ (upd H a o) s:=by
 have ne:∀b o',X.s₀.heap.get? b=some o'→b∉X.ex→b≠a:=λb o' z x q=>by
  subst q
  rcases y.1 with w|w
  ·rw[z]at w;cases w
  ·exact x w
 have nt:∀b u,H b=some u→b≠a:=λb u z q=>by rw[q,n]at z;cases z
 refine⟨I.ok,I.os,I.bare,⟨I.base.keep,I.base.slot,λb o' z m x=>?_,I.base.there,λb xs z=>?_,λb o' u z=>?_,λb ps z=>?_⟩,I.loc,I.cell,?_,λx c z=>?_,λp hp=>?_,λb u z=>?_,I.len⟩
 ·rw[qC (ne b o' z x)]
  exact I.base.free b o' z m x
 ·have w:=I.base.tups b xs z
  rw[qC (nt _ _ w)]
  exact w
 ·have w:=I.base.frzs b o' u z
  rw[qC (nt _ _ w)]
  exact w
 ·obtain⟨more,w⟩:=I.base.tbls b ps z
  exact⟨more,by rw[qC (nt _ _ w)];exact w⟩
 ·rw[qC (wH nl)]
  exact I.free
 ·rw[qC (nc x c z)]
  exact I.freeC x c z
 ·obtain⟨p1,p2,p3,p4,p5⟩:=I.pin p hp
  exact⟨p1,by rw[qC (y.2 p hp)];exact p2,p3,p4,p5⟩
 ·by_cases q:b=a
  ·subst q
   rw[qI]at z
   cases z
   exact new
  ·rw[qC q]at z
   refine(I.hok b u z).stay (λ_ _ _ g=>g) (λc g=>?_) λc xs g=>?_
   ·rw[qC (nt _ _ g)];exact g
   ·rw[qC (nt _ _ g)];exact g
end
noncomputable def qDS:List Value→Bool
 | .ref _::r=>qDS r
 |l=>l==bmVE
noncomputable def veIn(K:PySem.W.Frag)(C:Addr):Bool:=(PySem.W.clsIn K C).any (λcd=>qDS cd.mro)
structure XAt(K:PySem.W.Frag)(C:Addr):Prop where
 hd:PySem.W.hasDictIn K C=true
 sa:PySem.W.findIn K (.ref C) "__setattr__"=some (some (.builtin "object.__setattr__"))
 mro:veIn K C=true
structure XRd(K:PySem.W.Frag)(C:Addr):Prop where
 ga:PySem.W.findIn K (.ref C) "__getattribute__"=some (some (.builtin "BaseException.__getattribute__"))
 gn:PySem.W.findIn K (.ref C) "__getattr__"=some none
 mb:PySem.W.mroIn K C (.type "BaseException")=some true
 hd:PySem.W.hasDictIn K C=true
 cls:PySem.W.findIn K (.ref C) "__class__"=some (some (.builtin "object.__class__"))
 cget:PySem.W.specialIn K (.builtin "object.__class__") "__get__"=some (some (.builtin "getset_descriptor.__get__"))
 ctk:PySem.W.takesIn K (.builtin "object.__class__")=some true
 mo:PySem.W.mroIn K C (.type "object")=some true
noncomputable def XAny(H:Hp)(ea:Addr)(C:Value)(od:Option Addr):Prop:=H ea=some (XO ea C od)∨H ea=some (XN ea C od)
section
variable{X:Cx}{pins:List (Addr×Obj)}{σ:St}{H:Hp}{s:Shared}{ea C:Addr}{od:Option Addr}
theorem XAny.at{C:Value}(x:XAny H ea C od)(I:Inv X pins σ H s):∃o vs,s.heap.get? ea=some o∧o.cls=C∧o.dict=od∧o.data=.fields vs:=by
 rcases x with e|e
 ·exact(I.hok ea _ e).1
 ·obtain⟨vs,sl,z,_⟩:=(I.hok ea _ e).1
  exact⟨_,vs,z,rfl,rfl,rfl⟩
theorem qFR{A:Around}{E:Value→Shared→Prop}{K:PySem.W.Frag}{prog:Program}{w:World}{s:Shared}{x:Addr}{ox:Obj}{od:Option Obj}{name:Str}{tk:Tok}{fill b:Bool}{Q:Value→Shared→Prop}(X:K.In s.heap)(J:PySem.W.InstAt s.heap x ox C od)(c:XRd K C)
 (h:∀A',wpAny (model prog w) A' (Builtin.«object.__getattribute__» ⟨[.ref x,.str name tk],[]⟩) (λfin s'=>∃v,fin=.done (.ret v)∧PySem.W.handedIn v=true∧Q v s') (λ_ _=>False) s):wpAny (model prog w) A (getAttrBy (.ref x) (.str name tk) fill b) Q E s:=by
 obtain⟨hh,g,d,t,os⟩:=s
 have L0:=J.type (M:=model prog w)
 have L1:=wW (M:=model prog w) X c.ga
 have L2:=wW (M:=model prog w) X c.gn
 have SF:=PySem.F.excAttr_ValueError.ga
 unfold getAttrBy
 refine dB (kD (L0.at (kD (L1.at ?_))))
 show wpAny _ _ (getAttrByItsOwn (.ref x) (.str name tk) (.ref C) (.builtin "BaseException.__getattribute__") fill b) _ _ _
 unfold getAttrByItsOwn
 refine kD ?_
 show wpAny _ _ (typeLookup (.ref C) "__getattr__") _ _ _
 refine L2.at ?_
 refine kD (wpAny_attempt (dB ?_))
 have e1:callGetattribute (.ref x) (.str name tk) (.builtin "BaseException.__getattribute__") b=boundAndCalled (.builtin "BaseException.__getattribute__") (.ref x) (.str name tk):=by
  unfold callGetattribute
  rw[kB (by cases b<;>exact Bool.noConfusion)]
 rw[e1]
 unfold boundAndCalled
 rw[SF.bind (.ref x)]
 refine kD (kZ ?_)
 refine cY (codeAny_call_builtin SF.plain PySem.F.entry_bexc_ga ?_)
 have su:PySem.W.Looks (model prog w) hh (isInstance (.ref x) (.type "BaseException")) true:=J.type.andThen (PySem.W.looks_mroIn X c.mb)
 have hk:builtinKind "BaseException.__getattribute__"=some .slot:=by decide+kernel
 have hs:splitId "BaseException.__getattribute__"=some ("BaseException","__getattribute__"):=by decide+kernel
 refine @PySem.W.check_slot (model prog w) _ _ ⟨hh,g,d,t,os⟩ "BaseException.__getattribute__" "BaseException" "__getattribute__" (.ref x) [.str name tk] [] _ hk hs su (PySem.F.args_bexc_ga (.ref x) (.str name tk)) ?_
 refine dC (h _) (λfin s' z=>?_) (λ_ _ z=>z.elim)
 obtain⟨v,rfl,z1,z2⟩:=z
 exact PySem.W.handed_on z1 z2
end
noncomputable def clsV:V→Option Value
 | .ref a=>some (.ref a)
 | .ty n=>some (.type n)
 |_=>none
theorem qDT{c:V}{cv u:Value}(h:clsV c=some cv)(r:RelV c u):u=cv:=by
 cases c<;>first|(cases h;exact r)|cases h
noncomputable def KndT(K:PySem.W.Frag)(H:Hp)(x:V)(t:Value):Prop:=TyOf K H x t∨∃ea C od,x=.ref ea∧t=.ref C∧XAny H ea (.ref C) od∧XRd K C∧(od=none∨∃dx fs,od=some dx∧H dx=some (.xd fs))
theorem qIS{K:PySem.W.Frag}{x D:Addr}{ox:Obj}{od:Option Obj}(c:XRd K D):PySem.W.KitX K (.ref x) (.ref D) (λh=>PySem.W.InstAt h x ox D od) where
 ty:=λ_ _ _ I=>I.type
 it:=λ_ _ X _=>by
  obtain⟨cd,hc,_⟩:=cX c.hd
  unfold PySem.W.clsIn at hc
  split at hc
  ·rename_i ho
   intro A' Q' E' s' k q
   unfold isType loadHead
   exact kD (wpAny_loadPart (k _ _ (X _ _ ho)) (kZ q))
  ·cases hc
 ne:=λh tp dd its n sl X htp=>by
  obtain⟨cd,hc,_⟩:=cX c.hd
  refine Bool.eq_false_iff.mpr λq=>?_
  have e:D=tp:=Value.ref.inj (r6.mp q)
  subst e
  unfold PySem.W.clsIn at hc
  split at hc
  ·rename_i ho
   have z:=(X _ _ ho).symm.trans htp
   cases z
  ·cases hc
 ca:=fun {prog w _ _ _ s} X I k=>by
  have hf:PySem.W.findObj K D od "__class__"=some (.bind (.builtin "getset_descriptor.__get__") (.builtin "object.__class__")):=by
   obtain⟨cd,hc,_⟩:=cX c.hd
   unfold PySem.W.findObj
   rw[hc,cZ,c.cls,cZ]
   dsimp only
   rw[c.cget,cZ]
   dsimp only
   rw[c.ctk,cZ]
  unfold getAttr? getAttrBy?
  refine kD (wpAny_mkText (kD (wpAny_attempt (qFR (s:={ s with toks:=s.toks+1 }) X I c λA'=>?_))))
  have L0:=I.type (M:=model prog w)
  have L1:=PySem.W.looks_find (M:=model prog w) X I hf
  obtain⟨hh,gg,d,t,os⟩:=s
  refine kD (kZ (kD (kZ (kD (L0.at (kD (L1.at ?_)))))))
  show wpAny _ _ (holding [.builtin "object.__class__"] (call (.builtin "getset_descriptor.__get__") [.builtin "object.__class__",.ref x,.ref D]) >>= ret) _ _ _
  exact kD (dB (cY (PySem.W.class_get (s:=⟨hh,gg,d,t+1,os⟩) (ox:=ox) (od:=od) X I c.mo (kZ ⟨_,rfl,rfl,kZ k⟩))))
theorem yK{X:Cx}:q17 X (.builtin "isinstance") (λxs H Q=>∃x c cv t b,xs=[x,c]∧clsV c=some cv∧KndT X.K H x t∧PySem.W.kitOne X.K t cv=some b∧Q (.bl b) H):=by
 intro pins s σ H xs us Q I r h
 obtain⟨x,c,cv,t,b,rfl,hc,ty,e,q⟩:=h
 obtain⟨u,w',rfl,ru,rw'⟩:=qD3 r
 cases qDT hc rw'
 rcases ty with ty|⟨ea,C,od,rfl,rfl,hx,ca,hd⟩
 ·exact qC7 I ru ty e λtk=>⟨.bl b,H,I.tok tk,rfl,q⟩
 ·obtain rfl:u=Value.ref ea:=ru
  obtain⟨o,vs,e1,e2,e3,e4⟩:=hx.at I
  have hno:PySem.W.notCls o=true:=by rw[PySem.W.notCls,e4]
  have J:∃oD,PySem.W.InstAt s.heap ea o C oD:=by
   rcases hd with rfl|⟨dx,fs,rfl,hdx⟩
   ·exact⟨none,e1,e2,hno,by rw[e3];exact True.intro⟩
   ·obtain⟨mA,n1,rl⟩:=I.hok dx _ hdx
    obtain⟨oD,g1,g2⟩:=q7E n1
    exact⟨some oD,e1,e2,hno,by rw[e3];exact g1⟩
  obtain⟨oD,J⟩:=J
  exact gS (qIS ca) I.kIn J e (λz=>nomatch z) λtk=>⟨.bl b,H,I.tok tk,rfl,q⟩
structure BIni(K:PySem.W.Frag)(W:Addr):Prop where
 rd:PySem.W.readsIn K W (.type "type")=true
 fd:PySem.W.findCls K (.ref W) (.type "type") "__init__"=some (.val (.builtin "ValueError.__init__"))
 ga:PySem.W.specialIn K (.ref W) "__getattribute__"=some (some (.builtin "type.__getattribute__"))
end L2
namespace L2
open PySem
structure Keep(F:List Addr)(H H':Hp):Prop where
 k:∀b o,b∉F→H b=some o→H' b=some o
 tp:∀b xs,H b=some (.tup xs)→H' b=some (.tup xs)
theorem Keep.refl{F:List Addr}{H:Hp}:Keep F H H:=⟨λ_ _ _ e=>e,λ_ _ e=>e⟩
theorem Keep.trans{F:List Addr}{H H1 H2:Hp}(a:Keep F H H1)(b:Keep F H1 H2):Keep F H H2:=⟨λx o n e=>b.k x o n (a.k x o n e),λx xs e=>b.tp x xs (a.tp x xs e)⟩
theorem Keep.mono{F F':List Addr}{H H':Hp}(a:Keep F H H')(s:∀b∈F,b∈F'):Keep F' H H':=⟨λx o n e=>a.k x o (λm=>n (s x m)) e,a.tp⟩
theorem Keep.upd{F:List Addr}{H:Hp}{p:Addr}{o u:HO}(h:H p=some u)(nt:∀xs,u≠ .tup xs)(m:p∈F):Keep F H (upd H p o):=by
 refine⟨λb x n e=>?_,λb xs e=>?_⟩
 ·rw[qC (λ(z:b=p)=>n (z▸m))];exact e
 ·rw[qC (jS e h (λz=>nt xs z.symm))];exact e
theorem Keep.same{F:List Addr}{H H':Hp}(s:Same H H'):Keep F H H':=⟨λb o _ e=>s b o e,λb xs e=>s b _ e⟩
theorem Keep.none{F:List Addr}{H H':Hp}(a:Keep F H H'){b:Addr}(n:b∉F)(e:H' b=Option.none):H b=Option.none:=by
 cases q:H b with
 |none=>rfl
 |some o=>rw[a.k b o n q]at e;cases e
structure CM where
 bl:Int
 pg:Int
 mo:Int
 lim:List (Key×V)
 bo:List V
 cl:List Int
 dc:List Int
 br:List Bool
 lf:Option Int
 rc:List (Str×Int×Bool)
structure CA where
 dx:Addr
 li:Addr
 bo:Addr
 cl:Addr
 dc:Addr
 br:Addr
 rc:Addr
noncomputable def lfV:Option Int→V
 | .none=>.non
 | .some i=>.int i
noncomputable def chF(a:CA)(m:CM):List (Str×V):=[("blocks",.int m.bl),("pages",.int m.pg),("most",.int m.mo),("limits",.ref a.li),("borne",.ref a.bo),("clearings",.ref a.cl),("deed_counts",.ref a.dc),("broken",.ref a.br),("deeds_left",lfV m.lf),("record",.ref a.rc)]
noncomputable def trip(H:Hp)(v:V)(d:Str×Int×Bool):Prop:=∃p,v=.ref p∧H p=some (.tup [.str d.1,.int d.2.1,.bl d.2.2])
noncomputable abbrev Recd(H:Hp):List V→List (Str×Int×Bool)→Prop:=Paired (trip H)
theorem Recd.keep{F:List Addr}{H H':Hp}(k:Keep F H H'){rs:List V}{ds:List (Str×Int×Bool)}(r:Recd H rs ds):Recd H' rs ds:=Paired.mapP r λv d ⟨p,e,h⟩=>⟨p,e,k.tp _ _ h⟩
theorem _root_.PySem.Paired.len{α β:Type}{F:α→β→Prop}:∀{l₁:List α} {l₂:List β},Paired F l₁ l₂→l₁.length=l₂.length
 |_,_,.nil=>rfl
 |_,_,.cons _ t=>g0 (· + 1) t.len
theorem Paired.snoc{α β:Type}{F:α→β→Prop}:∀{l₁:List α} {l₂:List β} {a:α} {b:β},Paired F l₁ l₂→F a b→Paired F (l₁++[a]) (l₂++[b])
 |_,_,_,_,.nil,h=>.cons h .nil
 |_,_,_,_,.cons r t,h=>.cons r (Paired.snoc t h)
noncomputable def foot(c:Addr)(a:CA):List Addr:=[c,a.bo,a.cl,a.dc,a.br,a.rc]
structure ChipAt(C:Addr)(H:Hp)(c:Addr)(a:CA)(m:CM):Prop where
 ins:H c=some (.ins C a.dx (chF a m))
 li:H a.li=some (.dK m.lim)
 bo:H a.bo=some (.lst m.bo)
 cl:H a.cl=some (.lst (m.cl.map V.int))
 dc:H a.dc=some (.lst (m.dc.map V.int))
 br:H a.br=some (.lst (m.br.map V.bl))
 rc:∃rs,H a.rc=some (.lst rs)∧Recd H rs m.rc
 nd:[a.bo,a.cl,a.dc,a.br,a.rc].Nodup
structure CM.Ok(m:CM):Prop where
 bl1:2≤m.bl
 bl2:m.bl≤16
 pg1:1≤m.pg
 pg2:m.pg≤16
 nbo:(m.bo.length:Int)=m.bl*m.pg
 ncl:(m.cl.length:Int)=m.bl
 ndc:(m.dc.length:Int)=m.bl
 nbr:(m.br.length:Int)=m.bl
 lim:∀b v,valV m.lim (Sum.inl b)=some v→∃n,v=.int n
 nrc:m.rc.length≤1000000
section
variable{C c:Addr}{a:CA}{m:CM}{H H':Hp}
theorem ChipAt.ne(h:ChipAt C H c a m):c≠a.bo∧c≠a.cl∧c≠a.dc∧c≠a.br∧c≠a.rc:=by
 obtain⟨rs,e,_⟩:=h.rc
 exact⟨jS h.ins h.bo (by intro z;cases z),jS h.ins h.cl (by intro z;cases z),jS h.ins h.dc (by intro z;cases z),jS h.ins h.br (by intro z;cases z),jS h.ins e (by intro z;cases z)⟩
theorem ChipAt.nel(h:ChipAt C H c a m):a.li≠c∧a.li≠a.bo∧a.li≠a.cl∧a.li≠a.dc∧a.li≠a.br∧a.li≠a.rc:=by
 obtain⟨rs,e,_⟩:=h.rc
 exact⟨jS h.li h.ins (by intro z;cases z),jS h.li h.bo (by intro z;cases z),jS h.li h.cl (by intro z;cases z),jS h.li h.dc (by intro z;cases z),jS h.li h.br (by intro z;cases z),jS h.li e (by intro z;cases z)⟩
theorem ChipAt.dst(h:ChipAt C H c a m):(a.bo≠a.cl∧a.bo≠a.dc∧a.bo≠a.br∧a.bo≠a.rc)∧(a.cl≠a.dc∧a.cl≠a.br∧a.cl≠a.rc)∧(a.dc≠a.br∧a.dc≠a.rc)∧a.br≠a.rc:=by
 have:=h.nd
 simp only[gB,kL,rG,not_or,sD]at this
 obtain⟨⟨a1,a2,a3,a4⟩,⟨b1,b2,b3⟩,⟨c1,c2⟩,d1,_⟩:=this
 exact⟨⟨a1,a2,a3,a4⟩,⟨b1,b2,b3⟩,⟨c1,c2⟩,d1⟩
theorem ChipAt.keep{F:List Addr}(h:ChipAt C H c a m)(k:Keep F H H')(n:∀b∈a.li::foot c a,b∉F):ChipAt C H' c a m:=by
 obtain⟨rs,e,r⟩:=h.rc
 exact⟨k.k _ _ (n _ (by simp[foot])) h.ins,k.k _ _ (n _ (by simp)) h.li,k.k _ _ (n _ (by simp[foot])) h.bo,k.k _ _ (n _ (by simp[foot])) h.cl,k.k _ _ (n _ (by simp[foot])) h.dc,k.k _ _ (n _ (by simp[foot])) h.br,
  ⟨rs,k.k _ _ (n _ (by simp[foot])) e,r.keep k⟩,h.nd⟩
theorem ChipAt.same(h:ChipAt C H c a m)(s:Same H H'):ChipAt C H' c a m:=h.keep (F:=[]) (Keep.same s) (by simp)
theorem ChipAt.setLf(h:ChipAt C H c a m)(v:Option Int):ChipAt C (upd H c (.ins C a.dx (chF a { m with lf:=v }))) c a { m with lf:=v }:=by
 obtain⟨n1,n2,n3,n4,n5⟩:=h.ne
 obtain⟨l1,_⟩:=h.nel
 obtain⟨rs,e,r⟩:=h.rc
 have k:Keep [c] H (upd H c (.ins C a.dx (chF a { m with lf:=v }))):=Keep.upd h.ins (λ_ z=>by cases z) (by simp)
 exact⟨qI,by rw[qC l1];exact h.li,by rw[qC n1.symm];exact h.bo,by rw[qC n2.symm];exact h.cl,by rw[qC n3.symm];exact h.dc,by rw[qC n4.symm];exact h.br,⟨rs,by rw[qC n5.symm];exact e,r.keep k⟩,h.nd⟩
theorem ChipAt.setBo(h:ChipAt C H c a m)(v:List V):ChipAt C (upd H a.bo (.lst v)) c a { m with bo:=v }:=by
 obtain⟨n1,n2,n3,n4,n5⟩:=h.ne
 obtain⟨l0,l1,l2,l3,l4,l5⟩:=h.nel
 obtain⟨⟨a1,a2,a3,a4⟩,⟨b1,b2,b3⟩,⟨c1,c2⟩,d1⟩:=h.dst
 obtain⟨rs,e,r⟩:=h.rc
 have k:Keep [a.bo] H (upd H a.bo (.lst v)):=Keep.upd h.bo (λ_ z=>by cases z) (by simp)
 exact⟨by rw[qC n1];exact h.ins,by rw[qC l1];exact h.li,qI,by rw[qC a1.symm];exact h.cl,by rw[qC a2.symm];exact h.dc,by rw[qC a3.symm];exact h.br,⟨rs,by rw[qC a4.symm];exact e,r.keep k⟩,h.nd⟩
theorem ChipAt.setCl(h:ChipAt C H c a m)(v:List Int):ChipAt C (upd H a.cl (.lst (v.map V.int))) c a { m with cl:=v }:=by
 obtain⟨n1,n2,n3,n4,n5⟩:=h.ne
 obtain⟨l0,l1,l2,l3,l4,l5⟩:=h.nel
 obtain⟨⟨a1,a2,a3,a4⟩,⟨b1,b2,b3⟩,⟨c1,c2⟩,d1⟩:=h.dst
 obtain⟨rs,e,r⟩:=h.rc
 have k:Keep [a.cl] H (upd H a.cl (.lst (v.map V.int))):=Keep.upd h.cl (λ_ z=>by cases z) (by simp)
 exact⟨by rw[qC n2];exact h.ins,by rw[qC l2];exact h.li,by rw[qC a1];exact h.bo,qI,by rw[qC b1.symm];exact h.dc,by rw[qC b2.symm];exact h.br,⟨rs,by rw[qC b3.symm];exact e,r.keep k⟩,h.nd⟩
theorem ChipAt.setDc(h:ChipAt C H c a m)(v:List Int):ChipAt C (upd H a.dc (.lst (v.map V.int))) c a { m with dc:=v }:=by
 obtain⟨n1,n2,n3,n4,n5⟩:=h.ne
 obtain⟨l0,l1,l2,l3,l4,l5⟩:=h.nel
 obtain⟨⟨a1,a2,a3,a4⟩,⟨b1,b2,b3⟩,⟨c1,c2⟩,d1⟩:=h.dst
 obtain⟨rs,e,r⟩:=h.rc
 have k:Keep [a.dc] H (upd H a.dc (.lst (v.map V.int))):=Keep.upd h.dc (λ_ z=>by cases z) (by simp)
 exact⟨by rw[qC n3];exact h.ins,by rw[qC l3];exact h.li,by rw[qC a2];exact h.bo,by rw[qC b1];exact h.cl,qI,by rw[qC c1.symm];exact h.br,⟨rs,by rw[qC c2.symm];exact e,r.keep k⟩,h.nd⟩
theorem ChipAt.addRc{p:Addr}{rs:List V}{d:Str×Int×Bool}(h:ChipAt C H c a m)(e:H a.rc=some (.lst rs))(hp:H p=some (.tup [.str d.1,.int d.2.1,.bl d.2.2])):ChipAt C (upd H a.rc (.lst (rs++[.ref p]))) c a { m with rc:=m.rc++[d] }:=by
 obtain⟨n1,n2,n3,n4,n5⟩:=h.ne
 obtain⟨l0,l1,l2,l3,l4,l5⟩:=h.nel
 obtain⟨⟨a1,a2,a3,a4⟩,⟨b1,b2,b3⟩,⟨c1,c2⟩,d1⟩:=h.dst
 obtain⟨rs',e',r⟩:=h.rc
 rw[e]at e'
 cases e'
 have k:Keep [a.rc] H (upd H a.rc (.lst (rs++[.ref p]))):=Keep.upd e (λ_ z=>by cases z) (by simp)
 exact⟨by rw[qC n5];exact h.ins,by rw[qC l5];exact h.li,by rw[qC a4];exact h.bo,by rw[qC b3];exact h.cl,by rw[qC c2];exact h.dc,by rw[qC d1];exact h.br,⟨_,qI,Paired.snoc (r.keep k) ⟨p,rfl,k.tp _ _ hp⟩⟩,h.nd⟩
end
noncomputable def CM.deed(m:CM)(w:Str)(pl b:Int)(f:Bool):CM:={ m with lf:=m.lf.map (· - 1),dc:=m.dc.set b.toNat (m.dc.getD b.toNat 0+1),rc:=m.rc++[(w,pl,!f)],br:=if f then m.br.set b.toNat true else m.br }
noncomputable def clr(xs:List V)(i n:Nat):List V:=match n with
 |0=>xs
 |n+1=>(clr xs i n).set (i+n) .non
noncomputable def CM.new(bl pg mo:Int)(lim:List (Key×V)):CM:=⟨bl,pg,mo,lim,List.replicate (bl*pg).toNat .non,List.replicate bl.toNat 0,List.replicate bl.toNat 0,List.replicate bl.toNat false,none,[]⟩
theorem qFS{x:V}{lo hi:Int}(h:inB x lo hi=true):∃p,x=.int p∧lo≤p∧p≤hi:=by
 cases x with
 |int p=>
  have h:(decide (lo≤p)&&decide (p≤hi))=true:=h
  rw[mO]at h
  exact⟨p,rfl,mL h.1,mL h.2⟩
 |_=>cases h
theorem qIT{m:CM}{p:Int}(ok:m.Ok)(p0:0≤p)(p1:p≤m.bl*m.pg-1):0≤p / m.pg∧p / m.pg<m.bl:=by
 have:=ok.pg1
 exact⟨Int.ediv_nonneg p0 (by omega),Int.ediv_lt_of_lt_mul (by omega) (by omega)⟩
theorem lf0{m:CM}:decide (lfV m.lf=V.int 0)=decide (m.lf=some 0):=by
 cases e:m.lf with
 |none=>rfl
 |some i=>
  show decide (V.int i=V.int 0)=_
  by_cases z:i=0
  ·subst z;rfl
  ·rw[hG (λq=>z (by injection q)),hG (λq=>z (by injection q))]
theorem qFT{m:CM}:scal (lfV m.lf) (.int 0)=true:=by
 cases m.lf<;>rfl
theorem getB{m:CM}{b:Int}(h0:0≤b)(h:b<(m.br.length:Int)):atI (m.br.map V.bl) b=some (.bl (m.br.getD b.toNat false)):=by
 obtain⟨j,rfl⟩:=wE h0
 refine yT ?_
 have hj:j<m.br.length:=by omega
 simp[hj]
theorem getI{xs:List Int}{b:Int}(h0:0≤b)(h:b<(xs.length:Int)):atI (xs.map V.int) b=some (.int (xs.getD b.toNat 0)):=by
 obtain⟨j,rfl⟩:=wE h0
 refine yT ?_
 have hj:j<xs.length:=by omega
 simp[hj]
theorem getV{xs:List V}{b:Int}(h0:0≤b)(h:b<(xs.length:Int)):atI xs b=some (xs.getD b.toNat .non):=by
 obtain⟨j,rfl⟩:=wE h0
 refine yT ?_
 have hj:j<xs.length:=by omega
 simp[hj]
theorem ixOk{n:Nat}{b:Int}(h0:0≤b)(h:b<(n:Int)):ixN n b=some b.toNat:=by
 unfold ixN
 rw[kF h0,kF h]
theorem CM.Ok.deed{m:CM}(ok:m.Ok){w:Str}{pl b:Int}{f:Bool}(h:m.rc.length<1000000):(m.deed w pl b f).Ok:=by
 refine⟨ok.bl1,ok.bl2,ok.pg1,ok.pg2,ok.nbo,ok.ncl,?_,?_,ok.lim,?_⟩
 ·show((m.dc.set _ _).length:Int)=m.bl
  rw[gF]
  exact ok.ndc
 ·show(((if f then m.br.set b.toNat true else m.br)).length:Int)=m.bl
  cases f with
  |true=>
   rw[kF rfl,gF]
   exact ok.nbr
  |false=>
   exact ok.nbr
 ·show(m.rc++[_]).length≤1000000
  rw[mC,gD]
  omega
noncomputable def qFU:Sp:=λvs H Q _=>∃x y,vs=[x,y]∧Knd H x∧Knd H y∧Q (.bl (inB x 2 16&&inB y 1 16)) H
theorem Paired.at{α β:Type}{F:α→β→Prop}:∀{l₁:List α} {l₂:List β} {i:Nat} {a:α},Paired F l₁ l₂→l₁[i]?=some a→∃b,l₂[i]?=some b∧F a b
 |_,_,0,_,.cons r _,e=>by simp at e;subst e;exact⟨_,rfl,r⟩
 |_,_,i+1,_,.cons _ t,e=>by
  have e2:=List.getElem?_cons_succ.symm.trans e
  obtain⟨b,h1,h2⟩:=Paired.at t e2
  exact⟨b,List.getElem?_cons_succ.trans h1,h2⟩
 |_,_,_,_,.nil,e=>by simp at e
theorem q3Q(xs:List V)(i:Nat):∀n,(clr xs i n).length=xs.length
 |0=>rfl
 |n+1=>by
  show((clr xs i n).set (i+n) .non).length=xs.length
  rw[gF,q3Q xs i n]
theorem qIU{bl pg mo:Int}{lim:List (Key×V)}(b1:2≤bl)(b2:bl≤16)(p1:1≤pg)(p2:pg≤16)(hl:∀b v,valV lim (Sum.inl b)=some v→∃n,v=V.int n):(CM.new bl pg mo lim).Ok:=by
 have h:0≤bl*pg:=Int.mul_nonneg (by omega) (by omega)
 refine⟨b1,b2,p1,p2,?_,?_,?_,?_,hl,by show 0≤1000000;decide⟩
 ·show((List.replicate (bl*pg).toNat V.non).length:Int)=bl*pg
  rw[gG]
  omega
 ·show((List.replicate bl.toNat (0:Int)).length:Int)=bl
  rw[gG]
  omega
 ·show((List.replicate bl.toNat (0:Int)).length:Int)=bl
  rw[gG]
  omega
 ·show((List.replicate bl.toNat false).length:Int)=bl
  rw[gG]
  omega
noncomputable def Up(x:Addr)(H H':Hp):Prop:=∀b o,b≠x→H b=some o→H' b=some o
section
variable{x C dx:Addr}{fs:List (Str×V)}{H H':Hp}
theorem Up.of{o:HO}(s:Same H H'):Up x H (upd H' x o):=λb u n e=>by rw[qC n];exact s b u e
theorem Up.free(u:Up x H H'){b:Addr}(n:b≠x)(e:H' b=none):H b=none:=by
 cases q:H b with
 |none=>rfl
 |some o=>rw[u b o n q]at e;cases e
end
end L2
namespace L2
open PySem PySem.Spec PyProof.Rows
noncomputable def tMid(t u:TS):TS:=λD σ H=>∃M:St→Hp→Prop,t { D with nx:=M } σ H∧∀σ' H',M σ' H'→u D σ' H'
noncomputable def qK8(t:TT):TT:=λσ H Q=>∃M:Bool→Hp→Prop,t σ H M∧∀b H',M b H'→Q b H'
noncomputable def qK9(t:TE):TE:=λσ H Q=>∃M:VK,t σ H M∧∀v H',M v H'→Q v H'
section
variable{X:Cx}{st:Stmt}{rest:List Stmt}{t u:TS}{e:Expr}{te:TE}{tt:TT}
theorem zM(h1:PS X st t)(h2:PSs X rest u):PSs X (st::rest) (tMid t u):=by
 intro pins s σ H D I hZ
 obtain⟨M,a,b⟩:=hZ
 refine kD (thn (h1 pins s σ H _ I a) λf s1 z=>?_)
 cases f with
 |next=>obtain⟨σ',H',I',q⟩:=z;exact h2 pins s1 σ' H' D I' (b σ' H' q)
 |brk=>exact kZ z
 |cont=>exact kZ z
 |ret v=>exact kZ z
theorem qDU(h:PT X e tt):PT X e (qK8 tt):=λpins s σ H Q I ⟨M,a,b⟩=>thn (h pins s σ H M I a) λc s1 ⟨H',I',q⟩=>⟨H',I',b c H' q⟩
theorem qIV(h:PE X e te):PE X e (qK9 te):=λpins s σ H Q I ⟨M,a,b⟩=>thn (h pins s σ H M I a) λc s1 ⟨v,H',I',r,q⟩=>⟨v,H',I',r,b v H' q⟩
end
theorem yF{a b:Int}:decide (V.int a=V.int b)=decide (a=b):=by
 by_cases e:a=b
 ·subst e;simp
 ·rw[hG e,hG (λz=>e (by injection z))]
theorem vZ(x n:Int)(h:0<n):0≤x%n∧x%n<n:=⟨Int.emod_nonneg _ (by omega),Int.emod_lt_of_pos _ h⟩
section
variable{X:Cx}{pins:List (Addr×Obj)}{σ:St}{H:Hp}{s:Shared}{h':Heap}
theorem Inv.turnedN{t':Nat}{fp:List Addr}(I:Inv X pins σ H s)(k:∀b o,b∉fp→s.heap.get? b=some o→h'.get? b=some o)(hf:∀b∈fp,FpOk X pins H b):Inv X pins σ H { s with heap:=h',toks:=t' }:=by
 have nit:∀b u,H b=some u→b∉fp:=λb u e z=>by rw[(hf b z).1]at e;cases e
 refine I.step (g':=s.gens) (d':=s.drawn) (ch:=fp) (λb hb=>?_) (λb o _ _ hc e _=>k b o hc e) (λb o _ _ hc e _=>⟨o.slots,k b o hc e⟩) (λ_ _ _ _ n=>n)
  (λb o hc e=>⟨o,k b o hc e⟩) (λ_ _ e=>e) (λ_ _ _ e=>e) (λb ps e=>⟨#[],by rw[e];simp⟩) (λm hm=>?_) (λb u e=>?_) I.bare
 ·obtain⟨f0,f1,f2,f3,f4,f5⟩:=hf b hb
  exact⟨f3,f1,f4,f5⟩
 ·obtain⟨o,es,ep,ho,r⟩:=hm
  exact⟨o,es,ep,k _ o (λz=>(hf _ z).2.1 rfl) ho,r⟩
 ·refine(I.hok b u e).stay (λc v hc q=>k c v ?_ q) (λ_ q=>q) λ_ _ q=>q
  rcases hc with z|z
  ·rw[z];exact nit b u e
  ·exact nit c _ z
end
end L2
namespace L2
open PySem
theorem q3R{es rest:List Expr}{x1}{p:Pos}{env:Env}:starEach (.Tuple es x1 p::rest) env=(false,eval (.Tuple es x1 p) env)::starEach rest env:=rfl
theorem qDV{es rest:List Expr}{p:Pos}{env:Env}:starEach (.List es p::rest) env=(false,eval (.List es p) env)::starEach rest env:=rfl
end L2
namespace L2
open PySem PySem.Spec PyProof.Rows
inductive Eqv(K:PySem.W.Frag)(H:Hp):Nat→V→V→Prop where
 |flat {n:Nat} {x:V} (f:q18 x=true):Eqv K H n x x
 |lst {n:Nat} {a b:Addr} {xs ys:List V} (ha:SqL K H a xs) (hb:SqL K H b ys) (hl:xs.length=ys.length) (hi:∀(i:Nat) x y,xs[i]?=some x→ys[i]?=some y→Eqv K H n x y):Eqv K H (n+1) (.ref a) (.ref b)
 |tup {n:Nat} {a b:Addr} {xs ys:List V} (ha:SqT K H a xs) (hb:SqT K H b ys) (hl:xs.length=ys.length) (hi:∀(i:Nat) x y,xs[i]?=some x→ys[i]?=some y→Eqv K H n x y):Eqv K H (n+1) (.ref a) (.ref b)
theorem qDW{x:V}(f:q18 x=true):eqV x x=true:=by
 cases x with
 |non=>rfl
 |bl b=>cases b<;>rfl
 |int i=>show(i==i)=true;exact sG i
 |str z=>show(z==z)=true;exact sG z
 |_=>exact absurd (show false=true from f) kQ
theorem q09{n:Nat}:(List.range n).all (λ_=>true)=true:=by simp
section
variable{X:Cx}{pins:List (Addr×Obj)}{σ:St}{H:Hp}{s:Shared}
theorem Vals.atN{xs:List V}{us:List Value}(r:Vals xs us){j:Nat}(h:j<us.length):∃x,xs[j]?=some x∧RelV x us[j]:=by
 have e:xs[j]?=some (xs[j]'(by rw[r.length];exact h)):=hV _
 obtain⟨u,hu,ru⟩:=r.get e
 rw[hV h]at hu
 cases hu
 exact⟨_,e,ru⟩
theorem Eqv.at(I:Inv X pins σ H s){n:Nat}{y x:V}(h:Eqv X.K H n y x):∀{A:Around} {u v:Value},RelV y u→RelV x v→A.units+n<cLine→SeqAt.EqAt A s u v true:=by
 induction h with
 |flat f=>
  intro A u v ru rv _
  have e:=qDA (A:=A) (s:=s) ru rv f f
  rw[qDW f]at e
  exact e
 |@lst n a b xs ys ha hb hl hi ih=>
  intro A u v ru rv hu
  cases ru
  cases rv
  by_cases hab:a=b
  ·subst hab
   exact SeqAt.EqAt.same _
  ·obtain⟨i1,r1,p1,_⟩:=I.list ha
   obtain⟨i2,r2,p2,_⟩:=I.list hb
   have l1:=r1.length
   have l2:=r2.length
   refine SeqAt.EqAt.of_refs hab ?_
   have e:=SeqAt.RcAt.lists (A:=A) (e:=λ_=>true) p1.isList p2.isList (by simp;omega) (by omega) (λj h1 h2=>?_)
   ·rw[q09]at e
    exact e
   ·obtain⟨x1,e1,q1⟩:=r1.atN (j:=j) (by simpa using h1)
    obtain⟨x2,e2,q2⟩:=r2.atN (j:=j) (by simpa using h2)
    exact ih j x1 x2 e1 e2 (by simpa using q1) (by simpa using q2) (by show A.units+1+n<cLine;omega)
 |@tup n a b xs ys ha hb hl hi ih=>
  intro A u v ru rv hu
  cases ru
  cases rv
  by_cases hab:a=b
  ·subst hab
   exact SeqAt.EqAt.same _
  ·obtain⟨i1,r1,p1,_⟩:=I.tuple ha
   obtain⟨i2,r2,p2,_⟩:=I.tuple hb
   have l1:=r1.length
   have l2:=r2.length
   refine SeqAt.EqAt.of_refs hab ?_
   have e:=SeqAt.RcAt.tuples (A:=A) (e:=λ_=>true) (show s.heap.IsTuple a i1.toArray from p1) (show s.heap.IsTuple b i2.toArray from p2) (by omega) (λj h1 h2=>?_)
   ·rw[q09,Bool.true_and,show(i1.toArray.size==i2.toArray.size)=true by simp;omega]at e
    exact e
   ·obtain⟨x1,e1,q1⟩:=r1.atN (j:=j) (by simpa using h1)
    obtain⟨x2,e2,q2⟩:=r2.atN (j:=j) (by simpa using h2)
    exact ih j x1 x2 e1 e2 (by simpa using q1) (by simpa using q2) (by show A.units+1+n<cLine;omega)
theorem qCH{x:V}(f:q18 x=true):scal x x=true:=by
 cases x with
 |non=>rfl
 |bl b=>rfl
 |int i=>rfl
 |str z=>rfl
 |_=>exact absurd (show false=true from f) kQ
noncomputable def qKA(K:PySem.W.Frag)(r:Bool):R2:=λx y H Q=>Eqv K H 6 x y∧Q (.bl r) H
theorem qIW(hu:X.A.units+64<cLine):OpR X (compareOp .NotEq) (qKA X.K false):=by
 intro pins s σ H x y v u Q I rx ry hZ
 obtain⟨h,q⟩:=hZ
 cases h with
 |flat f=>exact q4W pins s σ H x x v u Q I rx ry ⟨qCH f,by rw[hC rfl];exact q⟩
 |@lst _ a b xs ys ha hb hl hi=>
  cases rx
  cases ry
  obtain⟨i1,r1,p1,_⟩:=I.list ha
  obtain⟨i2,r2,p2,_⟩:=I.list hb
  have l1:=r1.length
  have l2:=r2.length
  refine SeqAt.RcNeAt.lists (e:=λ_=>true) p1.isList p2.isList (by simp;omega) (by omega) (λj h1 h2=>?_) _ _ _ _ ⟨.bl false,H,I,by rw[q09];rfl,q⟩
  obtain⟨x1,e1,q1⟩:=r1.atN (j:=j) (by simpa using h1)
  obtain⟨x2,e2,q2⟩:=r2.atN (j:=j) (by simpa using h2)
  exact(hi j x1 x2 e1 e2).at I (by simpa using q1) (by simpa using q2) (by show X.A.units+1+5<cLine;omega)
 |@tup _ a b xs ys ha hb hl hi=>
  cases rx
  cases ry
  obtain⟨i1,r1,p1,_⟩:=I.tuple ha
  obtain⟨i2,r2,p2,_⟩:=I.tuple hb
  have l1:=r1.length
  have l2:=r2.length
  refine SeqAt.RcNeAt.tuples (e:=λ_=>true) (show s.heap.IsTuple a i1.toArray from p1) (show s.heap.IsTuple b i2.toArray from p2) (by omega) (λj h1 h2=>?_) _ _ _ _ ⟨.bl false,H,I,by rw[q09,Bool.true_and,show(i1.toArray.size==i2.toArray.size)=true by simp;omega];rfl,q⟩
  obtain⟨x1,e1,q1⟩:=r1.atN (j:=j) (by simpa using h1)
  obtain⟨x2,e2,q2⟩:=r2.atN (j:=j) (by simpa using h2)
  exact(hi j x1 x2 e1 e2).at I (by simpa using q1) (by simpa using q2) (by show X.A.units+1+5<cLine;omega)
end
noncomputable def clOf(env:Env):List (Str×NameKind)→List (Str×Addr)→List (Str×Addr)
 | [],cs=>cs
 |(n,k)::r,cs=>clOf env r (if(k==NameKind.free)=true then(match env.cells.lookup n with|some a=>(n,a)::cs|none=>cs)else cs)
theorem q32{scope:Scope}{env:Env}(h:∀y∈scope.names,y.2=.free→∃c,env.cells.lookup y.1=some c):closureFor scope env=pure (clOf env scope.names []):=by
 unfold closureFor
 have go:∀(l:List (Str×NameKind)) (cs:List (Str×Addr)),(∀y∈l,y.2=.free→∃c,env.cells.lookup y.1=some c)→
  (forIn l cs λx r=>(match x with|(name,kind)=>if(kind==NameKind.free)=true then do let a←cellOf env name;pure (ForInStep.yield ((name,a)::r))else pure (ForInStep.yield r):Sem (ForInStep (List (Str×Addr)))))=pure (clOf env l cs):=by
  intro l
  induction l with
  |nil=>intro cs _;rfl
  |cons y r ih=>
   intro cs hl
   obtain⟨n,k⟩:=y
   rw[List.forIn_cons]
   by_cases hk:(k==NameKind.free)=true
   ·obtain⟨c,e⟩:=hl (n,k) kW (by simpa using hk)
    have e2:cellOf env n=pure c:=by unfold cellOf;rw[e]
    show(bind (if(k==NameKind.free)=true then _ else _) _:Sem _)=_
    rw[kF hk,e2]
    show(forIn r ((n,c)::cs) _:Sem _)=pure (clOf env r (if(k==NameKind.free)=true then(match env.cells.lookup n with|some a=>(n,a)::cs|none=>cs)else cs))
    rw[kF hk,e]
    exact ih _ λy hy=>hl y (hU _ hy)
   ·show(bind (if(k==NameKind.free)=true then _ else _) _:Sem _)=_
    rw[kB hk]
    show(forIn r cs _:Sem _)=pure (clOf env r (if(k==NameKind.free)=true then(match env.cells.lookup n with|some a=>(n,a)::cs|none=>cs)else cs))
    rw[kB hk]
    exact ih _ λy hy=>hl y (hU _ hy)
 exact(g0 (λz:Sem (List (Str×Addr))=>z >>= λs=>pure s) (go scope.names [] h)).trans rfl
theorem q3S{env:Env}{x:Str}{c:Addr}:∀(l:List (Str×NameKind)) (cs:List (Str×Addr)),(cs.lookup x=some c→env.cells.lookup x=some c)→(clOf env l cs).lookup x=some c→env.cells.lookup x=some c
 | [],cs,hcs,h=>hcs h
 |(n,k)::r,cs,hcs,h=>by
  refine q3S r _ ?_ h
  intro q
  split at q
  ·cases e:env.cells.lookup n with
   |none=>rw[e]at q;exact hcs q
   |some a=>
    rw[e]at q
    have q:List.lookup x ((n,a)::cs)=some c:=q
    rw[dO]at q
    cases z:x==n with
    |true=>
     rw[z]at q
     have z':x=n:=by simpa using z
     rw[z',e,←q]
    |false=>
     rw[z]at q
     exact hcs q
  ·exact hcs q
theorem q62{env:Env}{x:Str}{c:Addr}(e:env.cells.lookup x=some c):∀(l:List (Str×NameKind)) (cs:List (Str×Addr)),((x,NameKind.free)∈l∨cs.lookup x=some c)→(clOf env l cs).lookup x=some c
 | [],cs,h=>h.resolve_left (by simp)
 |(n,k)::r,cs,h=>by
  refine q62 e r _ ?_
  by_cases hn:(x==n)=true
  ·have z':x=n:=by simpa using hn
   by_cases hk:(k==NameKind.free)=true
   ·refine .inr ?_
    rw[kF hk,←z',e]
    show List.lookup x ((x,c)::cs)=some c
    simp
   ·rcases h with h|h
    ·rcases kL.mp h with q|q
     ·cases q
      exact absurd (by simp) hk
     ·exact .inl q
    ·rw[kB hk];exact .inr h
  ·have nx:x≠n:=λz=>hn (by simp[z])
   rcases h with h|h
   ·rcases kL.mp h with q|q
    ·cases q
     exact absurd rfl nx
    ·exact .inl q
   ·refine .inr ?_
    split
    ·cases en:env.cells.lookup n with
     |none=>exact h
     |some a=>
      show List.lookup x ((n,a)::cs)=some c
      have hn:(x==n)=false:=by simpa using nx
      rw[dO,hn]
      exact h
    ·exact h
theorem q9C{env:Env}{x:Str}:∀{names:List (Str×NameKind)},(∀y∈names,y.2≠ .cell)→
 ((names.map λ(n,k)=>if(k==NameKind.free&&env.scope.kind== .function&&env.kindOf n==some .cell)then(n,NameKind.cell)else(n,k)).lookup x=some .cell∨
  (names.map λ(n,k)=>if(k==NameKind.free&&env.scope.kind== .function&&env.kindOf n==some .cell)then(n,NameKind.cell)else(n,k)).lookup x=some .free)→(x,NameKind.free)∈names
 | [],_,h=>by simp at h
 |(n,k)::r,hc,h=>by
  have ih:=@q9C env x r λy hy=>hc y (hU _ hy)
  rw[mG]at h
  by_cases hq:(k==NameKind.free&&env.scope.kind== .function&&env.kindOf n==some .cell)=true
  ·have hk:k=.free:=by
    rw[mO,mO]at hq
    simpa using hq.1.1
   simp only[kF hq,dO]at h
   cases hx:x==n with
   |true=>
    have e:x=n:=by simpa using hx
    rw[e,hk]
    exact kW
   |false=>
    simp only[hx]at h
    exact hU _ (ih h)
  ·simp only[kB hq,dO]at h
   cases hx:x==n with
   |true=>
    simp only[hx]at h
    have e:x=n:=by simpa using hx
    rcases h with h|h
    ·cases h
     exact absurd rfl (hc _ kW)
    ·cases h
     rw[e]
     exact kW
   |false=>
    simp only[hx]at h
    exact hU _ (ih h)
theorem q9D{env:Env}{x:Str}(hk:env.scope.kind=.function)(he:env.kindOf x=some .cell):∀{names:List (Str×NameKind)},names.lookup x=some .free→
 (names.map λ(n,k)=>if(k==NameKind.free&&env.scope.kind== .function&&env.kindOf n==some .cell)then(n,NameKind.cell)else(n,k)).lookup x=some .cell
 | [],h=>by simp at h
 |(n,k)::r,h=>by
  have ih:=@q9D env x hk he r
  rw[mG]
  rw[dO]at h
  cases hx:x==n with
  |true=>
   simp only[hx]at h
   have e:x=n:=by simpa using hx
   cases h
   subst e
   show List.lookup x ((if(NameKind.free==NameKind.free&&env.scope.kind==ScopeKind.function&&env.kindOf x==some NameKind.cell)=true then(x,NameKind.cell)else(x,NameKind.free))::_)=_
   rw[kF (by rw[hk,he];rfl),dO]
   simp
  |false=>
   simp only[hx]at h
   show List.lookup x ((if(k==NameKind.free&&env.scope.kind==ScopeKind.function&&env.kindOf n==some NameKind.cell)=true then(n,NameKind.cell)else(n,k))::_)=_
   by_cases hq:(k==NameKind.free&&env.scope.kind== .function&&env.kindOf n==some .cell)=true
   ·rw[kF hq,dO]
    simp only[hx]
    exact ih h
   ·rw[kB hq,dO]
    simp only[hx]
    exact ih h
noncomputable abbrev uR(X:Cx)(N:List Str)(scope:Scope)(C:Addr)(fp:List Addr)(s:Shared)(H:Hp)(xe:Value→Shared→Prop):Cx:=
 { X with N:=N,s₀:=s,H₀:=H,env:=compEnvC scope (clOf X.env scope.names []) C X.env,outer:=X.stack,ex:=fp,fn:=λ_=>false,pn:=[],xe:=xe }
noncomputable def pick(ix:List Nat)(σ:St):St:=ix.map λi=>σ.getD i none
noncomputable def q7O(XN:List Str)(kd:Str→Option NameKind)(names:List (Str×NameKind))(N:List Str)(ix:List Nat):Bool:=
 (List.range ix.length).all λj=>match N[j]?,ix[j]? with
  |some x,some i=>decide (XN[i]?=some x)&&decide (names.lookup x=some .free)&&decide (kd x=some .cell)
  |_,_=>false
theorem qDX{XN:List Str}{kd:Str→Option NameKind}{names:List (Str×NameKind)}{N:List Str}{ix:List Nat}(h:q7O XN kd names N ix=true){j:Nat}(hj:j<ix.length){x:Str}(hx:N[j]?=some x):
 ∃i,ix[j]?=some i∧XN[i]?=some x∧names.lookup x=some .free∧kd x=some .cell:=by
 unfold q7O at h
 rw[dP]at h
 have q:=h j (mP.mpr hj)
 rw[hx,hV hj]at q
 simp only[mO,kU]at q
 exact⟨_,hV hj,q.1.1,q.1.2,q.2⟩
theorem qB9{X:Cx}{pins:List (Addr×Obj)}{σ:St}{H:Hp}{s:Shared}(I:Inv X pins σ H s){N:List Str}{ix:List Nat}{scope:Scope}{fp:List Addr}{xe:Value→Shared→Prop}(hf:∀b∈fp,FpOk X pins H b)(ho:∀b∈fp,∃o,s.heap.get? b=some o)
 (hk:scope.kind=.function) (hc:∀y∈scope.names,y.2≠ .cell) (hfr:∀y∈scope.names,y.2=.free→X.env.kindOf y.1=some .cell) (hcap:q7O X.N X.env.kindOf scope.names N ix=true) (hN:ix.length≤N.length) {h₁:Heap} {tk n:Nat} {m:Str→Option Value}
 (hn:h₁.Ns (s.heap.objs.size+1) m) (hkp:∀b u,s.heap.get? b=some u→h₁.get? b=some u) (hD:h₁.get? s.heap.objs.size=some { cls:=.type "list",data:=.seq ([]:List Value).toArray n }):
 Inv (uR X N scope (s.heap.objs.size+1) fp s H xe) [] (pick ix σ++List.replicate (N.length-ix.length) none) (upd H s.heap.objs.size (.lst [])) { s with heap:=h₁,toks:=tk }:=by
 have fresh:H s.heap.objs.size=none:=I.hok.fresh (kN _)
 have fresh1:H (s.heap.objs.size+1)=none:=I.hok.fresh (dU _)
 have cel:∀x c,(clOf X.env scope.names []).lookup x=some c→X.env.cells.lookup x=some c:=λx c e=>q3S _ _ (by intro q;simp at q) e
 have clt:∀x c,(clOf X.env scope.names []).lookup x=some c→c<s.heap.objs.size:=λx c e=>by
  obtain⟨v,q⟩:=I.cell x c (cel x c e)
  exact q.lt
 refine⟨⟨I.ok.mod,hk,I.ok.glob,I.ok.blt,dU _,λx y c h1 h2=>I.ok.inj x y c (cel x c h1) (cel y c h2),λx hx=>?_,λx c h=>absurd h kQ,I.ok.hd,I.ok.frames,.inl rfl,λb hb=>⟨?_,λx c e=>?_⟩,I.bs,mI I.ok.bsz I.sz,λb o e hb=>?_,λb hb z=>?_,I.stack,I.stkFree⟩,
  rfl,I.bare,Un.laid hkp (kN _) fresh,⟨m,hn,λi x v e1 e2 e3=>?_⟩,λx c e=>?_,?_,λx c e=>?_,λp hp=>?_,I.hok.laid hkp (kN _) ⟨by simp,[],n,.nil,hD⟩,?_⟩
 ·have hx:(x,NameKind.free)∈scope.names:=q9C hc hx
  obtain⟨c,e⟩:=I.ok.has x (.inl (hfr _ hx rfl))
  exact⟨c,q62 e _ _ (.inl hx)⟩
 ·obtain⟨o,e⟩:=ho b hb
  exact mW (g7 (kX e))
 ·exact(hf b hb).2.2.2.2.1 x c (cel x c e)
 ·rcases(hf b hb).2.2.2.1 with z|z
  ·exact I.ok.noex b o e z
  ·exact absurd (mY (kX e) (mI I.ok.bsz z)) (rD _)
 ·rcases kL.mp (I.stkSub b z)with z|z
  ·exact(hf b hb).2.1 z
  ·exact(hf b hb).2.2.1 z
 ·have hi:i<ix.length:=by
   by_cases hi:i<ix.length
   ·exact hi
   ·rw[rK (by simpa[pick]using hi),dW]at e2
    split at e2<;>cases e2
  obtain⟨i0,q1,q2,q3,q4⟩:=qDX hcap hi e1
  rw[List.getElem?_append_left (by simpa[pick]using hi)]at e2
  have e2:σ[i0]?=some (some v):=by
   unfold pick at e2
   rw[mB,q1]at e2
   have e2:σ.getD i0 none=some v:=kP e2
   rw[kJ]at e2
   cases z:σ[i0]? with
   |none=>rw[z]at e2;cases e2
   |some y=>rw[z]at e2;exact g0 some e2
  obtain⟨mX,_,lX⟩:=I.loc
  obtain⟨u,r,l⟩:=lX i0 x v q2 e2 (.inr (.inl q4))
  refine⟨u,r,.inr ⟨.inl (q9D I.ok.kind q4 q3),?_⟩⟩
  rcases l with⟨l,_⟩|⟨_,c,e,z⟩
  ·rw[q4]at l;cases l
  ·obtain⟨o,e',d⟩:=z
   exact⟨c,q62 e _ _ (.inl (gP q3)),o,hkp _ _ e',d⟩
 ·obtain⟨v,o,e',d⟩:=I.cell x c (cel x c e)
  exact⟨v,o,hkp _ _ e',d⟩
 ·show upd H s.heap.objs.size (.lst []) (s.heap.objs.size+1)=none
  rw[qC (rX (dN _))]
  exact fresh1
 ·rw[qC (mW (clt x c e))]
  exact I.freeC x c (cel x c e)
 ·exact absurd (show p∈([]:List (Addr×Obj))from hp) (by simp)
 ·show _=N.length
  rw[mC,gG]
  simp only[pick,hI]
  omega
noncomputable def PIf(X:Cx)(ifs:List Expr)(t:TT):Prop:=
 ∀(pins:List (Addr×Obj)) (s:Shared) (σ:St) (H:Hp) (Q:Bool→Hp→Prop),Inv X pins σ H s→t σ H Q→
  wpAny (model X.prog X.w) X.A (forIn ifs true λc r=>if r=true then do let ok←isTrue c X.env (eval c X.env);pure (ForInStep.yield ok)else pure (ForInStep.yield r)) (TP X pins σ Q) X.xe s
noncomputable def q9E:TT:=λ_ H Q=>Q true H
theorem qDY{A B:Hp→Prop}{σ:St}{H:Hp}(h:A H):q9E σ H (λb H6=>if b=true then A H6 else B H6):=by
 show if true=true then A H else B H
 rw[kF rfl]
 exact h
theorem q83{X:Cx}:PIf X [] q9E:=λpins s σ H Q I h=>kZ ⟨H,I,h⟩
theorem yD{X:Cx}{c:Expr}{t:TT}(hc:PT X c t):PIf X [c] t:=λpins s σ H Q I h=>by
 rw[List.forIn_cons]
 show wpAny _ _ (bind (if true=true then _ else _) _) _ _ _
 rw[kF rfl]
 refine kD (kD (thn (hc pins s σ H Q I h) λb s1 q=>?_))
 exact kZ (kZ q)
noncomputable def tLC(wi:TI)(g:TG)(tc:TT)(te:TE)(ix:List Nat)(k:Nat):TE:=λσ H Q=>wi σ H λJ H1=>∀D H2,H1 D=none→Same H1 H2→H2 D=some (.lst [])→
 ∃W:Nat→Nat→Hp→Prop,(∃m,W 0 m H2)∧∀i m H3,W i m H3→(J.stop i H3∧Q (.ref D) H3)∨
  (J.go i H3∧∃N:Hp→Prop,(∀H',N H'→∃m',m'<m∧W (i+1) m' H')∧∀x H4,J.yld i H3 x H4→g x (pick ix σ++List.replicate k none) H4 λσ5 H5=>tc σ5 H5 λb H6=>
   if b=true then te σ5 H6 (λv H7=>∃vs,H7 D=some (.lst vs)∧vs.length<sizeLine∧N (upd H7 D (.lst (vs++[v]))))else N H6)
noncomputable def Own(g:TG)(k:Nat):Prop:=∀x σ H Q,g x σ H Q→g x σ H λσ' H'=>Q σ' H'∧σ'.length=σ.length∧∀j,j<k→σ'[j]?=σ[j]?
noncomputable def OwnS(g:TGs)(k:Nat):Prop:=∀(xs:List V) (σ:St) (H:Hp) (Q:St→Hp→Prop) (σ0:St),σ.length=σ0.length→(∀j,j<k→σ[j]?=σ0[j]?)→g xs σ H Q→g xs σ H λσ' H'=>Q σ' H'∧σ'.length=σ0.length∧∀j,j<k→σ'[j]?=σ0[j]?
theorem qFV{k:Nat}:OwnS gNil k:=λxs σ H Q σ0 h1 h2 ⟨e,q⟩=>⟨e,q,h1,h2⟩
theorem q9F{i k:Nat}{u:TGs}(h:k≤i)(hu:OwnS u k):OwnS (qH5 (q2U i) u) k:=λxs σ H Q σ0 h1 h2 ⟨v,r,e,q⟩=>
 ⟨v,r,e,hu r (σ.set i (some v)) H Q σ0 (gF.trans h1) (λj hj=>by rw[rW (by omega)];exact h2 j hj) q⟩
theorem qFW{K:PySem.W.Frag}{n k:Nat}{g:TGs}(h:OwnS g k):Own (gTup K n g) k:=λx σ H Q ⟨a,xs,e1,e2,e3,q⟩=>⟨a,xs,e1,e2,e3,h xs σ H Q σ rfl (λ_ _=>rfl) q⟩
theorem jQ{i k:Nat}(h:k≤i):Own (q2U i) k:=λx σ H Q q=>⟨q,gF,λj hj=>by rw[rW (by omega)]⟩
theorem qBA{P:Program}{w:World}{A:Around}{R:Result→Shared→Prop}{s:Shared}{elt tg iter:Expr}{ifs:List Expr}{sc:Scope}{pos:Pos}{it acc:Value}{env:Env}(J:Nat→Shared→Prop)
 (turn:∀n s1,J n s1→wpAny (model P w) A (pyNext it) (λr s2=>match r with
  |none=>R (.ok .next) s2
  |some v=>wpAny (model P w) A (letOwnedTupleGo tg it v) (λ_ s3=>wpAny (model P w) A (assign tg env v) (λ_ s4=>
   wpAny (model P w) A (forIn ifs true λc r=>if r=true then do let ok←isTrue c env (eval c env);pure (ForInStep.yield ok)else pure (ForInStep.yield r)) (λok s5=>
    if ok=true then wpAny (model P w) A (eval elt env) (λx s6=>wpAny (model P w) A (call (.builtin "list.append") [acc,x]) (λ_ s7=>∃m,m<n∧J m s7) (notedBy (model P w) A env λe s'=>R (.error e) s') s6) (notedBy (model P w) A env λe s'=>R (.error e) s') s5
    else ∃m,m<n∧J m s5) (notedBy (model P w) A env λe s'=>R (.error e) s') s4) (notedBy (model P w) A env λe s'=>R (.error e) s') s3) (notedBy (model P w) A env λe s'=>R (.error e) s') s2) (notedBy (model P w) A env λe s'=>R (.error e) s') s1)
 (n:Nat) (h:J n s):codeAny (model P w) A (.compLoop (.ListComp elt [⟨tg,iter,ifs,0⟩] sc pos) 0 it acc env) R s:=by
 refine codeAny_loop rfl J (λm s1 hJ=>?_) n h
 show wpAny _ A ((compTurn _ 0 it acc env).onRaise (λx=>do noteFrame x env;theTreesLotGoes x)) _ _ s1
 refine wpAny_noted ?_
 rw[compTurn_list]
 refine kD (p8 (kD (thn (turn m s1 hJ) λr s2 h2=>?_)))
 cases r with
 |none=>exact kZ h2
 |some v=>
  refine kD (thn h2 λ_ s3 h3=>kD (thn h3 λ_ s4 h4=>kD (thn h4 λok s5 h5=>?_)))
  cases ok with
  |false=>exact kZ ⟨rfl,h5⟩
  |true=>exact kD (kD (thn h5 λx s6 h6=>kD (thn h6 λ_ s7 h7=>kZ (kZ ⟨rfl,h7⟩))))
theorem qKB{X:Cx}{elt iter tg:Expr}{ifs:List Expr}{scope:Scope}{pos:Pos}{wi:TI}{g:TG}{tc:TT}{te:TE}(N:List Str)(ix:List Nat)(hcalm:X.calm=true)(hi:PI X tg iter wi)
 (hg:∀C fp s H xe,PG (uR X N scope C fp s H xe) tg g) (hif:∀C fp s H xe,PIf (uR X N scope C fp s H xe) ifs tc) (he:∀C fp s H xe,PE (uR X N scope C fp s H xe) elt te)
 (hk:scope.kind=.function) (hc:∀y∈scope.names,y.2≠ .cell) (hfr:∀y∈scope.names,y.2=.free→X.env.kindOf y.1=some .cell) (hcap:q7O X.N X.env.kindOf scope.names N ix=true) (hN:ix.length≤N.length)
 (hnames:∀x∈scope.names,x.2=.local→scope.names.lookup x.1=some .local) (hown:Own g ix.length) (hs:∀x,foldedSetIterable iter X.env x=pure x:=by intro _;rfl):
 PE X (.ListComp elt [⟨tg,iter,ifs,0⟩] scope pos) (tLC wi g tc te ix (N.length-ix.length)):=by
 intro pins s σ H Q I h
 rw[eval_ListComp]
 refine wpAny_comprehension_free (use:=none) (cl:=clOf X.env scope.names []) rfl hs (q32 λy hy hyf=>I.ok.has _ (.inl (hfr y hy hyf))) hk hnames (thn (hi pins s σ H _ I h) λv s1 h1=>thn h1 λitv s2 h2=>?_)
 obtain⟨it,fp,tn,J,H2,e,I2,T,st2,f2,q2⟩:=h2
 subst e
 refine dX (pD hc (by intro y hy;simp at hy) (λh₁ hns₁ hsb₁=>?_) hk)
 dsimp only at hns₁ hsb₁ ⊢
 rw[cM]at hns₁ hsb₁ ⊢
 have old:∀b o,s2.heap.get? b=some o→h₁.get? b=some o:=λb o e=>hsb₁.extBut b o (mW (g7 (kX e))) (kE _ (kE _ e))
 have hacc:h₁.get? s2.heap.objs.size=some { cls:=.type "list",data:=.seq ([]:List Value).toArray }:=hsb₁.extBut _ _ (mW (dN _)) (kE _ (mK _ rfl))
 have fob:∀b∈fp,∃o,s2.heap.get? b=some o:=λb hb=>let⟨o,e,_⟩:=T.obj _ _ st2 b hb;⟨o,e⟩
 have fresh:H2 s2.heap.objs.size=none:=I2.hok.fresh (kN _)
 obtain⟨W,⟨m0,w0⟩,turn⟩:=q2 s2.heap.objs.size (upd H2 s2.heap.objs.size (.lst [])) fresh (Same.upd fresh) qI
 have fin:∀{pY σ' H' s'},Inv (uR X N scope (s2.heap.objs.size+1) fp s2 H2 (notedBy (model X.prog X.w) X.A (compEnvC scope (clOf X.env scope.names []) (s2.heap.objs.size+1) X.env) λe s'=>compPost (model X.prog X.w) X.A X.xe none (EP X pins σ Q) (.ref s2.heap.objs.size) (s2.heap.objs.size+1) (.error e) s')) pY σ' H' s'→Q (.ref s2.heap.objs.size) H'→
  compPost (model X.prog X.w) X.A X.xe none (EP X pins σ Q) (.ref s2.heap.objs.size) (s2.heap.objs.size+1) (.ok .next) s':=fun {pY σ' H' s'} J q=>by
  obtain⟨m,hm,_⟩:=id J.loc
  refine⟨m,hm,λh' sb=>⟨.ref s2.heap.objs.size,H',?_,rfl,q⟩⟩
  have eb:∀b o,b≠s2.heap.objs.size+1→s'.heap.get? b=some o→h'.get? b=some o:=λb o nb e=>sb.extBut b o nb e
  have low:∀b o,s2.heap.get? b=some o→b≠s2.heap.objs.size+1:=λb o e=>mW (g7 (kX e))
  have u:=J.base
  have nC:H' (s2.heap.objs.size+1)=none:=J.free
  refine I2.call' (ch:=fp) (s':={ s' with heap:=h' }) J.os ⟨λb o e n1 n2 n3=>eb b o (low b o e) (u.keep b o e n1 n2 n3),λb o e n1 n2 n3=>?_,u.free,λb o e n1=>?_,u.tups,u.frzs,u.tbls⟩ (λb o e=>?_) J.bare λb hb=>⟨(f2 b hb).2.2.2.1,(f2 b hb).2.1,(f2 b hb).2.2.2.2.1,(f2 b hb).2.2.2.2.2⟩
  ·obtain⟨sl,q1⟩:=u.slot b o e n1 n2 n3
   exact⟨sl,eb b _ (low b o e) q1⟩
  ·obtain⟨o',q1⟩:=u.there b o e n1
   exact⟨o',eb b _ (low b o e) q1⟩
  ·refine(J.hok b o e).stay (λc v hc q1=>eb c v ?_ q1) (λ_ q1=>q1) λ_ _ q1=>q1
   rcases hc with rfl|z
   ·exact qF e nC
   ·exact qF z nC
 have IY:Inv (uR X N scope (s2.heap.objs.size+1) fp s2 H2 (notedBy (model X.prog X.w) X.A (compEnvC scope (clOf X.env scope.names []) (s2.heap.objs.size+1) X.env) λe s'=>compPost (model X.prog X.w) X.A X.xe none (EP X pins σ Q) (.ref s2.heap.objs.size) (s2.heap.objs.size+1) (.error e) s')) [] (pick ix σ++List.replicate (N.length-ix.length) none) (upd H2 s2.heap.objs.size (.lst [])) { s2 with heap:=h₁,toks:=s2.toks+([]:List (Str×Value)).length }:=
  qB9 I2 f2 fob hk hc hfr hcap hN hns₁ old hacc
 generalize hY:uR X N scope (s2.heap.objs.size+1) fp s2 H2 (notedBy (model X.prog X.w) X.A (compEnvC scope (clOf X.env scope.names []) (s2.heap.objs.size+1) X.env) λe s'=>compPost (model X.prog X.w) X.A X.xe none (EP X pins σ Q) (.ref s2.heap.objs.size) (s2.heap.objs.size+1) (.error e) s')=Y at IY fin
 have hgY:PG Y tg g:=hY▸hg _ _ _ _ _
 have hifY:PIf Y ifs tc:=hY▸hif _ _ _ _ _
 have heY:PE Y elt te:=hY▸he _ _ _ _ _
 have hP:Y.prog=X.prog:=by rw[←hY]
 have hw:Y.w=X.w:=by rw[←hY]
 have hK:Y.K=X.K:=by rw[←hY]
 have hcl:Y.calm=true:=by rw[←hY];exact hcalm
 have stat:∀{H':Hp},(∀b∈fp,H' b=none)→∀b∈fp,FpOk Y [] H' b:=fun {H'} hn b hb=>by
  rw[←hY]
  refine⟨hn b hb,?_,λz=>?_,.inl hb,λx c e=>?_,λp hp=>absurd (show p∈([]:List (Addr×Obj))from hp) (by simp)⟩
  ·obtain⟨o,e⟩:=fob b hb
   exact mW (g7 (kX e))
  ·rcases kL.mp (I2.stkSub b z)with z|z
   ·exact(f2 b hb).2.1 z
   ·exact(f2 b hb).2.2.1 z
  ·exact(f2 b hb).2.2.2.2.1 x c (q3S _ _ (by intro q;simp at q) e)
 have loop:codeAny (model X.prog X.w) X.A (.compLoop (.ListComp elt [⟨tg,iter,ifs,0⟩] scope pos) 0 (.ref it) (.ref s2.heap.objs.size) (compEnvC scope (clOf X.env scope.names []) (s2.heap.objs.size+1) X.env))
  (compPost (model X.prog X.w) X.A X.xe none (EP X pins σ Q) (.ref s2.heap.objs.size) (s2.heap.objs.size+1)) { s2 with heap:=h₁,toks:=s2.toks+([]:List (Str×Value)).length }:=by
  refine qBA (λn s'=>∃i H',Inv Y [] (pick ix σ++List.replicate (N.length-ix.length) none) H' s'∧tn i s'.heap∧(∀b∈fp,H' b=none)∧W i n H') ?_ m0
   ⟨0,_,IY,T.keep _ _ _ st2 (λb hb o e=>old b o e),λb hb=>by obtain⟨o,e⟩:=fob b hb;rw[qC (mW (kX e))];exact(f2 b hb).1,w0⟩
  rintro n s3 ⟨i,H3,I3,st3,fr3,w3⟩
  rcases turn i n H3 w3 with⟨stop,qn⟩|⟨go,NN,hNN,step⟩
  ·have d:=T.done Y hP hw hK hcl i [] s3 _ H3 Y.xe I3 (stat fr3) st3 stop
   subst hY
   refine thn d λr s4 hZ=>?_
   obtain⟨hr,I4⟩:=hZ
   subst hr
   exact fin I4 qn
  ·have d:=T.item Y hP hw hK hcl i [] s3 _ H3 Y.xe I3 (stat fr3) st3 go
   have again:∀{p5:List (Addr×Obj)} {s5 s8:Shared} {σ6:St} {H8:Hp},p5=q4D fp s5.heap→tn (i+1) s5.heap→σ6.length=(pick ix σ++List.replicate (N.length-ix.length) none).length→(∀j,j<ix.length→σ6[j]?=(pick ix σ++List.replicate (N.length-ix.length) none)[j]?)→Inv Y ([]++p5) σ6 H8 s8→NN H8→
    ∃m',m'<n∧∃i H',Inv Y [] (pick ix σ++List.replicate (N.length-ix.length) none) H' s8∧tn i s8.heap∧(∀b∈fp,H' b=none)∧W i m' H':=fun {p5 s5 s8 σ6 H8} e5 st5 l6 k6 I8 q8=>by
    subst e5
    obtain⟨m',hm,w8⟩:=hNN _ q8
    refine⟨m',hm,i+1,H8,I8.unpinned.weak l6.symm (λj v e=>?_),T.keep _ _ _ st5 λb hb o e=>(I8.pin (b,o) (mJ _ (mJ _ (yY hb e)))).1,λb hb=>?_,w8⟩
    ·by_cases hj:j<ix.length
     ·rw[k6 j hj];exact e
     ·rw[rK (by simpa[pick]using hj),dW]at e
      split at e<;>cases e
    ·obtain⟨o,e,_⟩:=T.obj _ _ st5 b hb
     exact(I8.pin (b,o) (mJ _ (mJ _ (yY hb e)))).2.1
   have tail:∀(r:Option Value) (s4:Shared),(∃u,r=some u∧wpAny (model Y.prog Y.w) Y.A (letOwnedTupleGo tg (.ref it) u) (λ_ s2=>∃x H',Inv Y [] (pick ix σ++List.replicate (N.length-ix.length) none) H' s2∧RelV x u∧J.yld i H3 x H'∧tn (i+1) s2.heap∧∀b∈fp,H' b=none) Y.xe s4)→
    (match r with
    |none=>compPost (model X.prog X.w) X.A X.xe none (EP X pins σ Q) (.ref s2.heap.objs.size) (s2.heap.objs.size+1) (.ok .next) s4
    |some v=>wpAny (model Y.prog Y.w) Y.A (letOwnedTupleGo tg (.ref it) v) (λ_ s₁=>wpAny (model Y.prog Y.w) Y.A (assign tg Y.env v) (λ_ s₂=>
     wpAny (model Y.prog Y.w) Y.A (forIn ifs true λc r=>if r=true then do let ok←isTrue c Y.env (eval c Y.env);pure (ForInStep.yield ok)else pure (ForInStep.yield r)) (λok s₃=>
      if ok=true then wpAny (model Y.prog Y.w) Y.A (eval elt Y.env) (λx s₄=>
       wpAny (model Y.prog Y.w) Y.A (call (.builtin "list.append") [.ref s2.heap.objs.size,x]) (λ_ s₅=>∃m,m<n∧∃i H',Inv Y [] (pick ix σ++List.replicate (N.length-ix.length) none) H' s₅∧tn i s₅.heap∧(∀b∈fp,H' b=none)∧W i m H') Y.xe s₄) Y.xe s₃
      else ∃m,m<n∧∃i H',Inv Y [] (pick ix σ++List.replicate (N.length-ix.length) none) H' s₃∧tn i s₃.heap∧(∀b∈fp,H' b=none)∧W i m H') Y.xe s₂) Y.xe s₁) Y.xe s4):=by
    rintro r s4 ⟨u,rfl,h4⟩
    dsimp only
    refine thn h4 λ_ s5 hZ=>?_
    obtain⟨x,H5,I5,r5,y5,st5,fr5⟩:=hZ
    have I5':=I5.pinned (stat fr5) (T.obj _ _ st5)
    refine thn (hgY _ s5 _ H5 x u _ I5' r5 (hown _ _ _ _ (step x H5 y5))) λ_ s6 hZ=>?_
    obtain⟨σ6,H6,I6,q6,l6,k6⟩:=hZ
    refine thn (hifY _ s6 σ6 H6 _ I6 q6) λb s7 hZ=>?_
    obtain⟨H7,I7,q7⟩:=hZ
    cases b with
    |false=>
     rw[kB (by decide)]at q7 ⊢
     exact again rfl st5 l6 k6 I7 q7
    |true=>
     rw[kF rfl]at q7 ⊢
     refine thn (heY _ s7 σ6 H7 _ I7 q7) λy s8 hZ=>?_
     obtain⟨v,H8,I8,r8,vs,e8,hz,q8⟩:=hZ
     refine thn (vV (X:=Y) _ s8 σ6 H8 (.ref s2.heap.objs.size) [v] (.ref s2.heap.objs.size) [y] (λ_ H9=>NN H9) I8 rfl (.cons r8 .nil) ⟨s2.heap.objs.size,vs,v,rfl,rfl,e8,hz,q8⟩) λ_ s9 hZ=>?_
     obtain⟨_,H9,I9,_,q9⟩:=hZ
     exact again rfl st5 l6 k6 I9 q9
   subst hY
   exact thn d tail
 exact codeAny_compStart_list loop (T.self X.A 0 _ _ _ (T.keep _ _ _ st2 λb hb o e=>old b o e) loop)
noncomputable def qBB(XN:List Str)(kd:Str→Option NameKind)(sc:Scope)(N:List Str)(ix:List Nat):Bool:=
 decide (sc.kind=.function)&&sc.names.all (λy=>decide (y.2≠ .cell)&&(decide (y.2≠ .free)||decide (kd y.1=some .cell))&&(decide (y.2≠ .local)||decide (sc.names.lookup y.1=some .local)))&&q7O XN kd sc.names N ix&&decide (ix.length≤N.length)
theorem yU{X:Cx}{elt iter tg:Expr}{ifs:List Expr}{scope:Scope}{pos:Pos}{wi:TI}{g:TG}{tc:TT}{te:TE}(N:List Str)(ix:List Nat)(hcalm:X.calm=true)(hi:PI X tg iter wi)
 (hg:∀C fp s H xe,PG (uR X N scope C fp s H xe) tg g) (hif:∀C fp s H xe,PIf (uR X N scope C fp s H xe) ifs tc) (he:∀C fp s H xe,PE (uR X N scope C fp s H xe) elt te)
 (ok:qBB X.N X.env.kindOf scope N ix=true) (hown:Own g ix.length) (hs:∀x,foldedSetIterable iter X.env x=pure x:=by intro _;rfl):
 PE X (.ListComp elt [⟨tg,iter,ifs,0⟩] scope pos) (tLC wi g tc te ix (N.length-ix.length)):=by
 unfold qBB at ok
 rw[mO,mO,mO,dP]at ok
 obtain⟨⟨⟨h1,h2⟩,h3⟩,h4⟩:=ok
 have h2':∀y∈scope.names,y.2≠ .cell∧(y.2≠ .free∨X.env.kindOf y.1=some .cell)∧(y.2≠ .local∨scope.names.lookup y.1=some .local):=λy hy=>by
  have q:=h2 y hy
  rw[mO,mO,wN,wN,kU,kU,kU,kU,kU]at q
  exact⟨q.1.1,q.1.2,q.2⟩
 exact qKB N ix hcalm hi hg hif he (mL h1) (λy hy=>(h2' y hy).1) (λy hy e=>(h2' y hy).2.1.resolve_left (λz=>z e)) h3 (mL h4) (λy hy e=>(h2' y hy).2.2.resolve_left (λz=>z e)) hown hs
theorem qDZ{lo:Int}{n:Nat}{D:Addr}{H2:Hp}{g:TG}{tc:TT}{te:TE}{σ0:St}{Q:VK}(Pv:Nat→Hp→Prop)(h0:Pv 0 H2)
 (hs:∀(i:Nat) H,i<n→Pv i H→g (.int (lo+i)) σ0 H λσ5 H5=>tc σ5 H5 λb H6=>if b=true then te σ5 H6 (λv H7=>∃vs,H7 D=some (.lst vs)∧vs.length<sizeLine∧Pv (i+1) (upd H7 D (.lst (vs++[v]))))else Pv (i+1) H6) (hd:∀H,Pv n H→Q (.ref D) H):
 ∃W:Nat→Nat→Hp→Prop,(∃m,W 0 m H2)∧∀i m H3,W i m H3→((Itr lo n).stop i H3∧Q (.ref D) H3)∨
  ((Itr lo n).go i H3∧∃N:Hp→Prop,(∀H',N H'→∃m',m'<m∧W (i+1) m' H')∧∀x H4,(Itr lo n).yld i H3 x H4→g x σ0 H4 λσ5 H5=>tc σ5 H5 λb H6=>
   if b=true then te σ5 H6 (λv H7=>∃vs,H7 D=some (.lst vs)∧vs.length<sizeLine∧N (upd H7 D (.lst (vs++[v]))))else N H6):=by
 refine⟨λi m H=>m=n-i∧i≤n∧Pv i H,⟨n,by simp,m8 _,h0⟩,?_⟩
 rintro i m H ⟨rfl,hi,p⟩
 by_cases hlt:i<n
 ·refine .inr ⟨hlt,Pv (i+1),λH' z=>⟨n-(i+1),by omega,rfl,by omega,z⟩,?_⟩
  rintro x H4 ⟨rfl,rfl⟩
  exact hs i _ hlt p
 ·obtain rfl:i=n:=by omega
  exact .inl ⟨kN _,hd _ p⟩
theorem qBC{K:PySem.W.Frag}{a:Addr}{xs:List V}{D:Addr}{H2:Hp}{g:TG}{tc:TT}{te:TE}{σ0:St}{Q:VK}(Pv:Nat→Hp→Prop)(h0:Pv 0 H2)(hl:∀i H,Pv i H→SqL K H a xs)
 (hs:∀(i:Nat) x H,xs[i]?=some x→Pv i H→g x σ0 H λσ5 H5=>tc σ5 H5 λb H6=>if b=true then te σ5 H6 (λv H7=>∃vs,H7 D=some (.lst vs)∧vs.length<sizeLine∧Pv (i+1) (upd H7 D (.lst (vs++[v]))))else Pv (i+1) H6) (hd:∀H,Pv xs.length H→Q (.ref D) H):
 ∃W:Nat→Nat→Hp→Prop,(∃m,W 0 m H2)∧∀i m H3,W i m H3→((Itl K a).stop i H3∧Q (.ref D) H3)∨
  ((Itl K a).go i H3∧∃N:Hp→Prop,(∀H',N H'→∃m',m'<m∧W (i+1) m' H')∧∀x H4,(Itl K a).yld i H3 x H4→g x σ0 H4 λσ5 H5=>tc σ5 H5 λb H6=>
   if b=true then te σ5 H6 (λv H7=>∃vs,H7 D=some (.lst vs)∧vs.length<sizeLine∧N (upd H7 D (.lst (vs++[v]))))else N H6):=by
 refine⟨λi m H=>m=xs.length-i∧i≤xs.length∧Pv i H,⟨xs.length,by simp,m8 _,h0⟩,?_⟩
 rintro i m H ⟨rfl,hi,p⟩
 have hq:=hl i H p
 by_cases hlt:i<xs.length
 ·have e1:xs[i]?=some xs[i]:=hV hlt
  refine .inr ⟨⟨xs,_,hq,e1⟩,Pv (i+1),λH' z=>⟨xs.length-(i+1),by omega,rfl,by omega,z⟩,?_⟩
  rintro x H4 ⟨rfl,hx⟩
  exact hs i x _ (hx xs hq) p
 ·obtain rfl:i=xs.length:=by omega
  exact .inl ⟨⟨xs,hq,kN _⟩,hd _ p⟩
theorem qE0{K:PySem.W.Frag}{a:Addr}{xs:List V}{k:Nat}{D:Addr}{H2:Hp}{te:TE}{σ0:St}{Q:VK}(Pv:Nat→Hp→Prop)(h0:Pv 0 H2)(hl:∀i H,Pv i H→SqL K H a xs)
 (hs:∀(i:Nat) x H,xs[i]?=some x→Pv i H→te (σ0.set k (some x)) H (λv H7=>∃vs,H7 D=some (.lst vs)∧vs.length<sizeLine∧Pv (i+1) (upd H7 D (.lst (vs++[v]))))) (hd:∀H,Pv xs.length H→Q (.ref D) H):
 ∃W:Nat→Nat→Hp→Prop,(∃m,W 0 m H2)∧∀i m H3,W i m H3→((Itl K a).stop i H3∧Q (.ref D) H3)∨
  ((Itl K a).go i H3∧∃N:Hp→Prop,(∀H',N H'→∃m',m'<m∧W (i+1) m' H')∧∀x H4,(Itl K a).yld i H3 x H4→q2U k x σ0 H4 λσ5 H5=>q9E σ5 H5 λb H6=>
   if b=true then te σ5 H6 (λv H7=>∃vs,H7 D=some (.lst vs)∧vs.length<sizeLine∧N (upd H7 D (.lst (vs++[v]))))else N H6):=
 qBC (g:=q2U k) (tc:=q9E) Pv h0 hl (λi x H hx p=>qDY (σ:=σ0.set k (some x)) (A:=λH6=>te (σ0.set k (some x)) H6 _) (B:=λH6=>Pv (i+1) H6) (hs i x H hx p)) hd
noncomputable def rEmp(K:PySem.W.Frag):R2:=λx y H Q=>∃p xs e,x=.ref p∧y=.ref e∧SqL K H p xs∧SqL K H e []∧Q (.bl (decide (xs=[]))) H
theorem qAE{X:Cx}(hu:X.A.units+64<cLine):OpR X (compareOp .Eq) (rEmp X.K):=by
 intro pins s σ H x y v u Q I rx ry hZ
 obtain⟨p,xs,e,ex,ey,hp,he,q⟩:=hZ
 subst ex ey
 cases rx
 cases ry
 obtain⟨i1,r1,p1,_⟩:=I.list hp
 obtain⟨i2,r2,p2,_⟩:=I.list he
 have l1:=r1.length
 have l2:=r2.length
 cases xs with
 |nil=>exact SeqAt.eq_listAt (e:=λ_=>true) p1.isList p2.isList (by simp at l1 l2 ⊢;omega) (by omega) (λj h1 h2=>by simp at l1 h1;omega) ⟨.bl true,H,I,by rw[q09];rfl,q⟩
 |cons z zs=>exact SeqAt.eq_list_lengthsAt p1.isList p2.isList (by simp at l1 l2 ⊢;omega) (by omega) ⟨.bl false,H,I,rfl,q⟩
section
variable{X:Cx}{o e f:Expr}{apos cpos:Pos}{td ty tx:TE}
theorem qE1{P:Program}{w:World}{k:Key}{u:Value}(h:(jN P w).is k u=true):RelV (kV k) u:=by
 cases k with
 |inl i=>exact Value.isInt_shape h
 |inr x=>exact Value.isStrOf_shape h
theorem q4H{α β:Type}{F:α→β→Prop}:∀{l₁:List α} {l₂:List β},l₁.length=l₂.length→(∀(j:Nat) a b,l₁[j]?=some a→l₂[j]?=some b→F a b)→Paired F l₁ l₂
 | [],[],_,_=>.nil
 |a::l,b::l',h,k=>.cons (k 0 a b rfl rfl) (q4H (by simpa using h) λj x y hx hy=>k (j+1) x y (by simpa using hx) (by simpa using hy))
 | [],_::_,h,_=>by simp at h
 |_::_,[],h,_=>by simp at h
end
theorem q5K:∀{ns:List Int} {vs:List Value},Vals (ns.map V.int) vs→IntsAre vs ns
 | [],_,.nil=>.nil
 |n::ns,_,.cons h t=>by
  obtain⟨t0,rfl⟩:=h
  exact .cons n t0 (q5K t)
section
variable{X:Cx}
theorem q0R:∀{vs:List Value} {ns:List Int},IntsAre vs ns→Vals (ns.map V.int) vs
 |_,_,.nil=>.nil
 |_,_,.cons n t h=>.cons ⟨t,rfl⟩ (q0R h)
theorem q84:q17 X (.builtin "sorted") (λxs H Q=>∃(p:Addr) (ns:List Int),xs=[.ref p]∧SqL X.K H p (ns.map V.int)∧ns.length<64∧∀ns':List Int,ns'.Perm ns→ns'.Pairwise (·≤·)→NewO H (.lst (ns'.map V.int)) Q):=by
 intro pins s σ H xs us Q I r hZ
 obtain⟨p,ns,ex,hq,h64,q⟩:=hZ
 subst ex
 obtain⟨u,rfl,rx⟩:=q3L r
 cases rx
 obtain⟨its,rv,pl,hz⟩:=I.list hq
 have hi:=q5K rv
 have hlen:its.length<64:=by rw[←rv.length,hI];exact h64
 refine sorted_ints pl.isList hi hlen λout ns' a1 a2 a3=>?_
 obtain⟨e,he⟩:=sortedAll_at s.heap its out
 have hz':(ns'.map V.int).length≤sizeLine:=by rw[hI,a2.length_eq,gI];omega
 exact⟨.ref (s.heap.objs.size+1),_,I.laid (t':=s.toks) (λ_ _ h=>sortedAll_old h) (dU _) (show jK X.prog X.w _ _ _ (.lst _)from⟨hz',out.toList,e,q0R a1,by simpa[seqObj]using he⟩),rfl,(q ns' a2 a3).at _ (I.hok.fresh (dU _))⟩
end
structure Mk0(K:PySem.W.Frag)(C:Addr):Prop where
 makes:PySem.W.makesIn K C=true
 init:PySem.W.findIn K (.ref C) "__init__"=some (some (.builtin "object.__init__"))
 kp:PySem.W.keepIn K (.ref C)=true
section
variable{X:Cx}{C:Addr}{x:Str}{p pos:Pos}
noncomputable def tMk0(C:Addr):TE:=λσ H Q=>∀x dx,H x=none→H dx=none→dx≠x→Q (.ref x) (upd (upd H dx (.own x)) x (.ins C dx []))
theorem qE2{pins:List (Addr×Obj)}{σ:St}{H:Hp}{s:Shared}{Q:VK}(M:Mk0 X.K C)(I:Inv X pins σ H s)(h:tMk0 C σ H Q):wpAny (model X.prog X.w) X.A (call (.ref C) []) (EP X pins σ Q) X.xe s:=by
 have hq:=h (s.heap.objs.size+1) s.heap.objs.size (I.hok.fresh (dU _)) (I.hok.fresh (kN _)) (mW (dN _))
 have I2:=Inv.made (C:=C) I
 have kin:=I.kIn
 obtain⟨hp,g,d,t,os⟩:=s
 have Y:=PySem.W.makes_of (M:=model X.prog X.w) kin M.makes
 have hx:((hp.push PySem.W.emptyDict).push (PySem.W.instObj C hp.objs.size)).get? (hp.objs.size+1)=some (PySem.W.instObj C hp.objs.size):=by
  have:=mK (hp.push PySem.W.emptyDict) (o:=PySem.W.instObj C hp.objs.size) rfl
  rwa [cM]at this
 have ty:PySem.W.Looks (model X.prog X.w) ((hp.push PySem.W.emptyDict).push (PySem.W.instObj C hp.objs.size)) (typeOf (.ref (hp.objs.size+1))) (.ref C):=(PySem.W.Looks.ld hx).andThen .now
 have top:PySem.W.Looks (model X.prog X.w) ((hp.push PySem.W.emptyDict).push (PySem.W.instObj C hp.objs.size)) (isInstance (.ref (hp.objs.size+1)) (.type "object")) true:=ty.andThen (Y.top.keeps λb o e=>kE _ (kE _ e))
 refine cY (PySem.W.make_core Y (wW kin M.init) (λself=>PySem.W.Looks.of_pure (PySem.W.oi_bind self)) (.inr ⟨rfl,rfl⟩) ?_)
 refine codeAny_call_builtin PySem.W.oi_plain PySem.W.entry_oi (@PySem.W.check_slot (model X.prog X.w) _ _ _ "object.__init__" "object" "__init__" (.ref (hp.objs.size+1)) [] [] _ PySem.W.oi_kind PySem.W.oi_split top (PySem.W.oi_args (.ref (hp.objs.size+1))) ?_)
 rw[PySem.W.oi_run]
 exact kZ ⟨rfl,⟨.ref (hp.objs.size+1),_,I2,rfl,hq⟩⟩
theorem qE3(M:Mk0 X.K C)(hg:Gl X x)(hm:X.mg x=some (.ref C))(hdb:(x==("__debug__":Str))=false:=by decide):PE X (.Call (.Name x p) [] [] pos) (tMk0 C):=by
 intro pins s σ H Q I h
 exact rJ (q2G I hg hm (pM I.kIn M.kp (qE2 M I h)) hdb)
theorem qE4{e:Expr}{t1 t2:TE}(h1:PE X e t1)(h2:PE X e t2):PE X e (λσ H Q=>t1 σ H Q∨t2 σ H Q):=λpins s σ H Q I h=>h.elim (h1 pins s σ H Q I) (h2 pins s σ H Q I)
end
section
variable{X:Cx}{pins:List (Addr×Obj)}{σ:St}{H:Hp}{s:Shared}{a:Addr}
theorem Inv.freeze{kvs:List (Key×V)}{o:Obj}(I:Inv X pins σ H s)(e:H a=some (.dK kvs))(ho:s.heap.get? a=some o):Inv X pins σ (upd H a (.frz o (.dK kvs))) s:=by
 have ne:∀b u,H b=some u→u≠ .dK kvs→b≠a:=λb u q n z=>by rw[z,e]at q;exact n (kP q).symm
 have nn:∀b,H b=none→b≠a:=λb q z=>by rw[z,e]at q;cases q
 refine⟨I.ok,I.os,I.bare,I.base.trans ⟨λb u q _ _ _=>q,λb u q _ _ _=>⟨u.slots,q⟩,λb u q n _=>by rw[qC (nn b n)];exact n,λb u q _=>⟨u,q⟩,
  λb xs q=>by rw[qC (ne b _ q (by intro z;cases z))];exact q,λb u v q=>by rw[qC (ne b _ q (by intro z;cases z))];exact q,λb ps q=>⟨#[],by rw[qC (ne b _ q (by intro z;cases z)),q];simp⟩⟩,
  I.loc,I.cell,by rw[qC (nn _ I.free)];exact I.free,λx c q=>by rw[qC (nn _ (I.freeC x c q))];exact I.freeC x c q,λp hp=>?_,λb u q=>?_,I.len⟩
 ·obtain⟨q1,q2,q3⟩:=I.pin p hp
  exact⟨q1,by rw[qC (nn _ q2)];exact q2,q3⟩
 ·have st:∀b u,jK X.prog X.w H s.heap b u→jK X.prog X.w (upd H a (.frz o (.dK kvs))) s.heap b u:=λb u q=>
   q.stay (λ_ _ _ z=>z) (λc z=>by rw[qC (ne c _ z (by intro z;cases z))];exact z) (λc xs z=>by rw[qC (ne c _ z (by intro z;cases z))];exact z)
  by_cases hb:b=a
  ·subst hb
   rw[qI]at q
   cases q
   exact⟨ho,st b _ (I.hok b _ e)⟩
  ·rw[qC hb]at q
   exact st b u (I.hok b u q)
theorem Inv.thaw{o:Obj}{u:HO}(I:Inv X pins σ H s)(hne:∀o u,X.H₀ a≠some (.frz o u))(e:H a=some (.frz o u)):Inv X pins σ (upd H a u) s:=by
 have ne:∀b v,H b=some v→v≠ .frz o u→b≠a:=λb v q n z=>by rw[z,e]at q;exact n (kP q).symm
 have nn:∀b,H b=none→b≠a:=λb q z=>by rw[z,e]at q;cases q
 have nf:∀b v,X.H₀ b=some v→(∃o' u',v=.frz o' u')→b≠a:=λb v q ⟨o',u',z⟩ w=>by rw[w,z]at q;exact hne o' u' q
 refine⟨I.ok,I.os,I.bare,⟨I.base.keep,I.base.slot,λb v q n hx=>?_,I.base.there,λb xs q=>?_,λb v w q=>?_,λb ps q=>?_⟩,
  I.loc,I.cell,by rw[qC (nn _ I.free)];exact I.free,λx c q=>by rw[qC (nn _ (I.freeC x c q))];exact I.freeC x c q,λp hp=>?_,λb v q=>?_,I.len⟩
 ·have:=I.base.free b v q n hx
  rw[qC (nn b this)]
  exact this
 ·have:=I.base.tups b xs q
  rw[qC (ne b _ this (by intro z;cases z))]
  exact this
 ·rw[qC (nf b _ q ⟨_,_,rfl⟩)]
  exact I.base.frzs b v w q
 ·obtain⟨more,q2⟩:=I.base.tbls b ps q
  exact⟨more,by rw[qC (ne b _ q2 (by intro z;cases z))];exact q2⟩
 ·obtain⟨q1,q2,q3⟩:=I.pin p hp
  exact⟨q1,by rw[qC (nn _ q2)];exact q2,q3⟩
 ·have st:∀b v,jK X.prog X.w H s.heap b v→jK X.prog X.w (upd H a u) s.heap b v:=λb v q=>
   q.stay (λ_ _ _ z=>z) (λc z=>by rw[qC (ne c _ z (by intro z;cases z))];exact z) (λc xs z=>by rw[qC (ne c _ z (by intro z;cases z))];exact z)
  by_cases hb:b=a
  ·subst hb
   rw[qI]at q
   cases q
   exact st b _ (I.hok b _ e).2
  ·rw[qC hb]at q
   exact st b v (I.hok b v q)
end
noncomputable def Itd(a:Addr)(o:Obj)(kvs:List (Key×V)):It:=
 ⟨λi H=>H a=some (.frz o (.dK kvs))∧i<kvs.length,λi H x H'=>H'=H∧∃kv,kvs[i]?=some kv∧x=kV kv.1,λi H=>H a=some (.frz o (.dK kvs))∧kvs.length≤i⟩
theorem qCI{P:Program}{w:World}{K:PySem.W.Frag}{tg:Expr}(a it:Addr)(o:Obj){kvs:List (Key×V)}{vs:List (Key×Value)}{ep:Nat}(rel:KV kvs vs)(hD:∀h:Heap,h.get? a=some o→h.DictAt (jN P w) a vs ep):
 Turn P w K tg (Itd a o kvs) [it] it (λi h=>h.IsKeyIter it a i vs.length ep) where
 mem:=by simp
 obj:=λi h st b hb=>by
  have e:b=it:=by simpa using hb
  subst e
  obtain⟨o',e,c,d⟩:=st
  exact⟨o',e,λv z=>by rw[d]at z;cases z⟩
 keep:=λi h h' st k=>st.at λo e=>k it (by simp) o e
 item:=by
  intro X hP hw hK hc i pins s σ H E I hf st hg
  subst hP hw hK
  obtain⟨ha,hi⟩:=hg
  obtain⟨ho,_⟩:=I.hok a _ ha
  have hl:=rel.length
  have hi':i<vs.length:=by omega
  obtain⟨f0,f1,f2,f3,f4,f5⟩:=hf it (by simp)
  refine wpAny_pyNext_dict_item (k:=vs[i].1) (v:=vs[i].2) st (hD _ ho) (hV hi') λkey h' hk st' sb=>?_
  have I1:Inv X pins σ H { s with heap:=h' }:=I.turned (t':=s.toks) (λb o hb e=>(sb.2 b hb).trans e) f0 f1 f3 f4 f5
  obtain⟨o',e',c',d'⟩:=id st'
  refine⟨key,rfl,q90 (s:={ s with heap:=h' }) e' c' d' (by decide) ⟨kV kvs[i].1,H,I1,?_,⟨rfl,kvs[i],hV hi,rfl⟩,st',λb hb=>(hf b hb).1⟩⟩
  have ek:=g0 (λl=>l[i]?) rel.keys
  simp only[mB,hV hi,hV hi',Option.map_some]at ek
  rw[kP ek]
  exact qE1 hk
 done:=by
  intro X hP hw hK hc i pins s σ H E I hf st hg
  subst hP hw hK
  obtain⟨ha,hi⟩:=hg
  obtain⟨ho,_⟩:=I.hok a _ ha
  have hl:=rel.length
  obtain⟨f0,f1,f2,f3,f4,f5⟩:=hf it (by simp)
  exact wpAny_pyNext_dict_end (I.ok.hd hc) st (hD _ ho) (dA (by omega)) λh' eb=>⟨rfl,I.turned (t':=s.toks) (λb o hb e=>eb b o hb e) f0 f1 f3 f4 f5⟩
 self:=λ_ _ _ _ _ st h=>wpAny_pyIter_keyiter st h
section
variable{X:Cx}{tg:Expr}
noncomputable def iDct(td:TE):TI:=λσ H R=>td σ H λx H1=>∃a kvs,x=.ref a∧H1 a=some (.dK kvs)∧∀o,R (Itd a o kvs) (upd H1 a (.frz o (.dK kvs)))
theorem qFX{d:Expr}{td:TE}(hd:PE X d td):PI X tg d (iDct td):=by
 intro pins s σ H R I h
 refine thn (hd pins s σ H _ I h) λv s1 hZ=>?_
 obtain⟨x,H1,I1,r1,q1⟩:=hZ
 obtain⟨a,kvs,e,ha,q⟩:=q1
 subst e
 cases r1
 obtain⟨z,lo,vs,rel,dd⟩:=q3O I1.hok ha
 obtain⟨ep,hat⟩:=dd.dictAt
 obtain⟨o,es,ho,hr⟩:=id hat
 have I2:=I1.freeze ha ho
 refine wpAny_pyIter_dict lo hat ?_
 refine⟨s1.heap.objs.size,[s1.heap.objs.size],_,_,_,rfl,I2.kept (t':=s1.toks) λb o e=>kE _ e,qCI a _ o rel (λh' h=>⟨o,es,h,hr⟩),⟨_,mK _ rfl,rfl,rfl⟩,λb hb=>?_,q o⟩
 have e:b=s1.heap.objs.size:=by simpa using hb
 subst e
 exact I2.fpOk (kN _) (I2.hok.fresh (kN _))
theorem qIX{pins:List (Addr×Obj)}{σ:St}{H:Hp}{s:Shared}{a:Addr}{kvs:List (Key×V)}(I:Inv X pins σ H s)(e:H a=some (.dK kvs)):∀o u,X.H₀ a≠some (.frz o u):=λo u q=>by
 have:=I.base.frzs a o u q
 rw[e]at this
 cases this
noncomputable def qKC(t:TE):TE:=λσ H Q=>∃a kvs,H a=some (.dK kvs)∧t σ H λv H'=>∃o u,H' a=some (.frz o u)∧Q v (upd H' a u)
theorem qBD{e:Expr}{t:TE}(h:PE X e t):PE X e (qKC t):=by
 intro pins s σ H Q I hZ
 obtain⟨a,kvs,ha,q⟩:=hZ
 have nf:=qIX I ha
 refine thn (h pins s σ H _ I q) λu s' ⟨v,H',I',r,o,w,e,q⟩=>⟨v,_,I'.thaw nf e,r,q⟩
theorem qFY{a:Addr}{o:Obj}{kvs:List (Key×V)}{D:Addr}{H2:Hp}{g:TG}{tc:TT}{te:TE}{σ0:St}{Q:VK}(Pv:Nat→Hp→Prop)(h0:Pv 0 H2)(hl:∀i H,Pv i H→H a=some (.frz o (.dK kvs)))
 (hs:∀(i:Nat) kv H,kvs[i]?=some kv→Pv i H→g (kV kv.1) σ0 H λσ5 H5=>tc σ5 H5 λb H6=>if b=true then te σ5 H6 (λv H7=>∃vs,H7 D=some (.lst vs)∧vs.length<sizeLine∧Pv (i+1) (upd H7 D (.lst (vs++[v]))))else Pv (i+1) H6) (hd:∀H,Pv kvs.length H→Q (.ref D) H):
 ∃W:Nat→Nat→Hp→Prop,(∃m,W 0 m H2)∧∀i m H3,W i m H3→((Itd a o kvs).stop i H3∧Q (.ref D) H3)∨
  ((Itd a o kvs).go i H3∧∃N:Hp→Prop,(∀H',N H'→∃m',m'<m∧W (i+1) m' H')∧∀x H4,(Itd a o kvs).yld i H3 x H4→g x σ0 H4 λσ5 H5=>tc σ5 H5 λb H6=>
   if b=true then te σ5 H6 (λv H7=>∃vs,H7 D=some (.lst vs)∧vs.length<sizeLine∧N (upd H7 D (.lst (vs++[v]))))else N H6):=by
 refine⟨λi m H=>m=kvs.length-i∧i≤kvs.length∧Pv i H,⟨kvs.length,by simp,m8 _,h0⟩,?_⟩
 rintro i m H ⟨rfl,hi,p⟩
 have q:=hl i H p
 by_cases hlt:i<kvs.length
 ·refine .inr ⟨⟨q,hlt⟩,Pv (i+1),λH' z=>⟨kvs.length-(i+1),by omega,rfl,by omega,z⟩,?_⟩
  rintro v H' ⟨rfl,kv,hk,rfl⟩
  exact hs i kv _ hk p
 ·obtain rfl:i=kvs.length:=by omega
  exact .inl ⟨⟨q,kN _⟩,hd _ p⟩
end
section
variable{X:Cx}
theorem q9G{ns:List Int}{us:List Value}(r:Vals (ns.map V.int) us){j:Nat}(h:j<us.length):∃t,us[j]=.int (ns.getD j 0) t:=by
 obtain⟨x,e,q⟩:=r.atN h
 rw[mB]at e
 cases z:ns[j]? with
 |none=>rw[z]at e;cases e
 |some i=>
  rw[z]at e
  obtain rfl:V.int i=x:=kP e
  obtain⟨t,q⟩:=q
  refine⟨t,?_⟩
  rw[kJ,z]
  exact q
theorem qE5{ns ms:List Int}(h:ns.length=ms.length):(List.range ns.length).all (λj=>ns.getD j 0==ms.getD j 0)=decide (ns=ms):=by
 rw[rR,dP,kU]
 constructor
 ·intro z
  refine cA h λj h1 h2=>?_
  have:=z j (mP.mpr h1)
  rw[r6,kJ,kJ,hV h1,hV h2]at this
  exact this
 ·rintro rfl j _
  exact sG _
noncomputable def qKD(K:PySem.W.Frag):R2:=λx y H Q=>∃(a b:Addr) (ns ms:List Int),x=.ref a∧y=.ref b∧SqT K H a (ns.map V.int)∧SqT K H b (ms.map V.int)∧ns.length=ms.length∧Q (.bl (!decide (ns=ms))) H
theorem qFZ(hu:X.A.units+64<cLine):OpR X (compareOp .NotEq) (qKD X.K):=by
 intro pins s σ H x y v u Q I rx ry h
 obtain⟨a,b,ns,ms,rfl,rfl,ha,hb,hl,q⟩:=h
 cases rx
 cases ry
 obtain⟨i1,r1,p1,_⟩:=I.tuple ha
 obtain⟨i2,r2,p2,_⟩:=I.tuple hb
 have l1:=r1.length
 have l2:=r2.length
 rw[hI]at l1 l2
 refine SeqAt.RcNeAt.tuples (e:=λj=>ns.getD j 0==ms.getD j 0) (show s.heap.IsTuple a i1.toArray from p1) (show s.heap.IsTuple b i2.toArray from p2) (by omega) (λj h1 h2=>?_) _ _ _ _ ⟨.bl _,H,I,?_,q⟩
 ·obtain⟨t1,e1⟩:=q9G r1 (j:=j) (by simpa using h1)
  obtain⟨t2,e2⟩:=q9G r2 (j:=j) (by simpa using h2)
  have z:=SeqAt.EqAt.int_int (A:=X.A.in1) (s:=s) (ns.getD j 0) t1 (ms.getD j 0) t2
  rw[←e1,←e2]at z
  simpa using z
 ·rw[show min i1.toArray.size i2.toArray.size=ns.length by simp;omega,qE5 hl,show(i1.toArray.size==i2.toArray.size)=true by simp;omega,Bool.and_true]
  rfl
end
end L2
namespace W1
open PySem L2
structure Tl where
 b:Int
 lv:Int
 cl:Int
 bo:Int
noncomputable abbrev Tl.ns(T:Tl):List Int:=[T.b,T.lv,T.cl,T.bo]
noncomputable def TlAt(H:Hp)(v:V)(T:Tl):Prop:=∃a,v=.ref a∧H a=some (.tup (T.ns.map V.int))
theorem TlAt.same{H H':Hp}{v:V}{T:Tl}(s:Same H H')(h:TlAt H v T):TlAt H' v T:=let⟨a,e,z⟩:=h;⟨a,e,s _ _ z⟩
noncomputable abbrev Tls(H:Hp):List V→List Tl→Prop:=Paired (TlAt H)
theorem Tls.same{H H':Hp}{vs:List V}{ts:List Tl}(s:Same H H')(h:Tls H vs ts):Tls H' vs ts:=Paired.mapP h λ_ _ z=>z.same s
theorem Tl.eq_of{A B:Tl}(h:A.ns=B.ns):A=B:=by
 cases A;cases B
 simp[Tl.ns]at h
 simp[h]
structure Tl.Ok(pg nw:Int)(T:Tl):Prop where
 b0:0≤T.b
 b1:T.b<16
 l0:0≤T.lv
 l1:T.lv≤pg
 c0:0≤T.cl
 c1:T.cl<10 ^ 30
 o0:0≤T.bo
 o1:T.bo<nw
noncomputable def unb(f:Tl→Int)(ts:List Tl)(T:Tl):Bool:=ts.all λo=>!decide (f o<f T)
theorem q63(f:Tl→Int):∀ts:List Tl,ts≠[]→∃T∈ts,∀o∈ts,f T≤f o
 | [],h=>absurd rfl h
 | [T],_=>⟨T,kI.mpr rfl,λo ho=>by rw[kI.mp ho];exact gL _⟩
 |T::U::r,_=>by
  obtain⟨M,hm,hl⟩:=q63 f (U::r) (by simp)
  by_cases h:f T≤f M
  ·refine⟨T,kW ..,λo ho=>?_⟩
   rcases kL.mp ho with rfl|ho
   ·exact gL _
   ·have:=hl o ho
    omega
  ·refine⟨M,hU _ hm,λo ho=>?_⟩
   rcases kL.mp ho with rfl|ho
   ·omega
   ·exact hl o ho
theorem q5L{f:Tl→Int}{ts:List Tl}{T:Tl}:unb f ts T=true↔∀o∈ts,f T≤f o:=by
 unfold unb
 rw[dP]
 constructor
 ·intro h o ho
  have:=h o ho
  rw[dZ,d3]at this
  omega
 ·intro h o ho
  have:=h o ho
  rw[dZ,d3]
  omega
theorem q64(f:Tl→Int)(ts:List Tl)(h:ts≠[]):∃i,∃hi:i<ts.length,unb f ts ts[i]=true∧∀j,∀hj:j<i,unb f ts (ts[j]'(by omega))=false:=by
 obtain⟨T,hT,hm⟩:=q63 f ts h
 obtain⟨k,hk,e⟩:=cC hT
 have key:∀n,n<ts.length→(∃z:n<ts.length,unb f ts ts[n]=true)→∃i,∃hi:i<ts.length,unb f ts ts[i]=true∧∀j,∀hj:j<i,unb f ts (ts[j]'(by omega))=false:=by
  intro n
  induction n using Nat.strongRecOn with
  |ind n ih=>
   intro hn hZ
   obtain⟨z,hu⟩:=hZ
   by_cases g:∃j,∃hj:j<n,unb f ts (ts[j]'(by omega))=true
   ·obtain⟨j,hj,u⟩:=g
    exact ih j hj (by omega) ⟨by omega,u⟩
   ·refine⟨n,hn,hu,λj hj=>?_⟩
    cases u:unb f ts (ts[j]'(by omega))with
    |false=>rfl
    |true=>exact absurd ⟨j,hj,u⟩ g
 exact key k hk ⟨hk,q5L.mpr (by rw[e];exact hm)⟩
noncomputable def pk(f:Tl→Int)(ts:List Tl):Int:=((ts.find? (unb f ts)).map Tl.b).getD 0
theorem qHC{f:Tl→Int}{ts:List Tl}{i:Nat}(hi:i<ts.length)(u:unb f ts ts[i]=true)(n:∀j,∀hj:j<i,unb f ts (ts[j]'(by omega))=false):pk f ts=ts[i].b:=by
 have e:ts.find? (unb f ts)=some ts[i]:=by
  rw[List.find?_eq_some_iff_getElem]
  exact⟨u,i,hi,rfl,λj hj=>by rw[n j hj];rfl⟩
 unfold pk
 rw[e]
 rfl
theorem q5M{H:Hp}{x dx C:Addr}(nx:H x=none)(nd:H dx=none):Same H (upd (upd H dx (.own x)) x (.ins C dx [])):=λb o e=>by
 rw[qC (qF e nx),qC (qF e nd)]
 exact e
end W1
namespace L2
open PySem PySem.Spec PyProof.Rows
theorem vS{X:Cx}{K:PySem.W.Frag}(e:X.K=K):IxR X (rIxT K):=by
 subst e
 exact yQ
theorem q0A{X:Cx}{K:PySem.W.Frag}(e:X.K=K):IxR X (rIxL K):=by
 subst e
 exact qY
theorem q65{X:Cx}{K:PySem.W.Frag}(e:X.K=K):OpR X (compareOp .In) (rIn K false):=by
 subst e
 exact qC9
theorem q6W{X:Cx}{K:PySem.W.Frag}(e:X.K=K):OpR X (compareOp .NotIn) (rIn K true):=by
 subst e
 exact q3N
theorem qG0{X:Cx}{elt iter tg:Expr}{ifs:List Expr}{scope:Scope}{pos cp:Pos}{wi:TI}{g:TG}{tc:TT}{te:TE}{use:Option (Value→Sem Unit)}{QQ:Value→Shared→Prop}{pins:List (Addr×Obj)}{s:Shared}{σ:St}{H:Hp}{Q:VK}(N:List Str)(ix:List Nat)(hcalm:X.calm=true)(hi:PI X tg iter wi)
 (hg:∀C fp s H xe,PG (uR X N scope C fp s H xe) tg g) (hif:∀C fp s H xe,PIf (uR X N scope C fp s H xe) ifs tc) (he:∀C fp s H xe,PE (uR X N scope C fp s H xe) elt te)
 (hk:scope.kind=.function) (hc:∀y∈scope.names,y.2≠ .cell) (hfr:∀y∈scope.names,y.2=.free→X.env.kindOf y.1=some .cell) (hcap:q7O X.N X.env.kindOf scope.names N ix=true) (hN:ix.length≤N.length)
 (hnames:∀x∈scope.names,x.2=.local→scope.names.lookup x.1=some .local) (hown:Own g ix.length) (I:Inv X pins σ H s) (h:tLC wi g tc te ix (N.length-ix.length) σ H Q)
 (hfin:∀(C D:Addr) (H':Hp) (s':Shared) (m:Str→Option Value),s'.heap.Ns C m→FpOk X pins H' C→(∀h',Heap.SameBut C s'.heap h'→Inv X pins σ H' { s' with heap:=h' })→Q (.ref D) H'→compPost (model X.prog X.w) X.A X.xe use QQ (.ref D) C (.ok .next) s')
 (hs:∀x,foldedSetIterable iter X.env x=pure x:=by intro _;rfl):
 wpAny (model X.prog X.w) X.A (comprehension (.ListComp elt [⟨tg,iter,ifs,0⟩] scope pos) scope X.env cp (newList []) false (eval iter X.env) use) QQ X.xe s:=by
 refine wpAny_comprehension_free (use:=use) (cl:=clOf X.env scope.names []) rfl hs (q32 λy hy hyf=>I.ok.has _ (.inl (hfr y hy hyf))) hk hnames (thn (hi pins s σ H _ I h) λv s1 h1=>thn h1 λitv s2 h2=>?_)
 obtain⟨it,fp,tn,J,H2,e,I2,T,st2,f2,q2⟩:=h2
 subst e
 refine dX (pD hc (by intro y hy;simp at hy) (λh₁ hns₁ hsb₁=>?_) hk)
 dsimp only at hns₁ hsb₁ ⊢
 rw[cM]at hns₁ hsb₁ ⊢
 have old:∀b o,s2.heap.get? b=some o→h₁.get? b=some o:=λb o e=>hsb₁.extBut b o (mW (g7 (kX e))) (kE _ (kE _ e))
 have hacc:h₁.get? s2.heap.objs.size=some { cls:=.type "list",data:=.seq ([]:List Value).toArray }:=hsb₁.extBut _ _ (mW (dN _)) (kE _ (mK _ rfl))
 have fob:∀b∈fp,∃o,s2.heap.get? b=some o:=λb hb=>let⟨o,e,_⟩:=T.obj _ _ st2 b hb;⟨o,e⟩
 have fresh:H2 s2.heap.objs.size=none:=I2.hok.fresh (kN _)
 obtain⟨W,⟨m0,w0⟩,turn⟩:=q2 s2.heap.objs.size (upd H2 s2.heap.objs.size (.lst [])) fresh (Same.upd fresh) qI
 have fin:∀{pY σ' H' s'},Inv (uR X N scope (s2.heap.objs.size+1) fp s2 H2 (notedBy (model X.prog X.w) X.A (compEnvC scope (clOf X.env scope.names []) (s2.heap.objs.size+1) X.env) λe s'=>compPost (model X.prog X.w) X.A X.xe use QQ (.ref s2.heap.objs.size) (s2.heap.objs.size+1) (.error e) s')) pY σ' H' s'→Q (.ref s2.heap.objs.size) H'→
  compPost (model X.prog X.w) X.A X.xe use QQ (.ref s2.heap.objs.size) (s2.heap.objs.size+1) (.ok .next) s':=fun {pY σ' H' s'} J q=>by
  obtain⟨m,hm,_⟩:=id J.loc
  refine hfin (s2.heap.objs.size+1) s2.heap.objs.size H' s' m hm (I2.fpOk (dU _) J.free) (λh' sb=>?_) q
  have eb:∀b o,b≠s2.heap.objs.size+1→s'.heap.get? b=some o→h'.get? b=some o:=λb o nb e=>sb.extBut b o nb e
  have low:∀b o,s2.heap.get? b=some o→b≠s2.heap.objs.size+1:=λb o e=>mW (g7 (kX e))
  have u:=J.base
  have nC:H' (s2.heap.objs.size+1)=none:=J.free
  refine I2.call' (ch:=fp) (s':={ s' with heap:=h' }) J.os ⟨λb o e n1 n2 n3=>eb b o (low b o e) (u.keep b o e n1 n2 n3),λb o e n1 n2 n3=>?_,u.free,λb o e n1=>?_,u.tups,u.frzs,u.tbls⟩ (λb o e=>?_) J.bare λb hb=>⟨(f2 b hb).2.2.2.1,(f2 b hb).2.1,(f2 b hb).2.2.2.2.1,(f2 b hb).2.2.2.2.2⟩
  ·obtain⟨sl,q1⟩:=u.slot b o e n1 n2 n3
   exact⟨sl,eb b _ (low b o e) q1⟩
  ·obtain⟨o',q1⟩:=u.there b o e n1
   exact⟨o',eb b _ (low b o e) q1⟩
  ·refine(J.hok b o e).stay (λc v hc q1=>eb c v ?_ q1) (λ_ q1=>q1) λ_ _ q1=>q1
   rcases hc with rfl|z
   ·exact qF e nC
   ·exact qF z nC
 have IY:Inv (uR X N scope (s2.heap.objs.size+1) fp s2 H2 (notedBy (model X.prog X.w) X.A (compEnvC scope (clOf X.env scope.names []) (s2.heap.objs.size+1) X.env) λe s'=>compPost (model X.prog X.w) X.A X.xe use QQ (.ref s2.heap.objs.size) (s2.heap.objs.size+1) (.error e) s')) [] (pick ix σ++List.replicate (N.length-ix.length) none) (upd H2 s2.heap.objs.size (.lst [])) { s2 with heap:=h₁,toks:=s2.toks+([]:List (Str×Value)).length }:=
  qB9 I2 f2 fob hk hc hfr hcap hN hns₁ old hacc
 generalize hY:uR X N scope (s2.heap.objs.size+1) fp s2 H2 (notedBy (model X.prog X.w) X.A (compEnvC scope (clOf X.env scope.names []) (s2.heap.objs.size+1) X.env) λe s'=>compPost (model X.prog X.w) X.A X.xe use QQ (.ref s2.heap.objs.size) (s2.heap.objs.size+1) (.error e) s')=Y at IY fin
 have hgY:PG Y tg g:=hY▸hg _ _ _ _ _
 have hifY:PIf Y ifs tc:=hY▸hif _ _ _ _ _
 have heY:PE Y elt te:=hY▸he _ _ _ _ _
 have hP:Y.prog=X.prog:=by rw[←hY]
 have hw:Y.w=X.w:=by rw[←hY]
 have hK:Y.K=X.K:=by rw[←hY]
 have hcl:Y.calm=true:=by rw[←hY];exact hcalm
 have stat:∀{H':Hp},(∀b∈fp,H' b=none)→∀b∈fp,FpOk Y [] H' b:=fun {H'} hn b hb=>by
  rw[←hY]
  refine⟨hn b hb,?_,λz=>?_,.inl hb,λx c e=>?_,λp hp=>absurd (show p∈([]:List (Addr×Obj))from hp) (by simp)⟩
  ·obtain⟨o,e⟩:=fob b hb
   exact mW (g7 (kX e))
  ·rcases kL.mp (I2.stkSub b z)with z|z
   ·exact(f2 b hb).2.1 z
   ·exact(f2 b hb).2.2.1 z
  ·exact(f2 b hb).2.2.2.2.1 x c (q3S _ _ (by intro q;simp at q) e)
 have loop:codeAny (model X.prog X.w) X.A (.compLoop (.ListComp elt [⟨tg,iter,ifs,0⟩] scope pos) 0 (.ref it) (.ref s2.heap.objs.size) (compEnvC scope (clOf X.env scope.names []) (s2.heap.objs.size+1) X.env))
  (compPost (model X.prog X.w) X.A X.xe use QQ (.ref s2.heap.objs.size) (s2.heap.objs.size+1)) { s2 with heap:=h₁,toks:=s2.toks+([]:List (Str×Value)).length }:=by
  refine qBA (λn s'=>∃i H',Inv Y [] (pick ix σ++List.replicate (N.length-ix.length) none) H' s'∧tn i s'.heap∧(∀b∈fp,H' b=none)∧W i n H') ?_ m0
   ⟨0,_,IY,T.keep _ _ _ st2 (λb hb o e=>old b o e),λb hb=>by obtain⟨o,e⟩:=fob b hb;rw[qC (mW (kX e))];exact(f2 b hb).1,w0⟩
  rintro n s3 ⟨i,H3,I3,st3,fr3,w3⟩
  rcases turn i n H3 w3 with⟨stop,qn⟩|⟨go,NN,hNN,step⟩
  ·have d:=T.done Y hP hw hK hcl i [] s3 _ H3 Y.xe I3 (stat fr3) st3 stop
   subst hY
   refine thn d λr s4 hZ=>?_
   obtain⟨hr,I4⟩:=hZ
   subst hr
   exact fin I4 qn
  ·have d:=T.item Y hP hw hK hcl i [] s3 _ H3 Y.xe I3 (stat fr3) st3 go
   have again:∀{p5:List (Addr×Obj)} {s5 s8:Shared} {σ6:St} {H8:Hp},p5=q4D fp s5.heap→tn (i+1) s5.heap→σ6.length=(pick ix σ++List.replicate (N.length-ix.length) none).length→(∀j,j<ix.length→σ6[j]?=(pick ix σ++List.replicate (N.length-ix.length) none)[j]?)→Inv Y ([]++p5) σ6 H8 s8→NN H8→
    ∃m',m'<n∧∃i H',Inv Y [] (pick ix σ++List.replicate (N.length-ix.length) none) H' s8∧tn i s8.heap∧(∀b∈fp,H' b=none)∧W i m' H':=fun {p5 s5 s8 σ6 H8} e5 st5 l6 k6 I8 q8=>by
    subst e5
    obtain⟨m',hm,w8⟩:=hNN _ q8
    refine⟨m',hm,i+1,H8,I8.unpinned.weak l6.symm (λj v e=>?_),T.keep _ _ _ st5 λb hb o e=>(I8.pin (b,o) (mJ _ (mJ _ (yY hb e)))).1,λb hb=>?_,w8⟩
    ·by_cases hj:j<ix.length
     ·rw[k6 j hj];exact e
     ·rw[rK (by simpa[pick]using hj),dW]at e
      split at e<;>cases e
    ·obtain⟨o,e,_⟩:=T.obj _ _ st5 b hb
     exact(I8.pin (b,o) (mJ _ (mJ _ (yY hb e)))).2.1
   have tail:∀(r:Option Value) (s4:Shared),(∃u,r=some u∧wpAny (model Y.prog Y.w) Y.A (letOwnedTupleGo tg (.ref it) u) (λ_ s2=>∃x H',Inv Y [] (pick ix σ++List.replicate (N.length-ix.length) none) H' s2∧RelV x u∧J.yld i H3 x H'∧tn (i+1) s2.heap∧∀b∈fp,H' b=none) Y.xe s4)→
    (match r with
    |none=>compPost (model X.prog X.w) X.A X.xe use QQ (.ref s2.heap.objs.size) (s2.heap.objs.size+1) (.ok .next) s4
    |some v=>wpAny (model Y.prog Y.w) Y.A (letOwnedTupleGo tg (.ref it) v) (λ_ s₁=>wpAny (model Y.prog Y.w) Y.A (assign tg Y.env v) (λ_ s₂=>
     wpAny (model Y.prog Y.w) Y.A (forIn ifs true λc r=>if r=true then do let ok←isTrue c Y.env (eval c Y.env);pure (ForInStep.yield ok)else pure (ForInStep.yield r)) (λok s₃=>
      if ok=true then wpAny (model Y.prog Y.w) Y.A (eval elt Y.env) (λx s₄=>
       wpAny (model Y.prog Y.w) Y.A (call (.builtin "list.append") [.ref s2.heap.objs.size,x]) (λ_ s₅=>∃m,m<n∧∃i H',Inv Y [] (pick ix σ++List.replicate (N.length-ix.length) none) H' s₅∧tn i s₅.heap∧(∀b∈fp,H' b=none)∧W i m H') Y.xe s₄) Y.xe s₃
      else ∃m,m<n∧∃i H',Inv Y [] (pick ix σ++List.replicate (N.length-ix.length) none) H' s₃∧tn i s₃.heap∧(∀b∈fp,H' b=none)∧W i m H') Y.xe s₂) Y.xe s₁) Y.xe s4):=by
    rintro r s4 ⟨u,rfl,h4⟩
    dsimp only
    refine thn h4 λ_ s5 hZ=>?_
    obtain⟨x,H5,I5,r5,y5,st5,fr5⟩:=hZ
    have I5':=I5.pinned (stat fr5) (T.obj _ _ st5)
    refine thn (hgY _ s5 _ H5 x u _ I5' r5 (hown _ _ _ _ (step x H5 y5))) λ_ s6 hZ=>?_
    obtain⟨σ6,H6,I6,q6,l6,k6⟩:=hZ
    refine thn (hifY _ s6 σ6 H6 _ I6 q6) λb s7 hZ=>?_
    obtain⟨H7,I7,q7⟩:=hZ
    cases b with
    |false=>
     rw[kB (by decide)]at q7 ⊢
     exact again rfl st5 l6 k6 I7 q7
    |true=>
     rw[kF rfl]at q7 ⊢
     refine thn (heY _ s7 σ6 H7 _ I7 q7) λy s8 hZ=>?_
     obtain⟨v,H8,I8,r8,vs,e8,hz,q8⟩:=hZ
     refine thn (vV (X:=Y) _ s8 σ6 H8 (.ref s2.heap.objs.size) [v] (.ref s2.heap.objs.size) [y] (λ_ H9=>NN H9) I8 rfl (.cons r8 .nil) ⟨s2.heap.objs.size,vs,v,rfl,rfl,e8,hz,q8⟩) λ_ s9 hZ=>?_
     obtain⟨_,H9,I9,_,q9⟩:=hZ
     exact again rfl st5 l6 k6 I9 q9
   subst hY
   exact thn d tail
 exact codeAny_compStart_list loop (T.self X.A 0 _ _ _ (T.keep _ _ _ st2 λb hb o e=>old b o e) loop)
theorem q0B{X:Cx}{elt iter tg:Expr}{ifs:List Expr}{scope:Scope}{pos py spos:Pos}{wi:TI}{g:TG}{tc:TT}{te:TE}{i:Nat}{y:Str}(N:List Str)(ix:List Nat)(hcalm:X.calm=true)(hi:PI X tg iter wi)
 (hg:∀C fp s H xe,PG (uR X N scope C fp s H xe) tg g) (hif:∀C fp s H xe,PIf (uR X N scope C fp s H xe) ifs tc) (he:∀C fp s H xe,PE (uR X N scope C fp s H xe) elt te)
 (ok:qBB X.N X.env.kindOf scope N ix=true) (hown:Own g ix.length) (hN:X.N.Nodup) (hy:X.N[i]?=some y) (hl:Loc X.env.scope y)
 (hsw:swapsWith (.ListComp elt [⟨tg,iter,ifs,0⟩] scope pos) (some (.Name y py)) spos.line X.env=pure true:=by rfl) (hf:X.fn y=true∨X.env.scope.names.lookup y=some .local:=by first|exact .inl rfl|exact .inr rfl|assumption)
 (hs:∀x,foldedSetIterable iter X.env x=pure x:=by intro _;rfl):
 PS X (.Assign [.Name y py] (.ListComp elt [⟨tg,iter,ifs,0⟩] scope pos) spos) (tAsg (tLC wi g tc te ix (N.length-ix.length)) (q2U i)):=by
 unfold qBB at ok
 rw[mO,mO,mO,dP]at ok
 obtain⟨⟨⟨h1,h2⟩,h3⟩,h4⟩:=ok
 have h2':∀y∈scope.names,y.2≠ .cell∧(y.2≠ .free∨X.env.kindOf y.1=some .cell)∧(y.2≠ .local∨scope.names.lookup y.1=some .local):=λy hy=>by
  have q:=h2 y hy
  rw[mO,mO,wN,wN,kU,kU,kU,kU,kU]at q
  exact⟨q.1.1,q.1.2,q.2⟩
 intro pins s σ H D I h
 rw[exec_Assign_Name_used _ _ _ _ hsw]
 refine kD (p8 (kD ?_))
 show wpAny _ X.A (do let _←comprehension (.ListComp elt [⟨tg,iter,ifs,0⟩] scope pos) scope X.env _ (newList []) false (eval iter X.env) (some (assign (.Name y py) X.env))) _ _ s
 refine kD (dC (qG0 (use:=some (assign (.Name y py) X.env)) (QQ:=λ_ s'=>∃σ' H',Inv X pins σ' H' s'∧D.nx σ' H') N ix hcalm hi hg hif he (mL h1) (λy hy=>(h2' y hy).1) (λy hy e=>(h2' y hy).2.1.resolve_left (λz=>z e)) h3 (mL h4) (λy hy e=>(h2' y hy).2.2.resolve_left (λz=>z e)) hown I h
  (λC Dl H' s' m hm fp inv q=>?_) hs) (λ_ s' hq=>kZ (kZ hq)) λ_ _ e=>e)
 have I':Inv X pins σ H' s':=inv s'.heap (Heap.SameBut.refl _ _)
 show wpAny _ _ (assign (.Name y py) X.env (.ref Dl)) _ _ _
 refine wpAny_assign_Name (q7B (v:=.ref Dl) I' hN hy hl rfl (λs'' I'' hZ=>?_) hf)
 obtain⟨a,sb,ha⟩:=hZ
 have aC:C≠a:=λz=>by
  rcases ha with ha|ha
  ·exact fp.2.1 (z.trans ha)
  ·exact fp.2.2.2.2.1 _ _ ha z.symm
 refine⟨m,hm.sameBut sb aC,λh' sb'=>⟨_,H',I''.turnedN (t':=s''.toks) (fp:=[C]) (λb o hb e=>sb'.extBut b o (λz=>hb (kI.mpr z)) e) (λb hb=>by rw[kI.mp hb];exact fp),q⟩⟩
theorem uS{K:PySem.W.Frag}{a:Addr}{xs:List V}{D:Addr}{H2:Hp}{g:TG}{tc:TT}{te:TE}{σ0:St}{R:Hp→Prop}(Pv:Nat→Hp→Prop)(h0:Pv 0 H2)(hl:∀i H,Pv i H→SqL K H a xs)
 (hs:∀(i:Nat) x H,xs[i]?=some x→Pv i H→g x σ0 H λσ5 H5=>tc σ5 H5 λb H6=>if b=true then te σ5 H6 (λv H7=>∃vs,H7 D=some (.lst vs)∧vs.length<sizeLine∧Pv (i+1) (upd H7 D (.lst (vs++[v]))))else Pv (i+1) H6) (hd:∀H,Pv xs.length H→R H):
 ∃W:Nat→Nat→Hp→Prop,(∃m,W 0 m H2)∧∀i m H3,W i m H3→((Itl K a).stop i H3∧R H3)∨
  ((Itl K a).go i H3∧∃N:Hp→Prop,(∀H',N H'→∃m',m'<m∧W (i+1) m' H')∧∀x H4,(Itl K a).yld i H3 x H4→g x σ0 H4 λσ5 H5=>tc σ5 H5 λb H6=>
   if b=true then te σ5 H6 (λv H7=>∃vs,H7 D=some (.lst vs)∧vs.length<sizeLine∧N (upd H7 D (.lst (vs++[v]))))else N H6):=
 qBC (Q:=λ_ H=>R H) Pv h0 hl hs hd
theorem qE6{K:PySem.W.Frag}{a:Addr}{xs:List V}{k:Nat}{D:Addr}{H2:Hp}{te:TE}{σ0:St}{R:Hp→Prop}(Pv:Nat→Hp→Prop)(h0:Pv 0 H2)(hl:∀i H,Pv i H→SqL K H a xs)
 (hs:∀(i:Nat) x H,xs[i]?=some x→Pv i H→te (σ0.set k (some x)) H (λv H7=>∃vs,H7 D=some (.lst vs)∧vs.length<sizeLine∧Pv (i+1) (upd H7 D (.lst (vs++[v]))))) (hd:∀H,Pv xs.length H→R H):
 ∃W:Nat→Nat→Hp→Prop,(∃m,W 0 m H2)∧∀i m H3,W i m H3→((Itl K a).stop i H3∧R H3)∨
  ((Itl K a).go i H3∧∃N:Hp→Prop,(∀H',N H'→∃m',m'<m∧W (i+1) m' H')∧∀x H4,(Itl K a).yld i H3 x H4→q2U k x σ0 H4 λσ5 H5=>q9E σ5 H5 λb H6=>
   if b=true then te σ5 H6 (λv H7=>∃vs,H7 D=some (.lst vs)∧vs.length<sizeLine∧N (upd H7 D (.lst (vs++[v]))))else N H6):=
 qE0 (Q:=λ_ H=>R H) Pv h0 hl hs hd
end L2
namespace L2
open PySem PySem.W PyProof.Rows
noncomputable def hT{α:Type}(c:Nat→Nat→Bool)(n:Nat):KasT α→(α→Prop)→Prop
 | .ret a,Q=>Q a
 | .ask i j k,Q=>i<n∧j<n∧hT c n (k (c i j)) Q
theorem yV{α:Type}{c:Nat→Nat→Bool}{n:Nat}{Q Q':α→Prop}(h:∀a,Q a→Q' a):∀t:KasT α,hT c n t Q→hT c n t Q'
 | .ret a,q=>h a q
 | .ask i j k,q=>⟨q.1,q.2.1,yV h (k (c i j)) q.2.2⟩
theorem q2J{α β:Type}{c:Nat→Nat→Bool}{n:Nat}{f:α→KasT β}{Q:β→Prop}:∀t:KasT α,hT c n t (λa=>hT c n (f a) Q)→hT c n (t.bind f) Q
 | .ret a,q=>q
 | .ask i j k,q=>⟨q.1,q.2.1,q2J (k (c i j)) q.2.2⟩
theorem qE7{α:Type}{c:Nat→Nat→Bool}{n:Nat}{cmp:Nat→Nat→(Bool→Shared→Prop)→Shared→Prop}{G:α→Shared→Prop}{s:Shared}(hc:∀i j C,i<n→j<n→C (c i j) s→cmp i j C s):
 ∀t:KasT α,hT c n t (λa=>G a s)→t.kasWp cmp G s
 | .ret a,q=>q
 | .ask i j k,q=>hc i j _ q.1 q.2.1 (qE7 hc (k (c i j)) q.2.2)
section
variable{r:Nat→Int}{n:Nat}
noncomputable abbrev rc(r:Nat→Int):Nat→Nat→Bool:=λi j=>decide (r i<r j)
noncomputable abbrev kk(r:Nat→Int)(p:Array Nat)(i:Nat):Int:=r (p.getD i 0)
noncomputable def Srt(r:Nat→Int)(p:Array Nat)(m:Nat):Prop:=∀i j,i≤j→j<m→kk r p i≤kk r p j
noncomputable def Dec(r:Nat→Int)(p:Array Nat)(m:Nat):Prop:=∀i j,i≤j→j<m→kk r p j≤kk r p i
noncomputable def Gp(n:Nat)(p:Array Nat):Prop:=p.Perm (List.range n).toArray
theorem Gp.size{p:Array Nat}(g:Gp n p):p.size=n:=by
 have:=g.size_eq
 simpa using this
theorem Gp.lt{p:Array Nat}(g:Gp n p){i:Nat}(h:i<n):p.getD i 0<n:=by
 have hi:i<p.size:=by rw[g.size];exact h
 have e:p.getD i 0=p[i]:=by simp[Array.getD,hi]
 have:p[i]∈(List.range n).toArray:=g.mem_iff.mp (Array.getElem_mem hi)
 rw[e]
 simpa using this
theorem Srt.more{p:Array Nat}{m:Nat}(h:Srt r p m)(e:kk r p (m-1)≤kk r p m):Srt r p (m+1):=λi j hij hj=>by
 by_cases z:j<m
 ·exact h i j hij z
 ·have ej:j=m:=by omega
  subst ej
  by_cases z2:i=j
  ·subst z2;exact gL _
  ·exact pR (h i (j-1) (by omega) (by omega)) e
theorem Dec.more{p:Array Nat}{m:Nat}(h:Dec r p m)(e:kk r p m≤kk r p (m-1)):Dec r p (m+1):=λi j hij hj=>by
 by_cases z:j<m
 ·exact h i j hij z
 ·have ej:j=m:=by omega
  subst ej
  by_cases z2:i=j
  ·subst z2;exact gL _
  ·exact pR e (h i (j-1) (by omega) (by omega))
theorem q3T{p q:Array Nat}{i j:Nat}(h:p[i]?=q[j]?):p.getD i 0=q.getD j 0:=by
 rw[pS,pS,h]
theorem qAF{p:Array Nat}{i j:Nat}(hj:j≤p.size)(k:Nat):(kas_rev p i j).getD k 0=if i≤k∧k<j then p.getD (i+j-1-k) 0 else p.getD k 0:=by
 unfold kas_rev
 by_cases h:i≤k∧k<j
 ·rw[kF h]
  exact q3T (by rw[getElem?_mirror_all hj,kF h])
 ·rw[kB h]
  exact q3T (by rw[getElem?_mirror_all hj,kB h])
theorem Gp.rev{p:Array Nat}(g:Gp n p)(i j:Nat):Gp n (kas_rev p i j):=(mirror_perm _ _ _ _).trans g
theorem qAG{p:Array Nat}(g:Gp n p):∀(f m:Nat),1≤m→m+f≤n→Srt r p m→hT (rc r) n (kas_asc p f m) (λe=>m≤e∧e≤m+f∧Srt r p e∧(e<m+f→kk r p e<kk r p (e-1)))
 |0,m,h1,hz,h=>⟨kN _,kN _,h,λz=>absurd z (rD _)⟩
 |f+1,m,h1,hz,h=>by
  refine⟨g.lt (by omega),g.lt (by omega),?_⟩
  by_cases e:r (p.getD m 0)<r (p.getD (m-1) 0)
  ·rw[show rc r (p.getD m 0) (p.getD (m-1) 0)=true from hC e];dsimp only;rw[kF rfl]
   exact⟨kN _,by omega,h,λ_=>e⟩
  ·rw[show rc r (p.getD m 0) (p.getD (m-1) 0)=false from hG e];dsimp only;rw[kB kQ]
   refine yV ?_ _ (qAG g f (m+1) (by omega) (by omega) (h.more (by show r _≤r _;omega)))
   rintro a ⟨a1,a2,a3,a4⟩
   exact⟨by omega,by omega,a3,λz=>a4 (by omega)⟩
noncomputable def Eql(r:Nat→Int)(p:Array Nat)(a b:Nat):Prop:=∀k,a≤k→k<b→kk r p k=kk r p (b-1)
theorem q85{p:Array Nat}{i j:Nat}(hj:j≤p.size)(h:Eql r p i j)(k:Nat):kk r (kas_rev p i j) k=kk r p k:=by
 show r _=r _
 rw[qAF hj]
 by_cases z:i≤k∧k<j
 ·rw[kF z]
  exact(h _ (by omega) (by omega)).trans (h k z.1 z.2).symm
 ·rw[kB z]
theorem q5N:∀(f:Nat) (p:Array Nat) (m q:Nat),Gp n p→q+1≤m→m+f≤n→Dec r p m→Eql r p (m-(q+1)) m→
 hT (rc r) n (kas_desc f p m q) (λz=>Gp n z.1∧m≤z.2.1∧z.2.1≤m+f∧Dec r z.1 z.2.1∧z.2.2+1≤z.2.1∧Eql r z.1 (z.2.1-(z.2.2+1)) z.2.1)
 |0,p,m,q,g,hq,hz,d,e=>⟨g,kN _,kN _,d,hq,e⟩
 |f+1,p,m,q,g,hq,hz,d,e=>by
  have hs:=g.size
  refine⟨g.lt (by omega),g.lt (by omega),?_⟩
  by_cases c:r (p.getD m 0)<r (p.getD (m-1) 0)
  ·rw[show rc r (p.getD m 0) (p.getD (m-1) 0)=true from hC c];dsimp only;rw[kF rfl]
   by_cases q0:q>0
   ·rw[kF q0]
    have kq:=q85 (r:=r) (p:=p) (i:=m-(q+1)) (j:=m) (by omega) e
    have d1:Dec r (kas_rev p (m-(q+1)) m) (m+1):=λi j hij hj=>by
     rw[kq,kq]
     exact d.more (pT c) i j hij hj
    refine yV ?_ _ (q5N f _ (m+1) 0 (g.rev _ _) (by omega) (by omega) d1 λk h1 h2=>by rw[show k=m by omega];rfl)
    rintro a ⟨a1,a2,a3,a4⟩
    exact⟨a1,by omega,by omega,a4⟩
   ·rw[kB q0]
    refine yV ?_ _ (q5N f p (m+1) 0 g (by omega) (by omega) (d.more (pT c)) λk h1 h2=>by rw[show k=m by omega];rfl)
    rintro a ⟨a1,a2,a3,a4⟩
    exact⟨a1,by omega,by omega,a4⟩
  ·rw[show rc r (p.getD m 0) (p.getD (m-1) 0)=false from hG c];dsimp only;rw[kB kQ]
   refine⟨g.lt (by omega),g.lt (by omega),?_⟩
   by_cases c2:r (p.getD (m-1) 0)<r (p.getD m 0)
   ·rw[show rc r (p.getD (m-1) 0) (p.getD m 0)=true from hC c2];dsimp only;rw[kF rfl]
    exact⟨g,kN _,sI _ _,d,hq,e⟩
   ·rw[show rc r (p.getD (m-1) 0) (p.getD m 0)=false from hG c2];dsimp only;rw[kB kQ]
    have ee:r (p.getD m 0)=r (p.getD (m-1) 0):=by omega
    refine yV ?_ _ (q5N f p (m+1) (q+1) g (by omega) (by omega) (d.more (Int.le_of_eq ee)) λk h1 h2=>?_)
    ·rintro a ⟨a1,a2,a3,a4⟩
     exact⟨a1,by omega,by omega,a4⟩
    ·show r (p.getD k 0)=r (p.getD m 0)
     by_cases z:k=m
     ·rw[z]
     ·rw[ee]
      exact e k (by omega) (by omega)
theorem qBE{p:Array Nat}{m:Nat}(g:Gp n p)(h1:1≤m)(hm:m≤n)(d:Dec r p m):hT (rc r) n (kas_tail3 m n p) (λz=>Gp n z.2∧1≤z.1∧z.1≤n∧Srt r z.2 z.1):=by
 have hs:=g.size
 have sr:Srt r (kas_rev p 0 m) m:=λi j hij hj=>by
  show r _≤r _
  rw[qAF (by omega),qAF (by omega),kF ⟨m8 _,by omega⟩,kF ⟨m8 _,hj⟩]
  exact d _ _ (by omega) (by omega)
 refine q2J _ (yV ?_ _ (qAG (g.rev 0 m) (n-m) m h1 (by omega) sr))
 rintro a ⟨a1,a2,a3,_⟩
 exact⟨g.rev _ _,by omega,by omega,a3⟩
theorem qBF{p:Array Nat}{m:Nat}(g:Gp n p)(hm:m+1≤n)(d:Dec r p (m+1)):hT (rc r) n (kas_descPart m n p) (λz=>Gp n z.2∧1≤z.1∧z.1≤n∧Srt r z.2 z.1):=by
 refine q2J _ (yV ?_ _ (q5N (n-(m+1)) p (m+1) 0 g (by omega) (by omega) d λk h1 h2=>by rw[show k=m by omega];rfl))
 rintro⟨p',m',q'⟩ ⟨a1,a2,a3,a4,a5,a6⟩
 dsimp only at a1 a2 a3 a4 a5 a6 ⊢
 have hs:=a1.size
 by_cases q0:q'>0
 ·rw[kF q0]
  have kq:=q85 (r:=r) (p:=p') (i:=m'-(q'+1)) (j:=m') (by omega) a6
  exact qBE (a1.rev _ _) (by omega) (by omega) λi j hij hj=>by rw[kq,kq];exact a4 i j hij hj
 ·rw[kB q0]
  exact qBE a1 (by omega) (by omega) a4
theorem qE8{p:Array Nat}(g:Gp n p)(h1:1≤n):hT (rc r) n (kas_count n p) (λz=>Gp n z.2∧1≤z.1∧z.1≤n∧Srt r z.2 z.1):=by
 have hs:=g.size
 have s1:Srt r p 1:=λi j hij hj=>by rw[show i=j by omega];exact gL _
 refine q2J _ (yV ?_ _ (qAG g (n-1) 1 (kN _) (by omega) s1))
 rintro m ⟨a1,a2,a3,a4⟩
 try dsimp only
 by_cases e:m=n
 ·rw[kF (by rw[r6];exact e)]
  exact⟨g,a1,by omega,a3⟩
 ·rw[kB (by rw[r6];exact e)]
  have lt:=a4 (by omega)
  by_cases m1:m>1
  ·rw[kF m1]
   refine⟨g.lt (by omega),g.lt (by omega),?_⟩
   by_cases c:r (p.getD 0 0)<r (p.getD (m-1) 0)
   ·rw[show rc r (p.getD 0 0) (p.getD (m-1) 0)=true from hC c];dsimp only;rw[kF rfl]
    exact⟨g,a1,by omega,a3⟩
   ·rw[show rc r (p.getD 0 0) (p.getD (m-1) 0)=false from hG c];dsimp only;rw[kB kQ]
    have eq:Eql r p 0 m:=λk _ hk=>by
     have z1:=a3 0 k (m8 _) hk
     have z2:=a3 k (m-1) (by omega) (by omega)
     show r _=r _
     have z1:r (p.getD 0 0)≤r (p.getD k 0):=z1
     have z2:r (p.getD k 0)≤r (p.getD (m-1) 0):=z2
     omega
    have kq:=q85 (r:=r) (p:=p) (i:=0) (j:=m) (by omega) eq
    refine qBF (g.rev _ _) (by omega) λi j hij hj=>?_
    rw[kq,kq]
    refine Dec.more (m:=m) (λi j hij hj=>?_) (pT lt) i j hij hj
    rw[eq i (m8 _) (by omega),eq j (m8 _) hj]
    exact gL _
  ·rw[kB m1]
   have:m=1:=by omega
   subst this
   refine qBF g (by omega) (Dec.more (λi j hij hj=>?_) (pT lt))
   rw[show i=j by omega]
   exact gL _
theorem q66{p:Array Nat}(g:Gp n p){k:Nat}(hk:k<n)(sr:Srt r p k):∀(f l u:Nat),u-l≤f→l≤u→u≤k→(∀i,i<l→kk r p i≤kk r p k)→(∀i,u≤i→i<k→kk r p k<kk r p i)→
 hT (rc r) n (kas_place p k f l u) (λm=>m≤k∧(∀i,i<m→kk r p i≤kk r p k)∧∀i,m≤i→i<k→kk r p k<kk r p i)
 |0,l,u,hf,hl,hu,a,b=>⟨by omega,a,λi h1 h2=>b i (by omega) h2⟩
 |f+1,l,u,hf,hl,hu,a,b=>by
  unfold kas_place
  by_cases e:l≥u
  ·rw[kF e]
   exact⟨by omega,a,λi h1 h2=>b i (by omega) h2⟩
  ·rw[kB e]
   refine⟨g.lt hk,g.lt (by omega),?_⟩
   by_cases c:r (p.getD k 0)<r (p.getD ((l+u) / 2) 0)
   ·rw[show rc r (p.getD k 0) (p.getD ((l+u) / 2) 0)=true from hC c];dsimp only;rw[kF rfl]
    refine q66 g hk sr f l ((l+u) / 2) (by omega) (by omega) (by omega) a λi h1 h2=>?_
    exact Int.lt_of_lt_of_le c (sr _ _ h1 h2)
   ·rw[show rc r (p.getD k 0) (p.getD ((l+u) / 2) 0)=false from hG c];dsimp only;rw[kB kQ]
    refine q66 g hk sr f ((l+u) / 2+1) u (by omega) (by omega) hu (λi h1=>?_) b
    exact pR (sr i ((l+u) / 2) (by omega) (by omega)) (by show r _≤r _;omega)
theorem qIY{p:Array Nat}{k l:Nat}(hk:k<p.size)(hl:l≤k)(i:Nat):(bubble p k (k-l)).getD i 0=if i=l then p.getD k 0 else if l<i∧i≤k then p.getD (i-1) 0 else p.getD i 0:=by
 have e:=getElem?_bubble hk (k-l) (by omega) i
 rw[show k-(k-l)=l by omega]at e
 by_cases h1:i=l
 ·rw[kF h1]at e ⊢
  exact q3T e
 ·rw[kB h1]at e ⊢
  by_cases h2:l<i∧i≤k
  ·rw[kF h2]at e ⊢
   exact q3T e
  ·rw[kB h2]at e ⊢
   exact q3T e
theorem qE9:∀(f:Nat) (p:Array Nat) (k:Nat),Gp n p→k+f≤n→Srt r p k→hT (rc r) n (kas_bin f p k) (λq=>Gp n q∧Srt r q (k+f))
 |0,p,k,g,hz,sr=>⟨g,sr⟩
 |f+1,p,k,g,hz,sr=>by
  have hs:=g.size
  refine q2J _ (yV ?_ _ (q66 g (show k<n by omega) sr k 0 k (by omega) (m8 _) (kN _) (λi h=>absurd h (pH _)) λi h1 h2=>absurd h2 (by omega)))
  rintro l ⟨a1,a2,a3⟩
  have at':=qIY (p:=p) (k:=k) (l:=l) (by omega) a1
  refine yV ?_ _ (qE9 f _ (k+1) ((bubble_perm _ _ _).trans g) (by omega) λi j hij hj=>?_)
  ·rintro q ⟨b1,b2⟩
   exact⟨b1,by rw[show k+(f+1)=k+1+f by omega];exact b2⟩
  ·show r _≤r _
   rw[at',at']
   by_cases i1:i=l
   ·rw[kF i1]
    by_cases j1:j=l
    ·rw[kF j1];exact gL _
    ·rw[kB j1,kF ⟨by omega,by omega⟩]
     exact pT (a3 (j-1) (by omega) (by omega))
   ·rw[kB i1]
    by_cases i2:l<i∧i≤k
    ·rw[kF i2,kB (by omega),kF ⟨by omega,by omega⟩]
     exact sr _ _ (by omega) (by omega)
    ·rw[kB i2]
     by_cases j1:j=l
     ·rw[kF j1]
      exact a2 i (by omega)
     ·rw[kB j1]
      by_cases j2:l<j∧j≤k
      ·rw[kF j2]
       exact sr _ _ (by omega) (by omega)
      ·rw[kB j2]
       exact sr _ _ hij (by omega)
theorem qBG(h1:1≤n):hT (rc r) n (kas_sort n) (λp=>Gp n p∧Srt r p n):=by
 refine q2J _ (yV ?_ _ (qE8 (p:=(List.range n).toArray) (Array.Perm.refl _) h1))
 rintro⟨m,p⟩ ⟨a1,a2,a3,a4⟩
 dsimp only at a1 a2 a3 a4 ⊢
 by_cases e:m<n
 ·rw[kF e]
  refine yV ?_ _ (qE9 (n-max m 1) p (max m 1) a1 (by omega) (by rw[Nat.max_eq_left a2];exact a4))
  rintro q ⟨b1,b2⟩
  exact⟨b1,by rw[show max m 1+(n-max m 1)=n by omega]at b2;exact b2⟩
 ·rw[kB e]
  have:m=n:=by omega
  subst this
  exact⟨a1,a4⟩
end
end L2
namespace L2
open PySem PySem.W PySem.Spec PyProof.Rows
section
variable{prog:Program}{w:World}{A:Around}{E:Value→Shared→Prop}{s:Shared}
noncomputable abbrev q67(vs:List Value)(p:Array Nat):Array Value:=List.toArray (p.toList.map λi=>vs.getD i Value.none)
structure RkAt(prog:Program)(w:World)(A:Around)(vs:List Value)(κ:SortKind)(r:Nat→Int)(s:Shared):Prop where
 kind:∀(Q:SortKind→Shared→Prop) (E:Value→Shared→Prop),Q κ s→wpAny (model prog w) A (keyKind' vs.toArray) Q E s
 lt:∀i j (C:Bool→Shared→Prop),i<vs.length→j<vs.length→C (decide (r i<r j)) s→wpAny (model prog w) A (keyLt' κ (vs.getD i Value.none) (vs.getD j Value.none)) C (λ_ _=>False) s
theorem qAH{a:Addr}{vs:List Value}{n:Nat}{κ:SortKind}{r:Nat→Int}{P:PySem.Fin→Shared→Prop}(ho:s.heap.get? a=some (seqObj "list" vs.toArray n))(h64:vs.length<64)
 (hr:2≤vs.length→∀h',(∀b o,b≠a→s.heap.get? b=some o→h'.get? b=some o)→RkAt prog w A vs κ r { s with heap:=h' })
 (h:∀p:Array Nat,Gp vs.length p→Srt r p vs.length→P (.done (.ret .none)) { s with heap:=sortedHeap s.heap a vs (q67 vs p) }):wpAny (model prog w) A (Builtin.«list.sort» ⟨[.ref a],[]⟩) P E s:=by
 have ha:a<s.heap.objs.size:=kX ho
 have hsz:vs.toArray.size=vs.length:=mF ..
 obtain⟨e1,g1⟩:∃e1,(s.heap.update a (Obj.mapSeq λ_=>(#[]:Array Value))).get? a=some (seqObj "list" #[] e1):=⟨_,get?_update_seq ho λ_=>#[]⟩
 have g6:=kE (seqObj "list" #[] 0) (kE (seqObj "tuple" vs.toArray 0) g1)
 rw[list_sort_plain]
 refine kD (listItems_at ho rfl (kD (wO ho rfl (kD (seqEpoch_at g1 rfl ?_)) (by rw[hsz,gI];omega) (m8 _))))
 refine kD (wpAny_newTuple (kD (pB (dB ?_) (m8 _))) (by show vs.length≤_;rw[gI];omega))
 show wpAny (model prog w) A _ P E { s with heap:=((s.heap.update a (Obj.mapSeq λ_=>(#[]:Array Value))).push (seqObj "tuple" vs.toArray 0)).push (seqObj "list" #[] 0) }
 dsimp only
 by_cases h2:vs.toArray.size<2
 ·rw[kF h2,kF h2]
  refine kD (kZ ?_)
  rw[StateT.run_pure]
  refine kD (kZ ?_)
  dsimp only
  have fin:=h (List.range vs.length).toArray (Array.Perm.refl _) λi j hij hj=>by rw[show i=j by omega];exact gL _
  have eo:(pairsOf vs).map (·.2)=q67 vs (List.range vs.length).toArray:=by
   have em:(pairsOf vs)=(List.toArray (List.range vs.length)).map (kas_item (pairsOf vs)):=by
    have e:=kas_range (pairsOf vs)
    rw[pairsOf_size]at e
    exact e.symm
   apply sJ.mp
   rw[em,Array.map_map,sL]
   exact dG λi _=>by show(kas_item (pairsOf vs) i).2=_;rw[kas_item_eq]
  refine kD (seqEpoch_at g6 rfl ?_)
  refine kD (wO g6 rfl ?_ (m8 _) (by rw[Array.size_map];show(pairsOf vs).size≤_;rw[pairsOf_size,gI];omega))
  simp only[pZ,pV,if_false]
  refine kZ ?_
  rw[←eo]at fin
  exact fin
 ·rw[kB h2,kB h2]
  have h2':2≤vs.length:=by omega
  have K:=hr h2' (((s.heap.update a (Obj.mapSeq λ_=>(#[]:Array Value))).push (seqObj "tuple" vs.toArray 0)).push (seqObj "list" #[] 0)) λb o nb e=>kE _ (kE _ ((mZ _ _ (wH nb)).trans e))
  refine kD (K.kind _ _ ?_)
  have est:SortSt.mk' κ (vs.toArray.zip vs.toArray) #[] 7 none=kas_st κ (pairsOf vs) (List.toArray (List.range vs.length)):=by
   have e:=kas_range (pairsOf vs)
   rw[pairsOf_size]at e
   unfold kas_st
   rw[e]
   rfl
  have tree:(kas_sort vs.length).kasWp (kas_cmp prog w A κ (pairsOf vs)) (λp s'=>s'= { s with heap:=((s.heap.update a (Obj.mapSeq λ_=>(#[]:Array Value))).push (seqObj "tuple" vs.toArray 0)).push (seqObj "list" #[] 0) }∧Gp vs.length p∧Srt r p vs.length) { s with heap:=((s.heap.update a (Obj.mapSeq λ_=>(#[]:Array Value))).push (seqObj "tuple" vs.toArray 0)).push (seqObj "list" #[] 0) }:=by
   rw[←kas_ask_eq]
   exact qE7 (c:=rc r) (n:=vs.length) (λi j C hi hj c=>K.lt i j C hi hj c) _ (yV (λp q=>⟨rfl,q⟩) _ (qBG (by omega)))
  have run:=kas_runs (E:=E) (Q:=λ_ st' s'=>∃p:Array Nat,arrOf st'=p.map (kas_item (pairsOf vs))∧failedOf st'=none∧s'= { s with heap:=((s.heap.update a (Obj.mapSeq λ_=>(#[]:Array Value))).push (seqObj "tuple" vs.toArray 0)).push (seqObj "list" #[] 0) }∧Gp vs.length p∧Srt r p vs.length) h2' h64 (λp' st' s' _ a2 a3 a4=>⟨p',a2,a3,a4⟩) tree
  rw[←est]at run
  refine kD (dC run ?_ λ_ _ e=>e)
  rintro⟨⟨⟩,st'⟩ s' ⟨p,har,hf,rfl,gp,sr⟩
  dsimp only
  have hout:(arrOf st').map (·.2)=q67 vs p:=by
   apply sJ.mp
   rw[har,Array.map_map,sL]
   exact dG λi _=>by show(kas_item (pairsOf vs) i).2=_;rw[kas_item_eq]
  have hol:(q67 vs p).size=vs.length:=by rw[mF,hI,gA,gp.size]
  rw[hout]
  refine kD (seqEpoch_at g6 rfl ?_)
  refine kD (wO g6 rfl ?_ (m8 _) (mI (cN hol) (by rw[gI];omega)))
  rw[hf]
  simp only[pZ,pV,if_false]
  exact kZ (h p gp sr)
theorem q86{l:Addr}{vs:List Value}{κ:SortKind}{r:Nat→Int}{Q:Value→Shared→Prop}(hl:s.heap.IsList l vs.toArray)(h64:vs.length<64)
 (hr:2≤vs.length→∀h',(∀b o,s.heap.get? b=some o→h'.get? b=some o)→RkAt prog w A.in1.in1 vs κ r { s with heap:=h' })
 (h:∀p:Array Nat,Gp vs.length p→Srt r p vs.length→Q (.ref (s.heap.objs.size+1)) { s with heap:=sortedAll s.heap vs (q67 vs p) }):
 wpAny (model prog w) A (call (.builtin "sorted") [.ref l]) Q E s:=by
 refine Calls.call_function_entry kind_sorted plain_sorted entry_sorted (args_sorted1 _) ?_
 unfold Builtin.«sorted»
 refine kD (m:=checkCount "sorted" 1 1 _) (kZ (kD (collect_list hl (kD (pB ?_ (by rw[gI];show vs.length≤_;omega))))))
 have hsz:((s.heap.push (seqObj "list" #[] 0)).update s.heap.objs.size (Obj.mapSeq (· ++vs.toArray))).objs.size=s.heap.objs.size+1:=by
  rw[Heap.size_update,size_push']
 have g:(((s.heap.push (seqObj "list" #[] 0)).update s.heap.objs.size (Obj.mapSeq (· ++vs.toArray))).push (seqObj "list" vs.toArray 0)).get? (s.heap.objs.size+1)=some (seqObj "list" vs.toArray 0):=by
  rw[←hsz];exact mK _ rfl
 show wpAny _ _ _ _ _ { s with heap:=((s.heap.push (seqObj "list" #[] 0)).update s.heap.objs.size (Obj.mapSeq (· ++vs.toArray))).push (seqObj "list" vs.toArray 0) }
 rw[hsz]
 refine kD (dB (wZ slot_list_sort ⟨_,g,rfl⟩ entry_list_sort (qAH (κ:=κ) (r:=r) g h64 (λh2 h' k=>hr h2 h' λb o e=>k b o (mW (g7 (kX e))) (kE _ ((mZ _ _ (rX (kX e))).trans (kE _ e)))) λp a1 a2=>⟨_,rfl,?_⟩) (args_list_sort _)))
 exact kZ ⟨_,rfl,h p a1 a2⟩
end
noncomputable def lx:List Int→List Int→Bool
 |a::r,b::s=>if a=b then lx r s else decide (a<b)
 | [],_::_=>true
 |_,[]=>false
theorem q68:∀a:List Int,lx a a=false
 | []=>rfl
 |a::r=>by
  show(if a=a then lx r r else decide (a<a))=false
  rw[kF rfl]
  exact q68 r
theorem q1J:∀a b c:List Int,lx a b=true→lx b c=true→lx a c=true
 | [],[],c,h,_=>by cases h
 | [],_::_,[],_,h=>by cases h
 | [],_::_,_::_,_,_=>rfl
 |_::_,[],c,h,_=>by cases h
 |_::_,_::_,[],_,h=>by cases h
 |a::r,b::s,c::t,h,g=>by
  have h:(if a=b then lx r s else decide (a<b))=true:=h
  have g:(if b=c then lx s t else decide (b<c))=true:=g
  show(if a=c then lx r t else decide (a<c))=true
  by_cases e1:a=b
  ·subst e1
   rw[kF rfl]at h
   by_cases e2:a=c
   ·subst e2
    rw[kF rfl]at g ⊢
    exact q1J r s t h g
   ·rw[kB e2]at g ⊢
    exact g
  ·rw[kB e1,kU]at h
   by_cases e2:b=c
   ·subst e2
    rw[kB e1]
    exact hC h
   ·rw[kB e2,kU]at g
    rw[kB (by omega)]
    exact hC (by omega)
theorem q69:∀a b:List Int,lx a b=false→lx b a=false→a=b
 | [],[],_,_=>rfl
 | [],_::_,h,_=>by cases h
 |_::_,[],_,h=>by cases h
 |a::r,b::s,h,g=>by
  have h:(if a=b then lx r s else decide (a<b))=false:=h
  have g:(if b=a then lx s r else decide (b<a))=false:=g
  by_cases e:a=b
  ·subst e
   rw[kF rfl]at h g
   rw[q69 r s h g]
  ·rw[kB e,d3]at h
   rw[kB (λz=>e z.symm),d3]at g
   omega
theorem q9H{α:Type}{p q:α→Bool}:∀{l:List α} {x:α},(∀y∈l,p y=true→q y=true)→x∈l→q x=true→p x=false→l.countP p<l.countP q
 |a::l,x,h,hx,h1,h2=>by
  have ml:l.countP p≤l.countP q:=cV λy hy=>h y (hU _ hy)
  rw[c6,c6]
  rcases kL.mp hx with e|hx
  ·subst e
   rw[h1,h2,kB kQ,kF rfl]
   omega
  ·have ih:=q9H (λy hy=>h y (hU _ hy)) hx h1 h2
   have ha:=h a (kW ..)
   cases pa:p a with
   |false=>
    rw[kB kQ]
    omega
   |true=>
    rw[ha pa]
    omega
noncomputable def rkOf(ks:List (List Int))(k:List Int):Int:=((ks.countP λy=>lx y k:Nat):Int)
theorem qAI{ks:List (List Int)}{k k':List Int}(h:k∈ks)(h':k'∈ks):rkOf ks k<rkOf ks k'↔lx k k'=true:=by
 constructor
 ·intro lt
  cases e:lx k k' with
  |true=>rfl
  |false=>
   have:ks.countP (λy=>lx y k')≤ks.countP (λy=>lx y k):=cV λy _ hy=>by
    cases g:lx k' k with
    |true=>exact q1J _ _ _ hy g
    |false=>rw[q69 k k' e g];exact hy
   unfold rkOf at lt
   omega
 ·intro e
  have:=q9H (p:=λy=>lx y k) (q:=λy=>lx y k') (l:=ks) (x:=k) (λy _ hy=>q1J _ _ _ hy e) h e (q68 k)
  unfold rkOf
  omega
section
variable{prog:Program}{w:World}{A:Around}{E:Value→Shared→Prop}{s:Shared}
theorem qG1{b:Bool}{x y:Int}{t u:Tok}{Q:Bool→Shared→Prop}(h:Q (decide (x<y)) s):wpAny (model prog w) A (oneLt' b (.int x t) (.int y u)) Q E s:=by
 cases b with
 |true=>
  have z:=kat_lt_int (prog:=prog) (w:=w) (A:=A) (E:=E) (t:=t) (u:=u) h
  rw[keyLt'_oneType]at z
  exact z
 |false=>
  refine kat_one _ _ ?_
  exact lt_int h
theorem q9I{b:Bool}{Q:Bool→Shared→Prop}:∀{ns ms:List Int} {us vs:List Value} (i:Nat),IntsAre us ns→IntsAre vs ms→ns.length=ms.length→Q (lx ns ms) s→KatLex prog w A b false Q (us.zip vs) i s
 | [],[],_,_,i,.nil,.nil,_,h=>h
 |n::ns,m::ms,_,_,i,.cons _ t hn,.cons _ u hm,hl,h=>by
  refine kat_cons (wpAny_eqBool_int ?_)
  have h:Q (if n=m then lx ns ms else decide (n<m)) s:=h
  by_cases e:n=m
  ·rw[kF e]at h
   rw[show(n==m)=true by rw[r6];exact e]
   exact kat_yes (q9I (i+1) hn hm (by simpa using hl) h)
  ·rw[kB e]at h
   rw[show(n==m)=false by rw[d6];exact e]
   exact kat_no (qG1 h)
 | [],_::_,_,_,_,_,_,hl,_=>by simp at hl
 |_::_,[],_,_,_,_,_,hl,_=>by simp at hl
noncomputable def IsTI(h:Heap)(v:Value)(k:List Int):Prop:=∃a us,v=.ref a∧h.IsTuple a us.toArray∧IntsAre us k
theorem IsTI.at{h h':Heap}{v:Value}{k:List Int}(x:IsTI h v k)(e:∀b o,h.get? b=some o→h'.get? b=some o):IsTI h' v k:=
 let⟨a,us,e1,⟨o,e2,r⟩,i⟩:=x
 ⟨a,us,e1,⟨o,e _ _ e2,r⟩,i⟩
theorem qBH{h:Heap}:∀{vs:List Value} {ks:List (List Int)},Paired (IsTI h) vs ks→(∀k∈ks,0<k.length)→∃fs,KatTups h vs fs∧fs.length=ks.length∧∀v∈fs,∃i t,v=.int i t
 | [],[],.nil,_=>⟨[],trivial,rfl,λv hv=>by cases hv⟩
 |v::vs,k::ks,.cons x t,hp=>by
  obtain⟨fs,r,hl,hi⟩:=qBH t λk hk=>hp k (hU _ hk)
  obtain⟨a,us,rfl,⟨o,ho,hc,n,hd⟩,iu⟩:=x
  have h0:=hp k (kW ..)
  cases iu with
  |nil=>simp at h0
  |cons i t0 hr=>
   refine⟨.int i t0::fs,KatTups.cons ho hc hd (by simp) r,by simp[hl],λv hv=>?_⟩
   rcases kL.mp hv with rfl|hv
   ·exact⟨i,t0,rfl⟩
   ·exact hi v hv
theorem qBI{vs:List Value}{ks:List (List Int)}{m:Nat}(h:Paired (IsTI s.heap) vs ks)(hw:∀k∈ks,k.length=m)(hm:0<m)(h2:2≤vs.length):RkAt prog w A vs (tuples' true) (λi=>rkOf ks (ks.getD i [])) s:=by
 have hl:=h.len
 constructor
 ·intro Q E' q
  obtain⟨fs,t,e,hi⟩:=qBH h λk hk=>by rw[hw k hk];exact hm
  exact kat_kind (T:=Value.type "int") t (by omega) (λv hv=>by obtain⟨i,t0,rfl⟩:=hi v hv;exact .now) rfl q
 ·intro i j C hi hj c
  have e1:vs[i]?=some (vs.getD i Value.none):=by rw[hV hi];simp[hi]
  have e2:vs[j]?=some (vs.getD j Value.none):=by rw[hV hj];simp[hj]
  obtain⟨k1,g1,a1,us1,q1,⟨o1,ho1,_,n1,d1⟩,i1⟩:=Paired.at h e1
  obtain⟨k2,g2,a2,us2,q2,⟨o2,ho2,_,n2,d2⟩,i2⟩:=Paired.at h e2
  have m1:k1∈ks:=gK g1
  have m2:k2∈ks:=gK g2
  have z1:ks.getD i []=k1:=by rw[kJ,g1];rfl
  have z2:ks.getD j []=k2:=by rw[kJ,g2];rfl
  have ll:k1.length=k2.length:=by rw[hw _ m1,hw _ m2]
  have c:C (lx k1 k2) s:=by
   have y:decide (rkOf ks (ks.getD i [])<rkOf ks (ks.getD j []))=lx k1 k2:=by
    rw[z1,z2,rR,kU]
    exact qAI m1 m2
   rw[←y]
   exact c
  rw[q1,q2]
  refine kat_lt ho1 d1 ho2 d2 ?_
  have f:decide (us1.toArray.size<us2.toArray.size)=false:=by
   rw[mF,mF,i1.length,i2.length,ll]
   exact hG (rD _)
  rw[f]
  exact q9I 0 i1 i2 ll c
end
section
variable{X:Cx}
noncomputable def TupI(K:PySem.W.Frag)(H:Hp)(v:V)(k:List Int):Prop:=∃a,v=.ref a∧SqT K H a (k.map V.int)
theorem q87{pins:List (Addr×Obj)}{σ:St}{H:Hp}{s:Shared}(I:Inv X pins σ H s):∀{xs:List V} {us:List Value} {ks:List (List Int)},Vals xs us→Paired (TupI X.K H) xs ks→Paired (IsTI s.heap) us ks
 | [],_,_,.nil,.nil=>.nil
 |x::xs,u::us,_,.cons r t,.cons ⟨a,e,h⟩ y=>by
  subst e
  obtain rfl:u=Value.ref a:=r
  obtain⟨its,rv,p,_⟩:=I.tuple h
  exact .cons ⟨a,its,rfl,p,q5K rv⟩ (q87 I t y)
theorem q4I{xs:List V}{us:List Value}(r:Vals xs us):∀{q:List Nat},(∀i∈q,i<xs.length)→Vals (q.map λi=>xs.getD i .non) (q.map λi=>us.getD i Value.none)
 | [],_=>.nil
 |i::q,h=>by
  have hi:=h i (kW ..)
  have hl:=r.length
  refine .cons ?_ (q4I r λj hj=>h j (hU _ hj))
  obtain⟨x,e,z⟩:=r.atN (j:=i) (by omega)
  show RelV (xs.getD i .non) (us.getD i Value.none)
  rw[kJ,e,kJ,hV (by omega)]
  exact z
theorem q88:q17 X (.builtin "sorted") (λxs H Q=>∃(p:Addr) (us:List V) (ks:List (List Int)) (m:Nat),xs=[.ref p]∧SqL X.K H p us∧Paired (TupI X.K H) us ks∧(∀k∈ks,k.length=m)∧0<m∧us.length<64∧
 ∀q:List Nat,q.Perm (List.range us.length)→(q.map λi=>ks.getD i []).Pairwise (λa b=>lx b a=false)→NewO H (.lst (q.map λi=>us.getD i .non)) Q):=by
 intro pins s σ H xs us Q I r hZ
 obtain⟨p,xs',ks,m,ex,hq,hk,hw,hm,h64,q⟩:=hZ
 subst ex
 obtain⟨u,rfl,rx⟩:=q3L r
 cases rx
 obtain⟨its,rv,pl,hz⟩:=I.list hq
 have hlen:=rv.length
 have hti:=q87 I rv hk
 refine q86 (κ:=tuples' true) (r:=λi=>rkOf ks (ks.getD i [])) pl.isList (by omega) (λh2 h' k=>qBI (Paired.mapP hti λ_ _ z=>z.at k) hw hm h2) λa gp sr=>?_
 have pp:a.toList.Perm (List.range its.length):=by
  have:=Array.perm_iff_toList_perm.mp gp
  simpa using this
 obtain⟨e,he⟩:=sortedAll_at s.heap its (q67 its a)
 have hin:∀i∈a.toList,i<xs'.length:=λi hi=>by rw[hlen];exact mP.mp (pp.mem_iff.mp hi)
 have kl:=hk.len
 have pw:(a.toList.map λi=>ks.getD i []).Pairwise (λx y=>lx y x=false):=by
  rw[g9,cB]
  intro i j hi hj hij
  rw[gA,gp.size]at hi hj
  have z:rkOf ks (ks.getD (a.getD i 0) [])≤rkOf ks (ks.getD (a.getD j 0) []):=sr i j (by omega) hj
  have gi:a.getD i 0=a.toList[i]'(by rw[gA,gp.size];exact hi):=by simp[Array.getD,gp.size,hi]
  have gj:a.getD j 0=a.toList[j]'(by rw[gA,gp.size];exact hj):=by simp[Array.getD,gp.size,hj]
  rw[gi,gj]at z
  have mem:∀x,x<ks.length→ks.getD x []∈ks:=λx hx=>by rw[kJ,hV hx];exact gJ hx
  cases g:lx (ks.getD (a.toList[j]'(by rw[gA,gp.size];exact hj)) []) (ks.getD (a.toList[i]'(by rw[gA,gp.size];exact hi)) [])with
  |false=>rfl
  |true=>
   have lt:=(qAI (mem _ (by rw[←kl];exact hin _ (gJ _))) (mem _ (by rw[←kl];exact hin _ (gJ _)))).mpr g
   omega
 refine⟨.ref (s.heap.objs.size+1),_,I.laid (t':=s.toks) (λ_ _ h=>sortedAll_old h) (dU _) (show jK X.prog X.w _ _ _ (.lst _)from⟨?_,(q67 its a).toList,e,?_,he⟩),rfl,(q a.toList (by rw[hlen];exact pp) pw).at _ (I.hok.fresh (dU _))⟩
 ·rw[hI,pp.length_eq,mH,gI]
  omega
 ·exact q4I rv hin
end
section
variable{X:Cx}{pins:List (Addr×Obj)}{σ:St}{H:Hp}{s:Shared}
theorem Inv.adopt{D:Addr}{o:HO}(I:Inv X pins σ H s)(f:FpOk X pins H D)(hD:X.s₀.heap.objs.size≤D)(ok:jK X.prog X.w (upd H D o) s.heap D o):Inv X pins σ (upd H D o) s:=by
 have low:∀b ob,X.s₀.heap.get? b=some ob→b≠D:=λb ob e=>mW (mY (kX e) hD)
 have trk:∀b u,H b=some u→b≠D:=λb u e=>qF e f.1
 refine⟨I.ok,I.os,I.bare,⟨I.base.keep,I.base.slot,λb ob e n x=>?_,I.base.there,λb xs e=>?_,λb ob u e=>?_,λb ps e=>?_⟩,I.loc,I.cell,?_,λx c e=>?_,λp hp=>?_,λb u e=>?_,I.len⟩
 ·rw[qC (low b ob e)]
  exact I.base.free b ob e n x
 ·have z:=I.base.tups b xs e
  rw[qC (trk _ _ z)]
  exact z
 ·have z:=I.base.frzs b ob u e
  rw[qC (trk _ _ z)]
  exact z
 ·obtain⟨m,z⟩:=I.base.tbls b ps e
  exact⟨m,by rw[qC (trk _ _ z)];exact z⟩
 ·rw[qC (λz=>f.2.1 z.symm)]
  exact I.free
 ·rw[qC (f.2.2.2.2.1 x c e)]
  exact I.freeC x c e
 ·obtain⟨a1,a2,a3⟩:=I.pin p hp
  exact⟨a1,by rw[qC (f.2.2.2.2.2 p hp)];exact a2,a3⟩
 ·by_cases hb:b=D
  ·subst hb
   rw[qI]at e
   cases e
   exact ok
  ·rw[qC hb]at e
   exact(I.hok b u e).stay (λ_ _ _ q=>q) (λc q=>by rw[qC (trk _ _ q)];exact q) λc xs q=>by rw[qC (trk _ _ q)];exact q
theorem Inv.near(I:Inv X pins σ H s){A':Around}(h1:A'.handled=X.A.handled)(h2:A'.frames=X.A.frames)(xe:Value→Shared→Prop):Inv { X with A:=A',xe:=xe } pins σ H s:=
 ⟨{ mod:=I.ok.mod,kind:=I.ok.kind,glob:=I.ok.glob,blt:=I.ok.blt,above:=I.ok.above,inj:=I.ok.inj,has:=I.ok.has,cab:=I.ok.cab,hd:=λc=>h1.trans (I.ok.hd c),frames:=h2.trans I.ok.frames,stk:=I.ok.stk,exf:=I.ok.exf,bs:=I.ok.bs,bsz:=I.ok.bsz,noex:=I.ok.noex,exfs:=I.ok.exfs,funs:=I.ok.funs,frf:=I.ok.frf },I.os,I.bare,I.base,I.loc,I.cell,I.free,I.freeC,I.pin,I.hok,I.len⟩
theorem q9J{P:PySem.Fin→Shared→Prop}{EE:Value→Shared→Prop}{A:Around}{a kS:Addr}{st:SortSt}{e1 e:Nat}{ks:List Value}{out:List Value}{us:List V}(I:Inv X pins σ H s)(fa:FpOk X pins H a)(fk:FpOk X pins H kS)(ha:X.s₀.heap.objs.size≤a)(ne:kS≠a)
 (ga:s.heap.get? a=some (seqObj "list" #[] e1)) (gk:s.heap.get? kS=some (seqObj "list" ks.toArray e)) (hk:ks.length<64) (hout:(arrOf st).map (·.2)=out.toArray) (ho:out.length<64) (hf:failedOf st=none) (rv:Vals us out)
 (h:∀s',Inv X pins σ (upd H a (.lst us)) s'→P (.done (.ret .none)) s'):wpAny (model X.prog X.w) A (ksk_tail a false e1 (.ref kS) st) P EE s:=by
 unfold ksk_tail
 try dsimp only
 rw[hout]
 refine kD (wO gk rfl ?_ (by rw[mF,gI];omega) (m8 _))
 refine kD (wpAny_letGo ?_)
 have ga':(s.heap.update kS (Obj.mapSeq λ_=>(#[]:Array Value))).get? a=some (seqObj "list" #[] e1):=(mZ _ _ ne).trans ga
 refine kD (seqEpoch_at ga' rfl ?_)
 refine kD (wO ga' rfl ?_ (m8 _) (by rw[kB kQ,mF,gI];omega))
 rw[hf]
 simp only[pZ,pV,if_false]
 refine kZ (h _ ?_)
 obtain⟨c2,g2⟩:∃c2,((s.heap.update kS (Obj.mapSeq λ_=>(#[]:Array Value))).update a (Obj.mapSeq λ_=>out.toArray)).get? a=some (seqObj "list" out.toArray c2):=⟨_,get?_update_seq ga' λ_=>out.toArray⟩
 have I2:Inv X pins σ H { s with heap:=(s.heap.update kS (Obj.mapSeq λ_=>(#[]:Array Value))).update a (Obj.mapSeq λ_=>out.toArray),toks:=s.toks }:=
  I.turnedN (fp:=[kS,a]) (λb o hb eb=>by
   simp only[kL,rG,sD,not_or]at hb
   exact(mZ _ _ (wH hb.2)).trans ((mZ _ _ (wH hb.1)).trans eb)) (λb hb=>by
   simp only[kL,rG,sD]at hb
   rcases hb with rfl|rfl
   ·exact fk
   ·exact fa)
 exact I2.adopt fa ha (show jK X.prog X.w _ _ _ (.lst us)from⟨by rw[rv.length,gI];omega,out,c2,rv,g2⟩)
theorem qG2{P:PySem.Fin→Shared→Prop}{EE:Value→Shared→Prop}{A:Around}{a kS:Addr}{e1 e:Nat}{ks vs:List Value}{us zs:List V}{kk:List (List Int)}{m:Nat}(I:Inv X pins σ H s)(fa:FpOk X pins H a)(fk:FpOk X pins H kS)(ha:X.s₀.heap.objs.size≤a)(ne:kS≠a)
 (ga:s.heap.get? a=some (seqObj "list" #[] e1)) (gk:s.heap.get? kS=some (seqObj "list" ks.toArray e)) (rz:Vals zs ks) (rv:Vals us vs) (hl:zs.length=us.length) (h64:us.length<64) (hti:Paired (TupI X.K H) zs kk) (hw:∀k∈kk,k.length=m) (hm:0<m)
 (h:∀q:List Nat,q.Perm (List.range us.length)→(q.map λi=>kk.getD i []).Pairwise (λa b=>lx b a=false)→∀s',Inv X pins σ (upd H a (.lst (q.map λi=>us.getD i .non))) s'→P (.done (.ret .none)) s'):
 wpAny (model X.prog X.w) A (ksk_end a false vs.toArray e1 (.ref kS) ks.toArray) P EE s:=by
 have l1:=rz.length
 have l2:=rv.length
 have l3:=hti.len
 have hlk:ks.length=vs.length:=by omega
 unfold ksk_end
 try dsimp only
 rw[kB kQ]
 by_cases h2:vs.toArray.size<2
 ·rw[kF h2,kF h2]
  refine kD (kZ ?_)
  rw[StateT.run_pure]
  refine kD (kZ ?_)
  try dsimp only
  have hn2:vs.length<2:=by rw[mF]at h2;exact h2
  refine q9J (out:=vs) (us:=us) I fa fk ha ne ga gk (by omega) ?_ (by omega) rfl rv λs' I'=>?_
  ·rw[kB kQ]
   show(ks.toArray.zip vs.toArray).map (·.2)=vs.toArray
   apply sJ.mp
   rw[sL,Array.toList_zip]
   show(ks.zip vs).map Prod.snd=vs
   exact List.map_snd_zip (by omega)
  ·have e:(List.range us.length).map (λi=>us.getD i .non)=us:=by
    refine cA (by simp) λi h1 h3=>?_
    rw[c8,cJ,kJ,hV h3]
    rfl
   have z:=h (List.range us.length) (List.Perm.refl _) (by
    rw[g9,cB]
    intro i j hi hj hij
    rw[mH]at hi hj
    omega)
   rw[e]at z
   exact z s' I'
 ·rw[kB h2,kB h2]
  have h2':2≤ks.length:=by rw[mF]at h2;omega
  have K:=qBI (prog:=X.prog) (w:=X.w) (A:=A) (s:=s) (q87 I rz hti) hw hm h2'
  refine kD (K.kind _ _ ?_)
  rw[kB kQ]
  refine kD (dC (kat_run (κ:=tuples' true) (G:=λp s'=>s'=s∧Gp vs.length p∧Srt (λi=>rkOf kk (kk.getD i [])) p vs.length) (Q:=λst' s'=>∃p:Array Nat,arrOf st'=p.map (kas_item (ks.toArray.zip vs.toArray))∧failedOf st'=none∧s'=s∧Gp vs.length p∧Srt (λi=>rkOf kk (kk.getD i [])) p vs.length) hlk (by omega) (by omega) (λp' st' s' _ a2 a3 a4=>⟨p',a2,a3,a4⟩) ?_) ?_ λ_ _ x=>x)
  ·refine qE7 (c:=rc λi=>rkOf kk (kk.getD i [])) (n:=vs.length) (λi j C hi hj c=>K.lt i j C (by omega) (by omega) c) _ (yV (λp q=>⟨rfl,q⟩) _ (qBG (by omega)))
  ·rintro⟨⟨⟩,st'⟩ s' ⟨p,har,hf,rfl,gp,sr⟩
   try dsimp only
   have pp:p.toList.Perm (List.range vs.length):=by
    have:=Array.perm_iff_toList_perm.mp gp
    simpa using this
   have hin:∀i∈p.toList,i<us.length:=λi hi=>by rw[l2];exact mP.mp (pp.mem_iff.mp hi)
   have pw:(p.toList.map λi=>kk.getD i []).Pairwise (λx y=>lx y x=false):=by
    rw[g9,cB]
    intro i j hi hj hij
    rw[gA,gp.size]at hi hj
    have z:rkOf kk (kk.getD (p.getD i 0) [])≤rkOf kk (kk.getD (p.getD j 0) []):=sr i j (by omega) hj
    have gi:p.getD i 0=p.toList[i]'(by rw[gA,gp.size];exact hi):=by simp[Array.getD,gp.size,hi]
    have gj:p.getD j 0=p.toList[j]'(by rw[gA,gp.size];exact hj):=by simp[Array.getD,gp.size,hj]
    rw[gi,gj]at z
    have mem:∀x,x<kk.length→kk.getD x []∈kk:=λx hx=>by rw[kJ,hV hx];exact gJ hx
    cases g:lx (kk.getD (p.toList[j]'(by rw[gA,gp.size];exact hj)) []) (kk.getD (p.toList[i]'(by rw[gA,gp.size];exact hi)) [])with
    |false=>rfl
    |true=>
     have b1:=hin _ (gJ (show j<p.toList.length by rw[gA,gp.size];exact hj))
     have b2:=hin _ (gJ (show i<p.toList.length by rw[gA,gp.size];exact hi))
     have lt:=(qAI (mem _ (by omega)) (mem _ (by omega))).mpr g
     omega
   exact q9J (out:=p.toList.map λi=>vs.getD i Value.none) (us:=p.toList.map λi=>us.getD i .non) I fa fk ha ne ga gk (by omega) (kat_snds hlk har) (by rw[hI,pp.length_eq,mH];omega) hf (q4I rv hin) λs' I'=>h p.toList (by rw[l2];exact pp) pw s' I'
end
end L2
namespace L2
open PySem PySem.Spec PyProof.Rows
theorem qG3{X:Cx}{K:PySem.W.Frag}{es:List Expr}{k:Nat}{t:TGs}{n:Nat}{pos:Pos}(e:X.K=K)(hc:X.calm=true)(h:PGs X es t)(hn:(assignEach es X.env).length=n)(hst:(assignEach es X.env).findIdx? (·.1)=none):PG X (.Tuple es k pos) (gTup K n t):=by
 subst e
 exact q5S hc h hn hst
noncomputable def q51(v a:Addr):HO:=.ext λh=>h.IsItemsView v a
theorem qEA{P:Program}{w:World}{H:Hp}{h:Heap}{v a:Addr}(e:h.IsItemsView v a):jK P w H h v (q51 v a):=by
 obtain⟨o,e1,e2,e3⟩:=id e
 exact⟨e,⟨_,e1⟩,λ_ _ ⟨o,a1,a2⟩ k=>⟨o,k _ a1,a2⟩⟩
theorem qEB{P:Program}{w:World}{H:Hp}{h:Heap}{v a:Addr}(ok:HOk P w H h)(e:H v=some (q51 v a)):h.IsItemsView v a:=(ok v _ e).1
noncomputable def qIZ:V→List V→Hp→VK→Prop:=λx vs H Q=>∃a kvs,x=.ref a∧vs=[]∧H a=some (.dK kvs)∧∀v,H v=none→Q (.ref v) (upd H v (q51 v a))
theorem qEC{X:Cx}:MtR X "dict.items" qIZ:=by
 intro pins s σ H x vs v us Q I rx rv hZ
 obtain⟨a,kvs,ex,ev,ha,q⟩:=hZ
 subst ex ev
 cases rx
 have hus:=rv.zero
 subst hus
 obtain⟨z,lo,ws,rel,dd⟩:=q3O I.hok ha
 refine cS PySem.F.slot_dict_items dd.typeIs PySem.F.entry_dict_items (PySem.F.args_dict_items_1 _) (meets_dict_items (jN X.prog X.w) a lo) ⟨⟨ws,dd⟩,?_⟩
 exact⟨.ref s.heap.objs.size,_,I.laid (t':=s.toks) (λb o e=>kE _ e) (kN _) (qEA ⟨_,mK _ rfl,rfl,rfl⟩),rfl,q _ (I.hok.fresh (kN _))⟩
theorem q6A:entryFor table "dict_itemiterator.__iter__"=some Builtin.«dict_keyiterator.__iter__»:=
 entryFor_alias (id':="dict_keyiterator.__iter__") (by kernel_rfl) (by first|decide+kernel|rfl|(unfold String.splitOn;simp+decide [String.splitOnAux])) (by decide+kernel) (by kernel_rfl)
noncomputable def Iti(a:Addr)(o:Obj)(kvs:List (Key×V)):It:=
 ⟨λi H=>H a=some (.frz o (.dK kvs))∧i<kvs.length,λi H v H'=>∃T kv,v=.ref T∧H T=none∧H'=upd H T (.tup [kV kv.1,kv.2])∧kvs[i]?=some kv,λi H=>H a=some (.frz o (.dK kvs))∧kvs.length≤i⟩
theorem qAJ{P:Program}{w:World}{K:PySem.W.Frag}{elts:List Expr}{x1}{pos:Pos}(a it:Addr)(o:Obj){kvs:List (Key×V)}{vs:List (Key×Value)}{ep:Nat}(rel:KV kvs vs)(hD:∀h:Heap,h.get? a=some o→h.DictAt (jN P w) a vs ep):
 Turn P w K (.Tuple elts x1 pos) (Iti a o kvs) [it] it (λi h=>∃k0 v0,IsItemIter h it a i vs.length ep k0 v0) where
 mem:=by simp
 obj:=λi h st b hb=>by
  have e:b=it:=by simpa using hb
  subst e
  obtain⟨k0,v0,e⟩:=st
  exact⟨_,e,λv z=>by cases z⟩
 keep:=λi h h' st k=>let⟨k0,v0,e⟩:=st;⟨k0,v0,k it (by simp) _ e⟩
 item:=by
  intro X hP hw hK hc i pins s σ H E I hf st hg
  subst hP hw hK
  obtain⟨ha,hi⟩:=hg
  obtain⟨ho,_⟩:=I.hok a _ ha
  have hl:=rel.length
  have hi':i<vs.length:=by omega
  obtain⟨k0,v0,st⟩:=st
  obtain⟨f0,f1,f2,f3,f4,f5⟩:=hf it (by simp)
  refine wpAny_pyNext_items_item (k:=vs[i].1) (v:=vs[i].2) st (hD _ ho) (hV hi') λkey h' hk b1 b5 b6 b7=>?_
  refine⟨_,rfl,wpAny_letOwnedTupleGo_items (s:={ s with heap:=h' }) b1 λh'' c1 c2=>?_⟩
  have kk:∀b o,b∉[it]→s.heap.get? b=some o→h''.get? b=some o:=λb o hb e=>by
   have nb:b≠it:=λz=>hb (kI.mpr z)
   exact c2.extBut _ _ nb (b7 b o nb e)
  have I1:Inv X pins σ H { s with heap:=h'' }:=I.turnedN (t':=s.toks) kk hf
  have fr:H s.heap.objs.size=none:=I.hok.fresh (kN _)
  have yg:=I.young (a:=s.heap.objs.size) (pC (kN _))
  have nit:s.heap.objs.size≠it:=rX (kX st)
  have ek:=g0 (λl=>l[i]?) rel.keys
  simp only[mB,hV hi,hV hi',Option.map_some]at ek
  have rk:RelV (kV kvs[i].1) key:=by rw[kP ek];exact qE1 hk
  have rv:RelV kvs[i].2 vs[i].2:=by
   obtain⟨q,hq,z1,z2⟩:=Paired.at rel (hV hi)
   rw[hV hi']at hq
   rw[kP hq]
   exact z2
  have I2:=I1.trackG (o:=.tup [kV kvs[i].1,kvs[i].2]) fr yg (rX I.lt) (λx' c' w q'=>by
   obtain⟨v,o',ho,_⟩:=I.cell x' c' w
   exact absurd (kX ho) (by rw[q'];exact rD _)) ⟨by rw[gI,mQ,mQ,pG];omega,[key,vs[i].2],.cons rk (.cons rv .nil),⟨_,c2.extBut _ _ nit b5,rfl,_,rfl⟩⟩
  refine⟨.ref s.heap.objs.size,_,I2,rfl,⟨_,kvs[i],rfl,fr,rfl,hV hi⟩,⟨_,_,c1⟩,λb hb=>?_⟩
  have e:b=it:=by simpa using hb
  subst e
  rw[qC (wH nit)]
  exact(hf b hb).1
 done:=by
  intro X hP hw hK hc i pins s σ H E I hf st hg
  subst hP hw hK
  obtain⟨ha,hi⟩:=hg
  obtain⟨ho,_⟩:=I.hok a _ ha
  have hl:=rel.length
  obtain⟨k0,v0,st⟩:=st
  obtain⟨f0,f1,f2,f3,f4,f5⟩:=hf it (by simp)
  exact wpAny_pyNext_items_end (I.ok.hd hc) st (hD _ ho) (dA (by omega)) λh' eb=>⟨rfl,I.turned (t':=s.toks) (λb o hb e=>eb b o hb e) f0 f1 f3 f4 f5⟩
 self:=λA i s Q E ⟨k0,v0,st⟩ h=>by
  have ty:s.TypeIs (.ref it) "dict_itemiterator":=⟨_,st,rfl⟩
  refine wpAny_pyIter_slot ty cG (wZ cG ty q6A ?_ (PySem.F.args_dict_itemiterator_iter_1 _))
  show wpAny _ _ (ret (.ref it)) _ _ s
  exact kZ ⟨_,rfl,"dict_itemiterator",_,ty,PySem.F.slot_dict_itemiterator_next.lookup,h⟩
section
variable{X:Cx}
noncomputable def iItm(td:TE):TI:=λσ H R=>td σ H λx H1=>∃v a kvs,x=.ref v∧H1 v=some (q51 v a)∧H1 a=some (.dK kvs)∧∀o,R (Iti a o kvs) (upd H1 a (.frz o (.dK kvs)))
theorem qJ0{elts:List Expr}{x1}{pos:Pos}{d:Expr}{td:TE}(hd:PE X d td):PI X (.Tuple elts x1 pos) d (iItm td):=by
 intro pins s σ H R I h
 refine thn (hd pins s σ H _ I h) λv s1 hZ=>?_
 obtain⟨x,H1,I1,r1,q1⟩:=hZ
 obtain⟨vw,a,kvs,e,hv,ha,q⟩:=q1
 subst e
 cases r1
 obtain⟨z,lo,vs,rel,dd⟩:=q3O I1.hok ha
 obtain⟨ep,hat⟩:=dd.dictAt
 obtain⟨o,es,ho,hr⟩:=id hat
 have I2:=I1.freeze ha ho
 refine wpAny_pyIter_items (qEB I1.hok hv) hat ?_
 refine⟨s1.heap.objs.size,[s1.heap.objs.size],_,_,_,rfl,I2.kept (t':=s1.toks) λb o e=>kE _ e,qAJ a _ o rel (λh' h=>⟨o,es,h,hr⟩),⟨_,_,mK _ rfl⟩,λb hb=>?_,q o⟩
 have e:b=s1.heap.objs.size:=by simpa using hb
 subst e
 exact I2.fpOk (kN _) (I2.hok.fresh (kN _))
end
theorem qG4{a:Addr}{o:Obj}{kvs:List (Key×V)}{D:Addr}{H2:Hp}{g:TG}{tc:TT}{te:TE}{σ0:St}{R:Hp→Prop}(Pv:Nat→Hp→Prop)(h0:Pv 0 H2)(hl:∀i H,Pv i H→H a=some (.frz o (.dK kvs)))
 (hs:∀(i:Nat) kv T H,kvs[i]?=some kv→Pv i H→H T=none→g (.ref T) σ0 (upd H T (.tup [kV kv.1,kv.2])) λσ5 H5=>tc σ5 H5 λb H6=>if b=true then te σ5 H6 (λv H7=>∃vs,H7 D=some (.lst vs)∧vs.length<sizeLine∧Pv (i+1) (upd H7 D (.lst (vs++[v]))))else Pv (i+1) H6) (hd:∀H,Pv kvs.length H→R H):
 ∃W:Nat→Nat→Hp→Prop,(∃m,W 0 m H2)∧∀i m H3,W i m H3→((Iti a o kvs).stop i H3∧R H3)∨
  ((Iti a o kvs).go i H3∧∃N:Hp→Prop,(∀H',N H'→∃m',m'<m∧W (i+1) m' H')∧∀x H4,(Iti a o kvs).yld i H3 x H4→g x σ0 H4 λσ5 H5=>tc σ5 H5 λb H6=>
   if b=true then te σ5 H6 (λv H7=>∃vs,H7 D=some (.lst vs)∧vs.length<sizeLine∧N (upd H7 D (.lst (vs++[v]))))else N H6):=by
 refine⟨λi m H=>m=kvs.length-i∧i≤kvs.length∧Pv i H,⟨kvs.length,by simp,m8 _,h0⟩,?_⟩
 rintro i m H ⟨rfl,hi,p⟩
 have q:=hl i H p
 by_cases hlt:i<kvs.length
 ·refine .inr ⟨⟨q,hlt⟩,Pv (i+1),λH' z=>⟨kvs.length-(i+1),by omega,rfl,by omega,z⟩,?_⟩
  rintro v H' ⟨T,kv,rfl,nT,rfl,hk⟩
  exact hs i kv T _ hk p nT
 ·obtain rfl:i=kvs.length:=by omega
  exact .inl ⟨⟨q,kN _⟩,hd _ p⟩
end L2
namespace L2
open PySem PySem.W PySem.Spec PyProof.Rows
section
variable{X:Cx}{pins:List (Addr×Obj)}{σ:St}
noncomputable def TupD(H:Hp)(v:V)(k:List Int):Prop:=∃a,v=.ref a∧H a=some (.tup (k.map V.int))
theorem TupD.i{K:PySem.W.Frag}{H:Hp}{v:V}{k:List Int}(h:TupD H v k):TupI K H v k:=let⟨a,e,z⟩:=h;⟨a,e,SqT.of z⟩
theorem TupD.same{H H':Hp}{v:V}{k:List Int}(h:TupD H v k)(s:Same H H'):TupD H' v k:=let⟨a,e,z⟩:=h;⟨a,e,s _ _ z⟩
theorem TupD.upd{H:Hp}{v:V}{k:List Int}{D:Addr}{u o:HO}(h:TupD H v k)(hd:H D=some u)(n:∀ys,u≠ .tup ys):TupD (L2.upd H D o) v k:=let⟨a,e,z⟩:=h;⟨a,e,by rw[qC (jS z hd (λq=>n _ q.symm))];exact z⟩
noncomputable def dI(ks:List (Int×Int)):List (Key×V):=ks.map λp=>((.inl p.1:Key),V.int p.2)
theorem q3U:∀{ks:List (Int×Int)} {n m:Int},(ks.map (·.1)).Nodup→(n,m)∈ks→valV (dI ks) (.inl n:Key)=some (.int m)
 |p::ks,n,m,nd,h=>by
  obtain⟨n1,n2⟩:=gB.mp nd
  show valV (((.inl p.1:Key),V.int p.2)::dI ks) (.inl n)=_
  rcases kL.mp h with rfl|h
  ·exact q08 rfl
  ·have ne:p.1≠n:=λe=>n1 (by show p.1∈_;rw[e];exact pN (f:=λx:Int×Int=>x.1) h)
   rw[vF (λe=>ne (rV e))]
   exact q3U n2 h
theorem q0S:∀{ks:List (Int×Int)} {n:Int},n∉ks.map (·.1)→valV (dI ks) (.inl n:Key)=none
 | [],n,_=>rfl
 |p::ks,n,h=>by
  show valV (((.inl p.1:Key),V.int p.2)::dI ks) (.inl n)=_
  have h':n≠p.1∧n∉ks.map (·.1):=by simpa using h
  rw[vF (λe=>h'.1 (rV e).symm)]
  exact q0S h'.2
end
section
variable{X:Cx}
theorem q6X(hc:X.calm=true):q17 X (.builtin "sorted") (λxs H Q=>∃(a:Addr) (kvs:List (Key×V)) (ks:List Int),xs=[.ref a]∧H a=some (.dK kvs)∧kvs.map (·.1)=ks.map Sum.inl∧ks.length<64∧∀ns':List Int,ns'.Perm ks→ns'.Pairwise (·≤·)→NewO H (.lst (ns'.map V.int)) Q):=by
 intro pins s σ H xs us Q I r hZ
 obtain⟨a,kvs,ks,ex,ha,ek,h64,q⟩:=hZ
 subst ex
 obtain⟨u,rfl,rx⟩:=q3L r
 cases rx
 obtain⟨z,lo,ws,rel,dd⟩:=q3O I.hok ha
 obtain⟨ep,hat⟩:=dd.dictAt
 have hwl:ks.length=ws.length:=by
  rw[←rel.length]
  have:=g0 List.length ek
  rw[hI,hI]at this
  exact this.symm
 refine Calls.call_function_entry kind_sorted plain_sorted entry_sorted (args_sorted1 _) ?_
 unfold Builtin.«sorted»
 refine kD (m:=checkCount "sorted" 1 1 _) (kZ ?_)
 refine kD (kdu_collect (A:=X.A.in1) (kdl_dict (knd:=jN X.prog X.w) (kvs:=ws) (ep:=ep) lo) (I.ok.hd hc) hat (by rw[gI];omega) λh' tk acc hk hacc=>?_)
 have I1:Inv X pins σ H { s with heap:=h',toks:=tk }:=I.kept (t':=tk) hk
 have hal:acc.toList.length=ks.length:=by rw[gA,hacc.1,hwl]
 have rv:Vals (ks.map V.int) acc.toList:=q4H (by rw[hI,hal]) λj x v hx hv=>by
  rw[Array.getElem?_toList]at hv
  obtain⟨k,y,hw,hi⟩:=hacc.2 j v hv
  have hj:j<ks.length:=by have:=(kC.mp hw).1;omega
  rw[mB,hV hj]at hx
  obtain rfl:V.int ks[j]=x:=kP hx
  have hj2:j<kvs.length:=by rw[rel.length,←hwl];exact hj
  have hd:kvs[j]?=some kvs[j]:=hV hj2
  have hk:kvs[j].1=(.inl ks[j]:Key):=by
   have:=g0 (λl=>l[j]?) ek
   rw[mB,mB,hd,hV hj]at this
   exact kP this
  obtain⟨q',hq',e1,e2⟩:=Paired.at rel hd
  rw[hw]at hq'
  obtain rfl:=kP hq'
  have e1:(.inl ks[j]:Key)=k:=hk.symm.trans e1
  have:=qE1 (k:=k) hi
  rw[←e1]at this
  exact this
 have hi:=q5K rv
 refine kD (pB ?_ (by rw[hal,gI];omega))
 have g:(h'.push (seqObj "list" acc.toList.toArray 0)).get? h'.objs.size=some (seqObj "list" acc.toList.toArray 0):=mK _ rfl
 show wpAny _ _ _ _ _ { s with heap:=h'.push (seqObj "list" acc.toList.toArray 0),toks:=tk }
 refine kD (dB (wZ slot_list_sort ⟨_,g,rfl⟩ entry_list_sort (list_sort_tree g hi (by rw[hal];exact h64) λout ns' a1 a2 a3=>⟨_,rfl,?_⟩) (args_list_sort _)))
 refine kZ ⟨_,rfl,?_⟩
 have old:∀b o,h'.get? b=some o→(sortedHeap (h'.push (seqObj "list" acc.toList.toArray 0)) h'.objs.size acc.toList out).get? b=some o:=λb o e=>by
  rw[sortedHeap_old (mW (kX e)) (by rw[size_push'];exact g7 (kX e))]
  exact kE _ e
 obtain⟨e,he⟩:=sortedHeap_at (vs:=acc.toList) (out:=out) g
 have hz':(ns'.map V.int).length≤sizeLine:=by rw[hI,a2.length_eq,gI];omega
 exact⟨.ref h'.objs.size,_,I1.laid (t':=tk) (λb o e=>old b o e) (kN _) (show jK X.prog X.w _ _ _ (.lst _)from⟨hz',out.toList,e,q0R a1,by simpa[seqObj]using he⟩),rfl,(q ns' a2 a3).at _ (I1.hok.fresh (kN _))⟩
end
end L2
namespace L2
open PySem PySem.Spec PyProof.Rows
noncomputable def q7P(v a:Addr):HO:=.ext λh=>h.IsValuesView v a
theorem qED{P:Program}{w:World}{H:Hp}{h:Heap}{v a:Addr}(e:h.IsValuesView v a):jK P w H h v (q7P v a):=by
 obtain⟨o,e1,e2,e3⟩:=id e
 exact⟨e,⟨_,e1⟩,λ_ _ ⟨o,a1,a2⟩ k=>⟨o,k _ a1,a2⟩⟩
noncomputable def qKE:V→List V→Hp→VK→Prop:=λx vs H Q=>∃a kvs,x=.ref a∧vs=[]∧H a=some (.dK kvs)∧∀v,H v=none→Q (.ref v) (upd H v (q7P v a))
theorem qCJ{X:Cx}:MtR X "dict.values" qKE:=by
 intro pins s σ H x vs v us Q I rx rv hZ
 obtain⟨a,kvs,ex,ev,ha,q⟩:=hZ
 subst ex ev
 cases rx
 have hus:=rv.zero
 subst hus
 obtain⟨z,lo,ws,rel,dd⟩:=q3O I.hok ha
 refine cS PySem.F.slot_dict_values dd.typeIs PySem.F.entry_dict_values (PySem.F.args_dict_values_1 _) (meets_dict_values (jN X.prog X.w) a lo) ⟨⟨ws,dd⟩,?_⟩
 exact⟨.ref s.heap.objs.size,_,I.laid (t':=s.toks) (λb o e=>kE _ e) (kN _) (qED ⟨_,mK _ rfl,rfl,rfl⟩),rfl,q _ (I.hok.fresh (kN _))⟩
theorem q6B:entryFor table "dict_valueiterator.__iter__"=some Builtin.«dict_keyiterator.__iter__»:=
 entryFor_alias (id':="dict_keyiterator.__iter__") (by kernel_rfl) (by first|decide+kernel|rfl|(unfold String.splitOn;simp+decide [String.splitOnAux])) (by decide+kernel) (by kernel_rfl)
noncomputable def Itv(a:Addr)(o:Obj)(kvs:List (Key×V)):It:=
 ⟨λi H=>H a=some (.frz o (.dK kvs))∧i<kvs.length,λi H v H'=>H'=H∧∃kv,kvs[i]?=some kv∧v=kv.2,λi H=>H a=some (.frz o (.dK kvs))∧kvs.length≤i⟩
theorem qCK{P:Program}{w:World}{K:PySem.W.Frag}{tg:Expr}(a it:Addr)(o:Obj){kvs:List (Key×V)}{vs:List (Key×Value)}{ep:Nat}(rel:KV kvs vs)(hD:∀h:Heap,h.get? a=some o→h.DictAt (jN P w) a vs ep):
 Turn P w K tg (Itv a o kvs) [it] it (λi h=>h.IsValIter it a i vs.length ep) where
 mem:=by simp
 obj:=λi h st b hb=>by
  have e:b=it:=by simpa using hb
  subst e
  obtain⟨o',e,c,d⟩:=st
  exact⟨o',e,λv z=>by rw[d]at z;cases z⟩
 keep:=λi h h' ⟨o',e,r⟩ k=>⟨o',k it (by simp) o' e,r⟩
 item:=by
  intro X hP hw hK hc i pins s σ H E I hf st hg
  subst hP hw hK
  obtain⟨ha,hi⟩:=hg
  obtain⟨ho,_⟩:=I.hok a _ ha
  have hl:=rel.length
  have hi':i<vs.length:=by omega
  obtain⟨f0,f1,f2,f3,f4,f5⟩:=hf it (by simp)
  refine wpAny_pyNext_values_item (k:=vs[i].1) (v:=vs[i].2) st (hD _ ho) (hV hi') λh' st' sb=>?_
  have I1:Inv X pins σ H { s with heap:=h' }:=I.turned (t':=s.toks) (λb o hb e=>(sb.2 b hb).trans e) f0 f1 f3 f4 f5
  obtain⟨o',e',c',d'⟩:=id st'
  refine⟨vs[i].2,rfl,q90 (s:={ s with heap:=h' }) e' c' d' (by decide) ⟨kvs[i].2,H,I1,?_,⟨rfl,kvs[i],hV hi,rfl⟩,st',λb hb=>(hf b hb).1⟩⟩
  obtain⟨q,hq,z1,z2⟩:=Paired.at rel (hV hi)
  rw[hV hi']at hq
  rw[kP hq]
  exact z2
 done:=by
  intro X hP hw hK hc i pins s σ H E I hf st hg
  subst hP hw hK
  obtain⟨ha,hi⟩:=hg
  obtain⟨ho,_⟩:=I.hok a _ ha
  have hl:=rel.length
  obtain⟨f0,f1,f2,f3,f4,f5⟩:=hf it (by simp)
  exact wpAny_pyNext_values_end (I.ok.hd hc) st (hD _ ho) (dA (by omega)) λh' eb=>⟨rfl,I.turned (t':=s.toks) (λb o hb e=>eb b o hb e) f0 f1 f3 f4 f5⟩
 self:=λA i s Q E ⟨o',e',c',d'⟩ h=>by
  have ty:s.TypeIs (.ref it) "dict_valueiterator":=⟨_,e',c'⟩
  refine wpAny_pyIter_slot ty cD (wZ cD ty q6B ?_ (PySem.F.args_dict_valueiterator_iter_1 _))
  show wpAny _ _ (ret (.ref it)) _ _ s
  exact kZ ⟨_,rfl,"dict_valueiterator",_,ty,PySem.F.slot_dict_valueiterator_next.lookup,h⟩
section
variable{X:Cx}{tg:Expr}
noncomputable def iVal(td:TE):TI:=λσ H R=>td σ H λx H1=>∃v a kvs,x=.ref v∧H1 v=some (q7P v a)∧H1 a=some (.dK kvs)∧∀o,R (Itv a o kvs) (upd H1 a (.frz o (.dK kvs)))
theorem qJ1{d:Expr}{td:TE}(hd:PE X d td):PI X tg d (iVal td):=by
 intro pins s σ H R I h
 refine thn (hd pins s σ H _ I h) λv s1 hZ=>?_
 obtain⟨x,H1,I1,r1,q1⟩:=hZ
 obtain⟨vw,a,kvs,e,hv,ha,q⟩:=q1
 subst e
 cases r1
 obtain⟨z,lo,vs,rel,dd⟩:=q3O I1.hok ha
 obtain⟨ep,hat⟩:=dd.dictAt
 obtain⟨o,es,ho,hr⟩:=id hat
 have I2:=I1.freeze ha ho
 refine wpAny_pyIter_values (I1.hok vw _ hv).1 hat ?_
 refine⟨s1.heap.objs.size,[s1.heap.objs.size],_,_,_,rfl,I2.kept (t':=s1.toks) λb o e=>kE _ e,qCK a _ o rel (λh' h=>⟨o,es,h,hr⟩),⟨_,mK _ rfl,rfl,rfl⟩,λb hb=>?_,q o⟩
 have e:b=s1.heap.objs.size:=by simpa using hb
 subst e
 exact I2.fpOk (kN _) (I2.hok.fresh (kN _))
end
end L2
namespace W1
theorem jA{α:Type}(l:List α)(i j:Nat)(x d:α):(l.set i x).getD j d=if i=j∧i<l.length then x else l.getD j d:=by
 rw[kJ,List.getElem?_set,kJ]
 by_cases h:i=j
 ·subst h
  rw[kF rfl]
  by_cases h2:i<l.length
  ·rw[kF h2,kF ⟨rfl,h2⟩]
   rfl
  ·rw[kB h2,kB (λz=>h2 z.2),dA (by omega)]
 ·rw[kB h,kB (λz=>h z.1)]
theorem yE{P b j:Nat}(h:j<P):(b*P+j) / P=b:=by
 rw[wL,Nat.mul_add_div (by omega),Nat.div_eq_of_lt h,cT]
theorem qEE{B P b j:Nat}(hb:b<B)(hj:j<P):b*P+j<B*P:=by
 have:=gN P (show b+1≤B from hb)
 rw[wK]at this
 omega
theorem q2K{α:Type}[DecidableEq α]:∀{l m:List α},l.Nodup→m.Nodup→(∀x,x∈l↔x∈m)→l.Perm m
 | [],m,_,_,h=>by
  cases m with
  |nil=>exact .nil
  |cons a m=>exact absurd ((h a).mpr kW) (by simp)
 |a::l,m,h1,h2,h=>by
  have ha:=(h a).mp kW
  obtain⟨n1,n2⟩:=gB.mp h1
  refine List.Perm.trans (List.Perm.cons a (q2K n2 (h2.erase a) λx=>?_)) (List.perm_cons_erase ha).symm
  rw[List.Nodup.mem_erase_iff h2]
  constructor
  ·intro hx
   exact⟨λe=>n1 (e▸hx),(h x).mp (hU _ hx)⟩
  ·rintro⟨ne,hx⟩
   exact(kL.mp ((h x).mpr hx)).resolve_left ne
theorem qHD{α:Type}[DecidableEq α]:∀{l m:List α},l.Nodup→(∀x∈l,x∈m)→l.length≤m.length
 | [],_,_,_=>m8 _
 |a::l,m,h1,h=>by
  obtain⟨n1,n2⟩:=gB.mp h1
  have ha:=h a kW
  have:=qHD (m:=m.erase a) n2 λx hx=>(List.mem_erase_of_ne (show x≠a from λe=>n1 (e▸hx))).mpr (h x (hU _ hx))
  rw[List.length_erase_of_mem ha]at this
  have h0:=List.length_pos_of_mem ha
  rw[mQ]
  omega
noncomputable abbrev Mp:=List (Int×Int)
noncomputable def jI(W:Mp)(n:Int):Mp:=W.filter λq=>decide (q.1≠n)
noncomputable def putW(W:Mp)(n p:Int):Mp:=if(W.any λq=>decide (q.1=n))=true then W.map (λq=>if q.1=n then(q.1,p)else q)else W++[(n,p)]
theorem j9{W:Mp}{n:Int}{q:Int×Int}:q∈jI W n↔q∈W∧q.1≠n:=by
 unfold jI
 rw[mM,kU]
theorem qHE{W:Mp}(h:(W.map (·.1)).Nodup):W.Nodup:=(g9.mp h).imp λz e=>z (g0 Prod.fst e)
theorem qJ2{W:Mp}(h:(W.map (·.1)).Nodup){q r:Int×Int}(hq:q∈W)(hr:r∈W)(e:q.1=r.1):q=r:=by
 induction W with
 |nil=>cases hq
 |cons a W ih=>
  obtain⟨n1,n2⟩:=gB.mp h
  rcases kL.mp hq with e1|h1
  ·rcases kL.mp hr with e2|h2
   ·rw[e1,e2]
   ·exact absurd (by show a.1∈_;rw[←e1,e];exact pN (f:=λx:Int×Int=>x.1) h2) n1
  ·rcases kL.mp hr with e2|h2
   ·exact absurd (by show a.1∈_;rw[←e2,←e];exact pN (f:=λx:Int×Int=>x.1) h1) n1
   ·exact ih n2 h1 h2
theorem q6C{W:Mp}{n:Int}(h:(W.map (·.1)).Nodup):((jI W n).map (·.1)).Nodup:=(h.sublist ((cE ..).map _))
theorem q3V{W:Mp}{n p:Int}(h:(W.map (·.1)).Nodup){q:Int×Int}:q∈putW W n p↔q=(n,p)∨q∈jI W n:=by
 unfold putW
 by_cases e:(W.any λq=>decide (q.1=n))=true
 ·rw[kF e,kO]
  obtain⟨r,hr,er⟩:=wF.mp e
  have er:r.1=n:=mL er
  constructor
  ·rintro⟨x,hx,rfl⟩
   by_cases ex:x.1=n
   ·rw[kF ex]
    exact .inl (by rw[ex])
   ·rw[kB ex]
    exact .inr (j9.mpr ⟨hx,ex⟩)
  ·rintro(rfl|h2)
   ·exact⟨r,hr,by rw[kF er,er]⟩
   ·obtain⟨a,b⟩:=j9.mp h2
    exact⟨q,a,kB b⟩
 ·rw[kB e,gM,kI]
  have no:∀x∈W,x.1≠n:=λx hx z=>e (wF.mpr ⟨x,hx,hC z⟩)
  constructor
  ·rintro(h1|h1)
   ·exact .inr (j9.mpr ⟨h1,no _ h1⟩)
   ·exact .inl h1
  ·rintro(h1|h1)
   ·exact .inr h1
   ·exact .inl (j9.mp h1).1
theorem qCL{W:Mp}{n p:Int}(h:(W.map (·.1)).Nodup):((putW W n p).map (·.1)).Nodup:=by
 unfold putW
 by_cases e:(W.any λq=>decide (q.1=n))=true
 ·rw[kF e,rA]
  have:(λx:Int×Int=>x.1) ∘ (λq:Int×Int=>if q.1=n then(q.1,p)else q)=λx=>x.1:=by
   funext x
   show(if x.1=n then(x.1,p)else x).1=x.1
   split<;>rfl
  rw[this]
  exact h
 ·rw[kB e,mV]
  refine rZ.mpr ⟨h,by simp,λa ha b hb z=>e ?_⟩
  obtain⟨x,hx,rfl⟩:=kO.mp ha
  have hb:b=n:=by simpa using hb
  exact wF.mpr ⟨x,hx,hC (by rw[z,hb])⟩
noncomputable def cntB(P:Nat)(W:Mp)(b:Nat):Nat:=W.countP λq=>decide (q.2 / (P:Int)=(b:Int))
theorem qEF{P:Nat}{W:Mp}{n p:Int}{b:Nat}(nd:(W.map (·.1)).Nodup)(h:(n,p)∈W):cntB P W b=cntB P (jI W n) b+if p / (P:Int)=(b:Int)then 1 else 0:=by
 have pm:W.Perm ((n,p)::jI W n):=q2K (qHE nd) (gB.mpr ⟨λz=>(j9.mp z).2 rfl,qHE (q6C nd)⟩) λx=>by
  rw[kL,j9]
  constructor
  ·intro hx
   by_cases e:x.1=n
   ·exact .inl (qJ2 nd hx h e)
   ·exact .inr ⟨hx,e⟩
  ·rintro(rfl|hx)
   ·exact h
   ·exact hx.1
 unfold cntB
 rw[pm.countP_eq,c6]
 by_cases e:p / (P:Int)=(b:Int)
 ·rw[kF e,kF (hC e)]
 ·rw[kB e,kB (by rw[kU];exact e)]
theorem qG5{W:Mp}{n:Int}(h:∀q∈W,q.1≠n):jI W n=W:=d7.mpr λq hq=>hC (h q hq)
structure BM where
 P:Nat
 B:Nat
 ns:List Int
 W:Mp
 V:Mp
 nx:Int
 bs:List (Option Int)
 ss:List Int
 lv:List Int
 fi:List Int
 bo:List Int
namespace BM
variable{m:BM}
noncomputable def lvF(P:Nat)(V:Mp)(lv:List Int)(n:Int):List Int:=match V.find? λq=>decide (q.1=n)with
 |some q=>lv.set (q.2 / (P:Int)).toNat (lv.getD (q.2 / (P:Int)).toNat 0-1)
 |none=>lv
end BM
end W1
namespace L2
open PySem PySem.Spec PyProof.Rows
noncomputable def qKF(K:PySem.W.Frag):R2:=λx y H Q=>∃p xs e,x=.ref p∧y=.ref e∧SqL K H p xs∧SqL K H e []∧Q (.bl (decide (xs≠[]))) H
theorem qJ3{X:Cx}(hu:X.A.units+64<cLine):OpR X (compareOp .NotEq) (qKF X.K):=by
 intro pins s σ H x y v u Q I rx ry hZ
 obtain⟨p,xs,e,ex,ey,hp,he,q⟩:=hZ
 subst ex ey
 cases rx
 cases ry
 obtain⟨i1,r1,p1,_⟩:=I.list hp
 obtain⟨i2,r2,p2,_⟩:=I.list he
 have l1:=r1.length
 have l2:=r2.length
 cases xs with
 |nil=>exact SeqAt.RcNeAt.lists (e:=λ_=>true) p1.isList p2.isList (by simp at l1 l2 ⊢;omega) (by omega) (λj h1 h2=>by simp at l1 h1;omega) _ _ _ _ ⟨.bl false,H,I,by rw[q09];rfl,q⟩
 |cons z zs=>exact SeqAt.RcNeAt.lists_lengths p1.isList p2.isList (by simp at l1 l2 ⊢;omega) (by omega) _ _ _ _ ⟨.bl true,H,I,rfl,q⟩
theorem q33{n j:Nat}(h:j<n):ixN n (j:Int)=some j:=by
 unfold ixN
 have a:(0:Int)≤j:=by omega
 have b:(j:Int)<n:=by omega
 simp[a,b,h]
theorem q9K{V:List (Int×Int)}{n:Int}:q4Z (dI V) (Sum.inl n:Key)=dI (W1.jI V n):=by
 unfold q4Z dI W1.jI
 rw[rT]
 congr 1
 apply wT
 intro q _
 show decide ((Sum.inl q.1:Key)≠Sum.inl n)=decide (q.1≠n)
 by_cases e:q.1=n<;>simp[e]
theorem qBJ{W:List (Int×Int)}{n p:Int}:putK (dI W) (Sum.inl n:Key) (.int p)=dI (W1.putW W n p):=by
 unfold putK dI W1.putW
 have e:((W.map λp=>((Sum.inl p.1:Key),V.int p.2)).any λkv=>decide (kv.1=Sum.inl n))=W.any λq=>decide (q.1=n):=by
  rw[List.any_map]
  congr 1
  funext q
  show decide ((Sum.inl q.1:Key)=Sum.inl n)=decide (q.1=n)
  by_cases e:q.1=n
  ·rw[e];simp
  ·rw[hG e,hG (λz=>e (rV z))]
 rw[e]
 by_cases h:(W.any λq=>decide (q.1=n))=true
 ·rw[kF h,kF h,rA,rA]
  apply dG
  intro q _
  show(if(Sum.inl q.1:Key)=Sum.inl n then((Sum.inl q.1:Key),V.int p)else((Sum.inl q.1:Key),V.int q.2))=_
  by_cases e:q.1=n
  ·rw[kF (by rw[e])]
   show _=(λp:Int×Int=>((Sum.inl p.1:Key),V.int p.2)) (if q.1=n then(q.1,p)else q)
   rw[kF e]
  ·rw[kB (λz=>e (rV z))]
   show _=(λp:Int×Int=>((Sum.inl p.1:Key),V.int p.2)) (if q.1=n then(q.1,p)else q)
   rw[kB e]
 ·rw[kB h,kB h,mV]
  rfl
theorem qCM{V:List (Int×Int)}{n p:Int}:W1.putW (W1.jI V n) n p=W1.jI V n++[(n,p)]:=by
 unfold W1.putW
 rw[kB]
 intro h
 obtain⟨q,hq,e⟩:=wF.mp h
 exact(W1.j9.mp hq).2 (mL e)
theorem setV{ns:List Int}{c:Nat}{x:Int}:(ns.map V.int).set c (.int x)=(ns.set c x).map V.int:=by rw[List.map_set]
theorem atV{ns:List Int}{c:Nat}(h:c<ns.length):atI (ns.map V.int) (c:Int)=some (.int (ns.getD c 0)):=by
 refine yT ?_
 rw[mB,hV h,kJ,hV h]
 rfl
theorem qEG:∀{A B:List (List Int)},A.Perm B→A.Pairwise (λa b=>lx b a=false)→B.Pairwise (λa b=>lx b a=false)→A=B
 | [],B,p,_,_=>(List.nil_perm.mp p).symm▸rfl
 |a::A,[],p,_,_=>absurd p.length_eq (by simp)
 |a::A,b::B,p,h1,h2=>by
  have e:a=b:=by
   by_cases e:a=b
   ·exact e
   ·have hb:b∈A:=(kL.mp (p.mem_iff.mpr kW)).resolve_left (λz=>e z.symm)
    have ha:a∈B:=(kL.mp (p.mem_iff.mp kW)).resolve_left e
    exact q69 a b ((gR.mp h2).1 a ha) ((gR.mp h1).1 b hb)
  subst e
  rw[qEG ((List.perm_cons a).mp p) (gR.mp h1).2 (gR.mp h2).2]
theorem qBK:∀{A B:List Int},A.Perm B→A.Pairwise (·≤·)→B.Pairwise (·≤·)→A=B
 | [],B,p,_,_=>(List.nil_perm.mp p).symm▸rfl
 |a::A,[],p,_,_=>absurd p.length_eq (by simp)
 |a::A,b::B,p,h1,h2=>by
  have e:a=b:=by
   by_cases e:a=b
   ·exact e
   ·have hb:b∈A:=(kL.mp (p.mem_iff.mpr kW)).resolve_left (λz=>e z.symm)
    have ha:a∈B:=(kL.mp (p.mem_iff.mp kW)).resolve_left e
    have:=(gR.mp h2).1 a ha
    have:=(gR.mp h1).1 b hb
    omega
  subst e
  rw[qBK ((List.perm_cons a).mp p) (gR.mp h1).2 (gR.mp h2).2]
theorem qEH{a:Addr}{o:Obj}{kvs:List (Key×V)}{D:Addr}{H2:Hp}{g:TG}{tc:TT}{te:TE}{σ0:St}{R:Hp→Prop}(Pv:Nat→Hp→Prop)(h0:Pv 0 H2)(hl:∀i H,Pv i H→H a=some (.frz o (.dK kvs)))
 (hs:∀(i:Nat) kv H,kvs[i]?=some kv→Pv i H→g (kV kv.1) σ0 H λσ5 H5=>tc σ5 H5 λb H6=>if b=true then te σ5 H6 (λv H7=>∃vs,H7 D=some (.lst vs)∧vs.length<sizeLine∧Pv (i+1) (upd H7 D (.lst (vs++[v]))))else Pv (i+1) H6) (hd:∀H,Pv kvs.length H→R H):
 ∃W:Nat→Nat→Hp→Prop,(∃m,W 0 m H2)∧∀i m H3,W i m H3→((Itd a o kvs).stop i H3∧R H3)∨
  ((Itd a o kvs).go i H3∧∃N:Hp→Prop,(∀H',N H'→∃m',m'<m∧W (i+1) m' H')∧∀x H4,(Itd a o kvs).yld i H3 x H4→g x σ0 H4 λσ5 H5=>tc σ5 H5 λb H6=>
   if b=true then te σ5 H6 (λv H7=>∃vs,H7 D=some (.lst vs)∧vs.length<sizeLine∧N (upd H7 D (.lst (vs++[v]))))else N H6):=
 qFY (Q:=λ_ H=>R H) Pv h0 hl hs hd
theorem qAK{ks:List (List Int)}{q:List Nat}{n:Nat}(hn:ks.length=n)(p:q.Perm (List.range n)):(q.map λi=>ks.getD i []).Perm ks:=by
 refine(p.map λi=>ks.getD i []).trans ?_
 have e:(List.range n).map (λi=>ks.getD i [])=ks:=by
  apply cA
  ·rw[hI,mH,hn]
  ·intro i h1 h2
   rw[c8,cJ,kJ,hV h2]
   rfl
 rw[e]
theorem qAL{F:V→List Int→Prop}{us:List V}{ks:List (List Int)}{q:List Nat}(h:Paired F us ks)(hq:∀i∈q,i<us.length):Paired F (q.map λi=>us.getD i .non) (q.map λi=>ks.getD i []):=by
 refine q4H (by rw[hI,hI]) λj x k hx hk=>?_
 rw[mB]at hx hk
 obtain⟨i,hi,rfl⟩:=mU.mp hx
 rw[hi]at hk
 obtain rfl:=kP hk
 have hl:=hq i (gK hi)
 have e1:us[i]?=some (us.getD i .non):=by rw[kJ,hV hl];rfl
 obtain⟨k,hk1,z⟩:=Paired.at h e1
 show F (us.getD i .non) (ks.getD i [])
 rw[show ks.getD i []=k from by rw[kJ,hk1];rfl]
 exact z
theorem yL{H H':Hp}{us:List V}{ks:List (List Int)}(h:Paired (TupD H) us ks)(s:Same H H'):Paired (TupD H') us ks:=Paired.mapP h λ_ _ z=>z.same s
theorem qBL{K:PySem.W.Frag}{H:Hp}{us:List V}{ks:List (List Int)}(h:Paired (TupD H) us ks):Paired (TupI K H) us ks:=Paired.mapP h λ_ _ z=>z.i
theorem q4J{lo:Int}{n:Nat}{D:Addr}{H2:Hp}{g:TG}{tc:TT}{te:TE}{σ0:St}{R:Hp→Prop}(Pv:Nat→Hp→Prop)(h0:Pv 0 H2)
 (hs:∀(i:Nat) H,i<n→Pv i H→g (.int (lo+i)) σ0 H λσ5 H5=>tc σ5 H5 λb H6=>if b=true then te σ5 H6 (λv H7=>∃vs,H7 D=some (.lst vs)∧vs.length<sizeLine∧Pv (i+1) (upd H7 D (.lst (vs++[v]))))else Pv (i+1) H6) (hd:∀H,Pv n H→R H):
 ∃W:Nat→Nat→Hp→Prop,(∃m,W 0 m H2)∧∀i m H3,W i m H3→((Itr lo n).stop i H3∧R H3)∨
  ((Itr lo n).go i H3∧∃N:Hp→Prop,(∀H',N H'→∃m',m'<m∧W (i+1) m' H')∧∀x H4,(Itr lo n).yld i H3 x H4→g x σ0 H4 λσ5 H5=>tc σ5 H5 λb H6=>
   if b=true then te σ5 H6 (λv H7=>∃vs,H7 D=some (.lst vs)∧vs.length<sizeLine∧N (upd H7 D (.lst (vs++[v]))))else N H6):=
 qDZ (Q:=λ_ H=>R H) Pv h0 hs hd
theorem qEI{H H3:Hp}{a:Addr}{u:HO}(ha:H a=some u)(k:∀b o,b≠a→H b=some o→H3 b=some o):Same H (upd H3 a u):=λb o e=>by
 by_cases z:b=a
 ·rw[z,qI,←ha,←z]
  exact e
 ·rw[qC z]
  exact k b o z e
theorem vD{X:Cx}{K:PySem.W.Frag}{e:Expr}{ta:TE}{f:Str}{pos:Pos}(eK:X.K=K)(he:PE X e ta)(hb:attributeBase e f X.env (eval e X.env)=eval e X.env):PE X (.Attribute e f pos) (tFld K ta f):=by
 subst eK
 exact qJ he hb
end L2
namespace L2
open PySem PySem.W PySem.Spec PyProof.Rows
noncomputable def BmIn(base:Heap)(mg:Str→Option Value):Prop:=∃bm o,mg "__builtins__"=some (.ref bm)∧bm≠builtinsNs∧base.get? bm=some o∧o.cls=.type "module"∧o.dict=some builtinsNs∧o.data=.plain
theorem qCN{P:Program}{w:World}{K:PySem.W.Frag}{mg mb:Str→Option Value}{CX:CXT}{k:Nat}{fa a:Addr}{fd:FuncData}{x:Str}{sp:Sp}{s₁:Shared}{vs:List Value}{ns:List Int}(ts:List Addr)
 (KX:K.In s₁.heap) (hts:∀T∈ts,s₁.heap.get? T=some (tabObj #[])∧K.lookup T=none∧∃c,codeHdIn K c T=true) (hns:s₁.heap.Ns mainGlobals mg) (hb:s₁.heap.Ns builtinsNs mb) (hbb:∀x:Str,x≠"__name__"→mb x=bootBuiltins x) (hlim:s₁.heap.NoLimit) (hbm:BmIn s₁.heap mg) (hg:s₁.gens=#[])
 (ha:s₁.heap.get? a=some { cls:=.type "list",data:=.seq vs.toArray }) (hi:IntsAre vs ns) (hl:ns.length≤sizeLine) (hr:Room k callerA)
 (F:∀base:Heap,K.In base→base.Ns mainGlobals mg→BmIn base mg→FnOk P w K mg base CX k fa fd [x] sp) (hbind:∀(s:Shared) (u:Value),BindsTo s fd ⟨[u],[]⟩ [(x,u)])
 (hsp:∀H:Hp,SqL K H a (ns.map V.int)→(∀T∈ts,H T=some (.tbl #[]))→sp [.ref a] H (λv _=>v=.bl true) λ_ _ _=>False)
 (hCX:∀H e s',CX [] H s₁ (λ_ _ _=>False) e s'→False):
 codeAny (model P w) callerA (.call (.ref fa) ⟨[.ref a],[]⟩) (λr s'=>r=.ok (.ret (.bool true))∧OldK s₁.heap s'.heap∧s'.os=s₁.os∧AllBare s'.gens) s₁:=by
 have rv:=q7N hi
 have lenV:=hi.length
 have nat:a∉ts:=λz=>by
  have e:=(hts a z).1
  rw[ha]at e
  cases e
 have core:∀H:Hp,SqL K H a (ns.map V.int)→HOk P w H s₁.heap→(∀b,H b=none∨(b=a∧K.lookup a=none∧∃o xs,H b=some (.frz o (.lst xs)))∨(b∈ts∧H b=some (.tbl #[])))→(∀T∈ts,H T=some (.tbl #[]))→
  codeAny (model P w) callerA (.call (.ref fa) ⟨[.ref a],[]⟩) (λr s'=>r=.ok (.ret (.bool true))∧OldK s₁.heap s'.heap∧s'.os=s₁.os∧AllBare s'.gens) s₁:=by
  intro H hS hok hO hT
  have base_of:∀{b:Addr} {o:Obj},s₁.heap.get? b=some o→H b=none→(hidT s₁.heap H).get? b=some o:=λe n=>q5P e n
  have noA:∀{b:Addr} {o:Obj} {es:Array DictEntry} {ep:Nat},s₁.heap.get? b=some o→o.data=.dict es ep→H b=none:=fun {b o es ep} e d=>by
   rcases hO b with z|⟨rfl,_⟩|⟨z,_⟩
   ·exact z
   ·rw[ha]at e;cases e;cases d
   ·rw[(hts b z).1]at e;cases e;cases d
  have nsK:∀{b:Addr} {m:Str→Option Value},s₁.heap.Ns b m→(hidT s₁.heap H).Ns b m:=fun {b m} ⟨o,es,ep,e,d,r⟩=>⟨o,es,ep,base_of e (noA e d),d,r⟩
  have hKb:K.In (hidT s₁.heap H):=λb o e=>base_of (KX b o e) (by
   rcases hO b with z|⟨rfl,z,_⟩|⟨z,_⟩
   ·exact z
   ·rw[z]at e;cases e
   ·rw[(hts b z).2.1]at e;cases e)
  have hM:Mod K mg (hidT s₁.heap H):=⟨hKb,nsK hns,⟨mb,nsK hb,hbb⟩,let⟨mc,h1,h2⟩:=hlim;⟨mc,nsK h1,h2⟩⟩
  have hB:BmIn (hidT s₁.heap H) mg:=by
   obtain⟨bm,o,b1,b2,b3,b4,b5,b6⟩:=hbm
   refine⟨bm,o,b1,b2,base_of b3 ?_,b4,b5,b6⟩
   rcases hO bm with z|⟨rfl,_⟩|⟨z,_⟩
   ·exact z
   ·rw[ha]at b3;cases b3;exact absurd (Value.type.inj b4) (by decide)
   ·rw[(hts bm z).1]at b3;cases b3;cases b4
  have e0:Env0 P w K mg (hidT s₁.heap H) callerA [] s₁ H:=⟨rfl,hM,λb o e=>qAX e,cN (q7A _ _),trivial,λb hb=>absurd (show b∈([]:List Addr)from hb) (by simp),hok,.of_eq hg⟩
  refine cP ((F _ hKb (nsK hns) hB).run callerA [] s₁ H ⟨[.ref a],[]⟩ [.ref a] [.ref a] _ _ hr e0 (hbind s₁ (.ref a)) (.cons rfl .nil) (hsp H hS hT)) λr s' h=>?_
  cases r with
  |error e=>exact(hCX H e s' h).elim
  |ok fl=>
   cases fl with
   |next=>exact False.elim h
   |brk=>exact False.elim h
   |cont=>exact False.elim h
   |ret u=>
    obtain⟨v,H',os,bare,un,hok',r',q⟩:=h
    have q':v=.bl true:=q
    subst q'
    obtain rfl:u=Value.bool true:=r'
    have kept:∀b o,s₁.heap.get? b=some o→b∉ts→s'.heap.get? b=some o:=λb o e nb=>by
     rcases hO b with z|⟨rfl,_,ob,xs,z⟩|⟨z,_⟩
     ·exact un.keep b o e z (by intro z;exact absurd (show b∈([]:List Addr)from z) (by simp)) (by simp)
     ·have z2:=un.frzs _ ob _ z
      obtain⟨e1,_⟩:=hok _ _ z
      obtain⟨e2,_⟩:=hok' _ _ z2
      rw[e]at e1;cases e1
      exact e2
     ·exact absurd z nb
    refine⟨rfl,⟨λb o e=>?_,λb o e=>?_⟩,os,bare⟩
    ·by_cases nb:b∈ts
     ·obtain⟨g,_,c,hc⟩:=hts b nb
      obtain⟨more,z2⟩:=un.tbls b _ (hT b nb)
      have g2:s'.heap.get? b=some { cls:=.none,data:=.fields (#[]++more) }:=hok' _ _ z2
      rw[g]at e;cases e
      exact .inr (.inl ⟨((codeHd_of_K KX hc).tab g).isCodeTable,rfl,#[],more,rfl,g2⟩)
     ·exact .inl (kept b o e nb)
    ·by_cases nb:b∈ts
     ·obtain⟨more,z2⟩:=un.tbls b _ (hT b nb)
      exact⟨_,hok' _ _ z2⟩
     ·exact⟨o,kept b o e nb⟩
 have tb:∀T∈ts,∀H:Hp,H T=some (.tbl #[])→∀u,H T=some u→jK P w H s₁.heap T u:=λT hT H e u e'=>by
  rw[e]at e';cases e'
  exact(hts T hT).1
 cases hk:K.lookup a with
 |some o=>
  have e:=KX a o hk
  rw[ha]at e
  cases e
  refine core (λb=>if b∈ts then some (.tbl #[])else none) (.inr ⟨_,vs.toArray,_,hk,rfl,rfl,rfl,by rw[mF,lenV];exact hl,by simpa using rv⟩) (λb u z=>?_) (λb=>?_) λT hT=>kF hT
  ·by_cases hb':b∈ts
   ·exact tb b hb' _ (kF hb') u z
   ·have z':=(kB hb').symm.trans z
    cases z'
  ·by_cases hb':b∈ts
   ·exact .inr (.inr ⟨hb',kF hb'⟩)
   ·exact .inl (kB hb')
 |none=>
  refine core (λb=>if b=a then some (.frz { cls:=.type "list",data:=.seq vs.toArray } (.lst (ns.map V.int)))else if b∈ts then some (.tbl #[])else none) (.inl (.inr ⟨{ cls:=.type "list",data:=.seq vs.toArray },kF rfl⟩)) (λb u z=>?_) (λb=>?_) λT hT=>?_
  ·by_cases hb':b=a
   ·have z':=(kF hb').symm.trans z
    cases z'
    subst hb'
    exact⟨ha,by rw[hI];exact hl,vs,_,rv,ha⟩
   ·by_cases hb2:b∈ts
    ·exact tb b hb2 _ ((kB hb').trans (kF hb2)) u z
    ·have z':=((kB hb').trans (kB hb2)).symm.trans z
     cases z'
  ·by_cases hb':b=a
   ·exact .inr (.inl ⟨hb',hk,_,_,kF hb'⟩)
   ·by_cases hb2:b∈ts
    ·exact .inr (.inr ⟨hb2,(kB hb').trans (kF hb2)⟩)
    ·exact .inl ((kB hb').trans (kB hb2))
  ·have:T≠a:=λz=>nat (z▸hT)
   exact(kB this).trans (kF hT)
theorem qEJ{l:PySem.W.OpenLaw}{n k:Nat}{q:Program}{loose:List Str}{XP:(Str→Option Value)→Heap→Prop}{YP:World→Heap→Prop}{d:DefRec}{K:Params→PySem.W.Frag}{CX:World→CXT}{sp:World→Sp}{x:Str}(ts:List Addr)
 (hn:l.most=some n) (hn2:n≤sizeLine) (hdf:d.params.defaults=[]) (hr:Room k callerA)
 (hY:∀(w:World) (h:Heap),YP w h→(K w.params).In h∧∀T∈ts,h.get? T=some (tabObj #[])) (hT:∀w:World,∀T∈ts,(K w.params).lookup T=none∧∃c,codeHdIn (K w.params) c T=true)
 (F:∀(w:World) (mg:Str→Option Value) (fa:Addr) (h:Heap),(K w.params).In h→h.Ns mainGlobals mg→mg d.name=some (.ref fa)→
  ∃fd:FuncData,(∀(s:Shared) (u:Value),BindsTo s fd ⟨[u],[]⟩ [(x,u)])∧
   ∀base:Heap,(K w.params).In base→base.Ns mainGlobals mg→BmIn base mg→FnOk l.prog w (K w.params) mg base (CX w) k fa fd [x] (sp w))
 (hsp:∀(w:World) (H:Hp) (a:Addr) (ns:List Int),ns.length≤n→SqL (K w.params) H a (ns.map V.int)→(∀T∈ts,H T=some (.tbl #[]))→sp w [.ref a] H (λv _=>v=.bl true) λ_ _ _=>False)
 (hCX:∀(w:World) (H:Hp) (s:Shared) (e:Value) (s':Shared),CX w [] H s (λ_ _ _=>False) e s'→False):
 PySem.W.WalkO q loose XP YP l.row.toRowW d [] (λf vs=>PySem.call f vs):=by
 refine Att.attach_call hn hdf λw s₀ s₁ mg mb fa o pm cd doc a vs ns G Y ho hd hcd hmg hobj hints hlen hg=>?_
 obtain⟨KX,KT⟩:=hY w _ Y
 obtain⟨fd,hb,hF⟩:=F w mg fa _ KX G.T.g hmg
 exact qCN ts KX (λT h=>⟨KT T h,hT w T h⟩) G.T.g G.T.b G.T.builtins G.T.nolimit (let⟨bm,ob,b1,b2,b3,b4,b5,b6⟩:=G.T.bmain;⟨bm,ob,b1,b2,b3,b4,b5,b6⟩) hg hobj hints (mI hlen hn2) hr hF hb (λH hS hH=>hsp w H a ns hlen hS hH) λH e s'=>hCX w H s₁ e s'
structure FunT(K:PySem.W.Frag)(x qual:Str)(st:Stmt)(c f:Addr)(fd:FuncData):Prop where
 ex:∃(oc:Value) (od:Option Addr) (kV doc pm:Value) (an:Option Addr) (ct:Value) (osl:Array (Option Value)),
  fd=PySem.W.fnOf x qual (yJ st) (yB st) (qH st) .none kV doc pm an (.ref c) ct∧K.lookup f=some ⟨oc,od,.func fd,osl⟩∧PySem.W.codeIn K (.ref c) qual=true
section
variable{P:Program}{w:World}{K:PySem.W.Frag}{mg:Str→Option Value}{base:Heap}
theorem FunT.mk'{x qual:Str}{st:Stmt}{c f:Addr}{oc:Value}{od an:Option Addr}{osl:Array (Option Value)}{kV doc pm ct:Value}(l:K.lookup f=some ⟨oc,od,.func (PySem.W.fnOf x qual (yJ st) (yB st) (qH st) .none kV doc pm an (.ref c) ct),osl⟩)
 (h:PySem.W.codeIn K (.ref c) qual=true):FunT K x qual st c f (PySem.W.fnOf x qual (yJ st) (yB st) (qH st) .none kV doc pm an (.ref c) ct):=⟨⟨oc,od,kV,doc,pm,an,ct,osl,rfl,l,h⟩⟩
theorem FunT.ok0{x qual:Str}{st:Stmt}{c f:Addr}{fd:FuncData}{N ps:List Str}{k:Nat}{sp:Sp}(F:FunT K x qual st c f fd)(S:FnScope N ps (qH st))
 (hbody:∀(A:Around) (outer:List Env) (s:Shared) (H:Hp) (vs:List V) (Q:VK) (E:XK),Room k (A.deeper (envOfC qual (qH st) s.heap.objs.size f (.ref c)))→sp vs H Q E→
  ∃t,PSs (cxOf CX0 P w K mg base N qual (qH st) f (.ref c) A outer s H E).nox (yB st) t∧t { nx:=λ_ H'=>Q .non H',rt:=Q } (q2V N vs) H)(len:∀vs H Q E,sp vs H Q E→vs.length=ps.length:=by intro _ _ _ _ h;(repeat obtain⟨_,h⟩:=h);all_goals subst_vars;rfl):FnOk P w K mg base CX0 (k+1) f fd ps sp:=by
 obtain⟨oc,od,kV,doc,pm,an,ct,osl,rfl,lk,hcd⟩:=F.ex
 refine qD7 lk hcd S len λA outer s H vs Q E hr hsp=>?_
 obtain⟨t,h,q⟩:=hbody A outer s H vs Q E hr hsp
 exact⟨t,h.nox,q⟩
noncomputable def q4K(K:PySem.W.Frag)(ts:List Addr):Sp:=λvs H Q _=>∃(a:Addr) (ns:List Int),vs=[.ref a]∧SqL K H a (ns.map V.int)∧ns.length≤63∧(∀T∈ts,H T=some (.tbl #[]))∧∀H',Q (.bl true) H'
end
noncomputable def fnOb(fd:FuncData):Obj:={ cls:=.type "function",data:=.func fd }
noncomputable def fnO(f:Addr)(fd:FuncData):HO:=.ext λh=>h.get? f=some (fnOb fd)
noncomputable def cdO(c:Addr)(q:Str):HO:=.ext λh=>∃o vs t,h.get? c=some o∧o.data=.fields vs∧vs[1]?=some (.str q t)
theorem qEK{P:Program}{w:World}{H:Hp}{h:Heap}{f:Addr}{fd:FuncData}(e:h.get? f=some (fnOb fd)):jK P w H h f (fnO f fd):=⟨e,⟨_,e⟩,λ_ _ a b=>b _ a⟩
theorem qJ4{P:Program}{w:World}{H:Hp}{h:Heap}{c:Addr}{q:Str}(e:h.CodeRec (.ref c) q):jK P w H h c (cdO c q):=by
 obtain⟨c',o,vs,t,e0,e1,e2,e3⟩:=e
 cases e0
 exact⟨⟨o,vs,t,e1,e2,e3⟩,⟨_,e1⟩,λ_ _ ⟨o,vs,t,a,b⟩ k=>⟨o,vs,t,k _ a,b⟩⟩
theorem qJ5{P:Program}{w:World}{H:Hp}{h:Heap}{f:Addr}{fd:FuncData}(ok:HOk P w H h)(e:H f=some (fnO f fd)):h.get? f=some (fnOb fd):=(ok f _ e).1
theorem qJ6{P:Program}{w:World}{H:Hp}{h:Heap}{c:Addr}{q:Str}(ok:HOk P w H h)(e:H c=some (cdO c q)):h.CodeRec (.ref c) q:=
 let⟨o,vs,t,a,b⟩:=(ok c _ e).1
 ⟨c,o,vs,t,rfl,a,b⟩
noncomputable def vG(base:Heap)(cs:List Addr):Hp:=λb=>if(base.get? b).isSome=true∨b∈cs then none else some (.lst [])
theorem q1K{h base base':Heap}:∀{l:List Env},h.FunFrames base l→(∀L∈frs l,base.get? L=none→base'.get? L=none)→h.FunFrames base' l
 | [],_,_=>trivial
 |env::r,⟨hk,⟨L,o,hf,hn,ho,hd⟩,hr⟩,k=>by
  have hL:L∈frs (env::r):=by unfold frs;rw[wD,hf];exact kW
  exact⟨hk,⟨L,o,hf,k L hL hn,ho,hd⟩,q1K hr λb hb=>k b (by
   unfold frs;rw[wD,hf];exact hU _ hb)⟩
theorem Inv.env0C{X:Cx}{pins:List (Addr×Obj)}{σ:St}{H:Hp}{s:Shared}(I:Inv X pins σ H s)(cs:List Addr)(hcs:∀c∈cs,∃x,X.fn x=true∧X.env.cells.lookup x=some c):
 Env0 X.prog X.w X.K X.mg (hidT s.heap (vG X.base cs)) X.A X.stack s H∧(∀b o,X.base.get? b=some o→(hidT s.heap (vG X.base cs)).get? b=some o)∧∀c∈cs,∀o,s.heap.get? c=some o→(hidT s.heap (vG X.base cs)).get? c=some o:=by
 have up:∀b o,X.base.get? b=some o→(hidT s.heap (vG X.base cs)).get? b=some o:=λb o e=>q5P (I.bk b o e) (kF (.inl (by rw[e];rfl)))
 have inv:∀{b:Addr} {o:Obj},(hidT s.heap (vG X.base cs)).get? b=some o→s.heap.get? b=some o∧((∃o',X.base.get? b=some o')∨b∈cs):=fun {b o} e=>by
  obtain⟨e1,n⟩:=qAX e
  refine⟨e1,?_⟩
  by_cases z:(X.base.get? b).isSome=true∨b∈cs
  ·rcases z with z|z
   ·exact .inl (cF.mp z)
   ·exact .inr z
  ·rw[show vG X.base cs b=some (.lst [])from kB z]at n
   cases n
 obtain⟨mb,hb1,hb2⟩:=I.ok.mod.blt
 refine⟨⟨I.ok.frames,⟨I.ok.mod.kin.keeps up,I.ok.mod.glob.keeps up,⟨mb,hb1.keeps up,hb2⟩,I.ok.mod.nolimit.keeps up⟩,λb o e=>?_,by rw[q7A];exact kN _,q1K I.stack λL hL n=>?_,I.stkFree,I.hok,I.bare⟩,up,λc hc o e=>q5P e (kF (.inr hc))⟩
 ·obtain⟨e1,z⟩:=inv e
  rcases z with⟨o',z⟩|z
  ·exact⟨e1,(I.bs b o' z).2⟩
  ·obtain⟨x,_,hx⟩:=hcs b z
   exact⟨e1,I.freeC x b hx⟩
 ·cases e:(hidT s.heap (vG X.base cs)).get? L with
  |none=>rfl
  |some o=>
   obtain⟨e1,z⟩:=inv e
   rcases z with⟨o',z⟩|z
   ·rw[n]at z;cases z
   ·obtain⟨x,hf,hx⟩:=hcs L z
    rcases kL.mp (I.stkSub L hL)with y|y
    ·exact absurd y (I.cne x L hx)
    ·obtain⟨_,o2,ho,_⟩:=I.ok.funs.mem y
     exact absurd (kX ho) (pU.mpr (I.ok.cab x L hf hx))
noncomputable def q6D(cells:List (Str×Addr))(σ:St)(base':Heap)(ix:List (Nat×Str)):Prop:=∀p∈ix,∀v,σ[p.1]?=some (some v)→∃c u,cells.lookup p.2=some c∧RelV v u∧base'.IsCell c (some u)
noncomputable def qKG(T:Addr)(pos:Pos)(qual:Str)(params:Arguments)(body:Expr)(scope:Scope)(clos:List (Str×Addr))(pm:Value):TE:=λσ H Q=>∃ps,H T=some (.tbl ps)∧TriplesOk ps.toList∧codeAmong pos ps.toList=none∧
 ∀(f c':Addr) (ctv:Value),H f=none→H c'=none→f≠c'→Q (.ref f) (upd (upd (upd H T (.tbl (ps++#[rawInt pos.line,rawInt pos.col,.ref c']))) c' (cdO c' qual)) f (fnO f (kla_fn "<lambda>" qual params body scope clos pm (.ref c') ctv)))
theorem qG6{X:Cx}{c T:Addr}{params:Arguments}{body:Expr}{scope:Scope}{pos:Pos}{clos:List (Str×Addr)}(hcode:X.env.code=.ref c)(hcd:codeHdIn X.K c T=true)(B:BmIn X.base X.mg)(hcl:closureFor scope X.env=pure clos)(hdef:defaultsOf params X.env=([],[])):
 PE X (.Lambda params body scope pos) (qKG T pos (X.env.qual++"<lambda>") params body scope clos ((X.mg "__name__").getD .none)):=by
 intro pins s σ H Q I hZ
 obtain⟨ps,hT,ht,hnf,q⟩:=hZ
 have hP:s.heap.get? T=some (tabObj ps):=I.hok T _ hT
 have hgs:s.heap.Ns mainGlobals X.mg:=I.ok.mod.glob.keeps I.bk
 obtain⟨bm,ob,b1,b2,b3,b4,b5,b6⟩:=B
 have b3':=I.bk _ _ b3
 have hgP:mainGlobals≠T:=λz=>by
  obtain⟨o,es,ep,e,hd,_⟩:=hgs
  rw[z,hP]at e;cases e;cases hd
 have hbP:bm≠T:=λz=>by rw[z,hP]at b3';cases b3';cases b4
 have hbG:bm≠mainGlobals:=λz=>by
  obtain⟨o,es,ep,e,hd,_⟩:=hgs
  rw[z,e]at b3';cases b3';rw[hd]at b6;cases b6
 refine kla_eval hdef (kla_makeFunction (clos:=clos) hcl I.ok.glob hgs hcode (codeHd_of_K I.kIn hcd) hP ht hnf hgP ⟨bm,ob,b1,b2,hbG,hbP,b3',b4,b5,b6⟩ λc' ctv h' tk hx hge hlt hrec htb=>?_)
 have trk:∀b u,s.heap.get? b=some u→b≠T→∀o,(h'.push o).get? b=some u:=λb u e n o=>kE _ (hx b u n e)
 have sz:s.heap.objs.size≤h'.objs.size:=mI hge (pQ hlt)
 have nF:H h'.objs.size=none:=I.hok.fresh sz
 have nC:H c'=none:=I.hok.fresh hge
 have fc:h'.objs.size≠c':=rX hlt
 have other:∀{b:Addr},b≠T→b≠c'→b≠h'.objs.size→∀u:HO,(upd (upd (upd H T (.tbl (ps++#[rawInt pos.line,rawInt pos.col,.ref c']))) c' (cdO c' (X.env.qual++"<lambda>"))) h'.objs.size (fnO h'.objs.size (kla_fn "<lambda>" (X.env.qual++"<lambda>") params body scope clos ((X.mg "__name__").getD .none) (.ref c') ctv))) b=H b:=fun {b} z1 z2 z3 _=>by
  rw[qC z3,qC z2,qC z1]
 refine⟨.ref h'.objs.size,_,?_,rfl,q _ c' ctv nF nC fc⟩
 refine I.un (t':=tk) ⟨λb o e n _ _=>trk b o e (qF hT n).symm _,λb o e n _ _=>⟨o.slots,trk b o e (qF hT n).symm _⟩,λb o e n _=>?_,λb o e _=>?_,λb xs e=>?_,λb o u e=>?_,λb qs e=>?_⟩ λb u e=>?_
 ·have hb:b<s.heap.objs.size:=kX e
  rw[other (qF hT n).symm (mW (mY hb hge)) (mW (mY hb sz)) (.lst [])]
  exact n
 ·by_cases z:b=T
  ·subst z;exact⟨_,kE _ htb⟩
  ·exact⟨o,trk b o e z _⟩
 ·rw[other (λz=>by rw[z,hT]at e;cases e) (qF e nC) (qF e nF) (.lst [])];exact e
 ·rw[other (λz=>by rw[z,hT]at e;cases e) (qF e nC) (qF e nF) (.lst [])];exact e
 ·by_cases z:b=T
  ·subst z
   rw[hT]at e;cases e
   refine⟨#[rawInt pos.line,rawInt pos.col,.ref c'],?_⟩
   rw[qC (qF hT nF),qC (qF hT nC)]
   exact qI
  ·exact⟨#[],by rw[other z (qF e nC) (qF e nF) (.lst []),e];simp⟩
 ·by_cases z3:b=h'.objs.size
  ·subst z3
   rw[qI]at e;cases e
   exact qEK (mK _ rfl)
  ·by_cases z2:b=c'
   ·subst z2
    rw[qC z3,qI]at e;cases e
    exact qJ4 (hrec.push _)
   ·by_cases z:b=T
    ·subst z
     rw[qC z3,qC z2,qI]at e;cases e
     exact kE _ htb
    ·rw[other z z2 z3 (.lst [])]at e
     refine(I.hok b u e).stay (λd v hd r=>trk d v r (λy=>?_) _) (λd r=>?_) λd xs r=>?_
     ·rcases hd with hd|hd
      ·exact z (hd▸y)
      ·rw[y,hT]at hd;cases hd
     ·rw[other (λy=>by rw[y,hT]at r;cases r) (qF r nC) (qF r nF) (.lst [])];exact r
     ·rw[other (λy=>by rw[y,hT]at r;cases r) (qF r nC) (qF r nF) (.lst [])];exact r
noncomputable abbrev envL(qual:Str)(scope:Scope)(clos:List (Str×Addr))(L f:Addr)(cd:Value):Env:=newEnv scope L mainGlobals clos (qual++".<locals>.") (some f) cd none builtinsNs
noncomputable def qEL(CX:CXT)(P:Program)(w:World)(K:PySem.W.Frag)(mg:Str→Option Value)(base:Heap)(N:List Str)(qual:Str)(scope:Scope)(clos:List (Str×Addr))(f:Addr)(cd:Value)(A:Around)(outer:List Env)(s:Shared)(H:Hp)(E:XK):Cx where
 prog:=P
 w:=w
 K:=K
 mg:=mg
 base:=base
 A:=A.deeper (envL qual scope clos s.heap.objs.size f cd)
 N:=N
 s₀:=s
 H₀:=H
 env:=envL qual scope clos s.heap.objs.size f cd
 outer:=outer
 stack:=envL qual scope clos s.heap.objs.size f cd::outer
 ex:=[]
 calm:=true
 fn:=λ_=>false
 pn:=[]
 xe:=λe s'=>wpAny (model P w) (A.deeper (envL qual scope clos s.heap.objs.size f cd)) (leaving (envL qual scope clos s.heap.objs.size f cd) e) (λ_ s''=>CX outer H s E e s'') (λe' s''=>CX outer H s E e' s'') s'
structure LamSc(scope:Scope)(x0:Str)(clos:List (Str×Addr))(fvs:List V)(base:Heap):Prop where
 kind:scope.kind=.function
 co:scope.isCoroutine=false
 gen:scope.isGenerator=false
 par:scope.names.lookup x0=some .local
 nocell:∀y∈scope.names,y.2≠ .cell
 free:∀y,scope.names.lookup y=some .free→∃c,clos.lookup y=some c
 inj:∀x y c,clos.lookup x=some c→clos.lookup y=some c→x=y
 at':∀(j:Nat) (x:Str) (c:Addr),clos[j]?=some (x,c)→scope.names.lookup x=some .free∧clos.lookup x=some c∧∃v u,fvs[j]?=some v∧RelV v u∧base.IsCell c (some u)
 len:fvs.length=clos.length
theorem qG7{CX:CXT}{P:Program}{w:World}{K:PySem.W.Frag}{mg:Str→Option Value}{base:Heap}{k:Nat}{f c:Addr}{name qual:Str}{params:Arguments}{body:Expr}{scope:Scope}{pm ct:Value}{x0:Str}{clos:List (Str×Addr)}{fvs:List V}{sp:Sp}(S:LamSc scope x0 clos fvs base)
 (len:∀vs H Q E,sp vs H Q E→vs.length=1) (hf:∀vs H Q E,sp vs H Q E→H f=some (fnO f (kla_fn name qual params body scope clos pm (.ref c) ct))∧H c=some (cdO c qual))
 (hbody:∀(A:Around) (outer:List Env) (s:Shared) (H:Hp) (v0:V) (Q:VK) (E:XK),Room k (A.deeper (envL qual scope clos s.heap.objs.size f (.ref c)))→sp [v0] H Q E→
  ∃t,PE (qEL CX P w K mg base (x0::clos.map (·.1)) qual scope clos f (.ref c) A outer s H E) body t∧t (some v0::fvs.map some) H Q):
 FnOk P w K mg base CX (k+1) f (kla_fn name qual params body scope clos pm (.ref c) ct) [x0] sp:=by
 refine⟨len,λA outer s H args us vs Q E hr e0 hb r hsp=>?_⟩
 have hl:=len _ _ _ _ hsp
 obtain⟨v0,rfl⟩:∃v0,vs=[v0]:=match vs,hl with| [v],_=>⟨v,rfl⟩
 obtain⟨u0,rfl,r0⟩:=q3L r
 have lim:s.heap.NoLimit:=e0.mod.nolimit.keeps λb o e=>(e0.bs b o e).1
 obtain⟨hf1,hc1⟩:=hf _ _ _ _ hsp
 refine kla_callFunE hr.depth (qJ5 e0.hok hf1) rfl S.co S.gen rfl (qJ6 e0.hok hc1) (hb _ _ _ _ ?_)
 refine pD S.nocell (λy hy=>?_) (λh' hn hs=>?_) S.kind
 ·obtain rfl:y=(x0,u0):=by simpa using hy
  exact S.par
 have hk:∀b o,s.heap.get? b=some o→h'.get? b=some o:=λb o e=>by
  have:=hs.2 b (mW (kX e))
  rw[this]
  exact kE _ e
 refine⟨lim.keeps hk,kla_codeExpr ?_⟩
 obtain⟨t,ht,hq⟩:=hbody A outer s H v0 Q E (hr.deeper _) hsp
 have noA:∀b:Addr,b∉(qEL CX P w K mg base (x0::clos.map (·.1)) qual scope clos f (.ref c) A outer s H E).ex:=λb z=>absurd (show b∈([]:List Addr)from z) (by simp)
 have cat:∀y d,clos.lookup y=some d→∃u,base.IsCell d (some u):=λy d e=>by
  obtain⟨j,hj,ej⟩:=cC (gP e)
  obtain⟨_,_,v,u,_,_,hu⟩:=S.at' j y d (kC.mpr ⟨hj,ej⟩)
  exact⟨u,hu⟩
 have I:Inv (qEL CX P w K mg base (x0::clos.map (·.1)) qual scope clos f (.ref c) A outer s H E) [] (some v0::fvs.map some) H { s with heap:=h',toks:=s.toks + [(x0,u0)].length }:=by
  refine⟨⟨e0.mod,S.kind,rfl,rfl,kN _,S.inj,λy hy=>?_,λy c z _=>absurd (show false=true from z) (by decide),λ_=>hr.hd,Around.frames_deeper e0.frames,.inr ⟨rfl,rfl⟩,λb z=>absurd z (noA b),e0.bs,e0.bsz,λb _ _=>noA b,λb z=>absurd z (noA b),e0.funs,e0.frf⟩,
   rfl,e0.bare,Un.kept hk,⟨_,hn,λi y v h1 h2 h3=>?_⟩,λy d e=>?_,e0.hok.fresh (kN _),λy d e=>?_,λp hp=>absurd (show p∈([]:List (Addr×Obj))from hp) (by simp),e0.hok.kept hk,?_⟩
  ·have hy:scope.names.lookup y=some .cell∨scope.names.lookup y=some .free:=hy
   rcases hy with hy|hy
   ·exact absurd rfl (S.nocell _ (gP hy))
   ·exact S.free y hy
  ·cases i with
   |zero=>
    obtain rfl:=kP h1
    obtain rfl:=kP (kP h2)
    refine⟨u0,r0,.inl ⟨S.par,?_⟩⟩
    show([(x0,u0)]:List (Str×Value)).reverse.lookup x0=some u0
    simp
   |succ j=>
    have h1:(clos.map (·.1))[j]?=some y:=h1
    have h2:(fvs.map some)[j]?=some (some v):=h2
    rw[mB]at h1 h2
    obtain⟨⟨y',d⟩,hd,rfl⟩:=mU.mp h1
    obtain⟨v',hv,ev⟩:=mU.mp h2
    obtain rfl:=kP ev
    obtain⟨a1,a2,v2,u,a3,a4,a5⟩:=S.at' j _ d hd
    rw[hv]at a3
    obtain rfl:=kP a3
    exact⟨u,a4,.inr ⟨.inr a1,d,a2,a5.keeps λb o e=>hk b o (e0.bs b o e).1⟩⟩
  ·obtain⟨u,hu⟩:=cat y d e
   exact⟨_,hu.keeps λb o e=>hk b o (e0.bs b o e).1⟩
  ·obtain⟨u,o,ho,_⟩:=cat y d e
   exact(e0.bs _ _ ho).2
  ·show(some v0::fvs.map some).length=(x0::clos.map (·.1)).length
   rw[mQ,mQ,hI,hI,S.len]
 exact dC (ht [] _ _ H _ I hq) (λu s' ⟨v,H',J,rv,q⟩=>⟨v,H',J.os,J.bare,J.base,J.hok,rv,q⟩) λe s' hs=>hs
theorem qG8{scope:Scope}{env:Env}(h:(scope.names.all λy=>decide (y.2≠ .free)||(env.cells.lookup y.1).isSome)=true):closureFor scope env=pure (clOf env scope.names []):=
 q32 λy hy hf=>by
  have q:=dP.mp h y hy
  rw[wN,kU]at q
  rcases q with q|q
  ·exact absurd hf q
  ·exact cF.mp q
theorem qCO{scope:Scope}{x0 y:Str}{ca:Addr}{v:V}{u:Value}{base:Heap}(hk:scope.kind=.function)(hco:scope.isCoroutine=false)(hg:scope.isGenerator=false)(hp:scope.names.lookup x0=some .local)
 (hn:(scope.names.all λz=>decide (z.2≠ .cell)&&(decide (z.2≠ .free)||decide (z.1=y)))=true) (hf:scope.names.lookup y=some .free) (r:RelV v u) (hc:base.IsCell ca (some u)):LamSc scope x0 [(y,ca)] [v] base:=by
 have at1:∀z∈scope.names,z.2≠ .cell∧(z.2≠ .free∨z.1=y):=λz hz=>by
  have q:=dP.mp hn z hz
  rw[mO,wN,kU,kU,kU]at q
  exact q
 have lk:([(y,ca)]:List (Str×Addr)).lookup y=some ca:=by simp
 have one:∀x c,([(y,ca)]:List (Str×Addr)).lookup x=some c→x=y∧c=ca:=λx c e=>by
  have m:=gP e
  simpa using m
 refine⟨hk,hco,hg,hp,λz hz=>(at1 z hz).1,λz hz=>?_,λa b c h1 h2=>?_,λj x c h=>?_,rfl⟩
 ·have m:=(at1 _ (gP hz)).2
  rcases m with m|m
  ·exact absurd rfl m
  ·exact⟨ca,by rw[show z=y from m];exact lk⟩
 ·rw[(one _ _ h1).1,(one _ _ h2).1]
 ·match j,h with
  |0,h=>
   obtain⟨rfl,rfl⟩:y=x∧ca=c:=by simpa using h
   exact⟨hf,lk,v,u,rfl,r,hc⟩
  |j+1,h=>exact absurd h (by simp)
theorem q9L{env:Env}{names:List (Str×NameKind)}{y:Str}{ca:Addr}(e:env.cells.lookup y=some ca)(h:clOf env names []=match env.cells.lookup y with|some a=>[(y,a)] |none=>[]):clOf env names []=[(y,ca)]:=by
 rw[h,e]
noncomputable def qJ7(T:Addr)(pos:Pos)(qual:Str)(params:Arguments)(body:Expr)(scope:Scope)(clos:List (Str×Addr))(pm:Value):TE:=λσ H Q=>∃ps c',H T=some (.tbl ps)∧TriplesOk ps.toList∧codeAmong pos ps.toList=some (.ref c')∧
 ∀(f:Addr) (ctv:Value),H f=none→Q (.ref f) (upd H f (fnO f (kla_fn "<lambda>" qual params body scope clos pm (.ref c') ctv)))
theorem qEM{X:Cx}{c T:Addr}{params:Arguments}{body:Expr}{scope:Scope}{pos:Pos}{clos:List (Str×Addr)}(hcode:X.env.code=.ref c)(hcd:codeHdIn X.K c T=true)(B:BmIn X.base X.mg)(hcl:closureFor scope X.env=pure clos)(hdef:defaultsOf params X.env=([],[])):
 PE X (.Lambda params body scope pos) (qJ7 T pos (X.env.qual++"<lambda>") params body scope clos ((X.mg "__name__").getD .none)):=by
 intro pins s σ H Q I hZ
 obtain⟨ps,c',hT,ht,hnf,q⟩:=hZ
 have hP:s.heap.get? T=some (tabObj ps):=I.hok T _ hT
 have hgs:s.heap.Ns mainGlobals X.mg:=I.ok.mod.glob.keeps I.bk
 obtain⟨bm,ob,b1,b2,b3,b4,b5,b6⟩:=B
 have b3':=I.bk _ _ b3
 have hbP:bm≠T:=λz=>by rw[z,hP]at b3';cases b3';cases b4
 have hbG:bm≠mainGlobals:=λz=>by
  obtain⟨o,es,ep,e,hd,_⟩:=hgs
  rw[z,e]at b3';cases b3';rw[hd]at b6;cases b6
 refine kla_eval hdef (kla_makeFunctionHit (clos:=clos) hcl I.ok.glob hgs hcode (codeHd_of_K I.kIn hcd) hP ht hnf ⟨bm,ob,b1,b2,hbG,hbP,b3',b4,b5,b6⟩ λctv h' tk hx sz=>?_)
 have trk:∀b u,s.heap.get? b=some u→∀o,(h'.push o).get? b=some u:=λb u e o=>kE _ (hx b u e)
 have nF:H h'.objs.size=none:=I.hok.fresh sz
 refine⟨.ref h'.objs.size,_,?_,rfl,q _ ctv nF⟩
 refine I.un (t':=tk) ⟨λb o e n _ _=>trk b o e _,λb o e n _ _=>⟨o.slots,trk b o e _⟩,λb o e n _=>?_,λb o e _=>⟨o,trk b o e _⟩,λb xs e=>?_,λb o u e=>?_,λb qs e=>?_⟩ λb u e=>?_
 ·rw[qC (mW (mY (kX e) sz))]
  exact n
 ·rw[qC (qF e nF)];exact e
 ·rw[qC (qF e nF)];exact e
 ·exact⟨#[],by rw[qC (qF e nF),e];simp⟩
 ·by_cases z3:b=h'.objs.size
  ·subst z3
   rw[qI]at e;cases e
   exact qEK (mK _ rfl)
  ·rw[qC z3]at e
   refine(I.hok b u e).stay (λd v hd r=>trk d v r _) (λd r=>?_) λd xs r=>?_
   ·rw[qC (qF r nF)];exact r
   ·rw[qC (qF r nF)];exact r
noncomputable def qKH(T:Addr)(pos:Pos)(qual:Str)(params:Arguments)(body:Expr)(scope:Scope)(clos:List (Str×Addr))(pm:Value):TE:=λσ H Q=>∃ps,H T=some (.tbl ps)∧TriplesOk ps.toList∧
 ((codeAmong pos ps.toList=none∧∀(f c':Addr) (ctv:Value) (H':Hp),H f=none→H' f=some (fnO f (kla_fn "<lambda>" qual params body scope clos pm (.ref c') ctv))→H' c'=some (cdO c' qual)→H' T=some (.tbl (ps++#[rawInt pos.line,rawInt pos.col,.ref c']))→(∀b o,b≠T→H b=some o→H' b=some o)→Q (.ref f) H')∨
  ∃c',codeAmong pos ps.toList=some (.ref c')∧∀(f:Addr) (ctv:Value) (H':Hp),H f=none→H' f=some (fnO f (kla_fn "<lambda>" qual params body scope clos pm (.ref c') ctv))→Same H H'→Q (.ref f) H')
theorem qG9{X:Cx}{c T:Addr}{params:Arguments}{body:Expr}{scope:Scope}{pos:Pos}{clos:List (Str×Addr)}(hcode:X.env.code=.ref c)(hcd:codeHdIn X.K c T=true)(B:BmIn X.base X.mg)(hcl:closureFor scope X.env=pure clos)(hdef:defaultsOf params X.env=([],[])):
 PE X (.Lambda params body scope pos) (qKH T pos (X.env.qual++"<lambda>") params body scope clos ((X.mg "__name__").getD .none)):=λpins s σ H Q I ⟨ps,hT,ht,h⟩=>by
 rcases h with⟨hn,q⟩|⟨c',hn,q⟩
 ·exact qG6 hcode hcd B hcl hdef pins s σ H Q I ⟨ps,hT,ht,hn,λf c' ctv nf nc fc=>q f c' ctv _ nf qI (by rw[qC fc.symm];exact qI) (by rw[qC (qF hT nf),qC (qF hT nc)];exact qI) λb o nb e=>by rw[qC (qF e nf),qC (qF e nc),qC nb];exact e⟩
 ·exact qEM hcode hcd B hcl hdef pins s σ H Q I ⟨ps,c',hT,ht,hn,λf ctv nf=>q f ctv _ nf qI (Same.upd nf)⟩
theorem qGA{X:Cx}{CX:CXT}{k:Nat}{f:Addr}{fd:FuncData}{ps:List Str}{sp:Heap→Sp}{dvs:List V}{ds:List Value}{E:XK}{pins:List (Addr×Obj)}{σ:St}{H:Hp}{s:Shared}{Q:VK}{us:List Value}{vs:List V}(ix:List (Nat×Str))
 (hix:∀p∈ix,X.N[p.1]?=some p.2∧X.env.scope.names.lookup p.2=some .cell∧X.fn p.2=true)
 (F:∀base',(∀b o,X.base.get? b=some o→base'.get? b=some o)→q6D X.env.cells σ base' ix→FnOk X.prog X.w X.K X.mg base' CX k f fd ps (sp base')) (hr:Room k X.A) (hb:yG X.K fd ps ds) (hd:Vals dvs ds) (hx:q0Q CX X E)
 (I:Inv X pins σ H s) (r:Vals vs us) (h:∀base',(∀b o,X.base.get? b=some o→base'.get? b=some o)→q6D X.env.cells σ base' ix→sp base' (vs++dvs) H Q E):wpAny (model X.prog X.w) X.A (call (.ref f) us) (EP X pins σ Q) X.xe s:=by
 have r2:Vals (vs++dvs) (us++ds):=r.append hd
 obtain⟨e0,up,cel⟩:=I.env0C (ix.filterMap λp=>X.env.cells.lookup p.2) (λc hc=>by
  obtain⟨p,hp,e⟩:=wI.mp hc
  exact⟨p.2,(hix p hp).2.2,e⟩)
 have cv:q6D X.env.cells σ (hidT s.heap (vG X.base (ix.filterMap λp=>X.env.cells.lookup p.2))) ix:=λp hp v hv=>by
  obtain⟨h1,h2,h3⟩:=hix p hp
  obtain⟨m,_,hl⟩:=I.loc
  obtain⟨u,ru,lk⟩:=hl p.1 p.2 v h1 hv (.inr (.inl h2))
  rcases lk with⟨z,_⟩|⟨_,c,hc,o,ho,hd⟩
  ·have z:X.env.scope.names.lookup p.2=some .local:=z
   rw[h2]at z;cases z
  ·exact⟨c,u,hc,ru,o,cel c (wI.mpr ⟨p,hp,hc⟩) o ho,hd⟩
 have q:=h _ up cv
 have hl:(us++ds).length=ps.length:=by rw[←r2.length];exact(F _ up cv).len _ _ _ _ q
 refine cY (cP ((F _ up cv).run X.A X.stack s H ⟨us,[]⟩ (us++ds) (vs++dvs) Q E hr e0 (hb s us I.kIn hl) r2 q) λr s' hq=>?_)
 cases r with
 |error e=>exact hx pins σ H s e s' I hq
 |ok fl=>
  cases fl with
  |ret u=>exact I.after hq
  |next=>exact False.elim hq
  |brk=>exact False.elim hq
  |cont=>exact False.elim hq
section
variable{X:Cx}{pins:List (Addr×Obj)}{σ:St}{H:Hp}{s:Shared}
theorem qCP{P:PySem.Fin→Shared→Prop}{EE:Value→Shared→Prop}{a f:Addr}{n:Nat}{vs:List Value}{us:List V}(I:Inv X pins σ H s)
 (ho:s.heap.get? a=some (seqObj "list" vs.toArray n)) (fa:FpOk X pins H a) (ha:X.s₀.heap.objs.size≤a) (rv:Vals us vs) (h64:us.length<64)
 (Pv:Nat→List V→Hp→Prop) (h0:Pv 0 [] H) (hs:∀i x zs H' pins' s' u,us[i]?=some x→RelV x u→Pv i zs H'→Inv { X with A:=X.A.in1.in1,xe:=λ_ _=>False } pins' σ H' s'→wpAny (model X.prog X.w) X.A.in1.in1 (call (.ref f) [u]) (EP { X with A:=X.A.in1.in1,xe:=λ_ _=>False } pins' σ (λz H''=>Pv (i+1) (zs++[z]) H'')) (λ_ _=>False) s')
 (hd:∀zs H',H' a=none→zs.length=us.length→Pv us.length zs H'→∃kk m,Paired (TupI X.K H') zs kk∧(∀k∈kk,k.length=m)∧0<m∧∀q:List Nat,q.Perm (List.range us.length)→(q.map λi=>kk.getD i []).Pairwise (λa b=>lx b a=false)→∀s',Inv X pins σ (upd H' a (.lst (q.map λi=>us.getD i .non))) s'→P (.done (.ret .none)) s'):
 wpAny (model X.prog X.w) X.A.in1.in1 (ksk_tree a (.ref f) false) P EE s:=by
 have hal:a<s.heap.objs.size:=kX ho
 have hl:=rv.length
 obtain⟨e1,g1⟩:∃e1,(s.heap.update a (Obj.mapSeq λ_=>(#[]:Array Value))).get? a=some (seqObj "list" #[] e1):=⟨_,get?_update_seq ho λ_=>#[]⟩
 unfold ksk_tree
 refine kD (listItems_at ho rfl (kD (wO ho rfl (kD (seqEpoch_at g1 rfl ?_)) (by rw[mF,gI];omega) (m8 _))))
 refine kD (wpAny_newTuple (kD (pB (dB ?_) (m8 _))) (by show vs.length≤_;rw[gI];omega))
 have hks:((s.heap.update a (Obj.mapSeq λ_=>(#[]:Array Value))).push (seqObj "tuple" vs.toArray 0)).objs.size=s.heap.objs.size+1:=by rw[size_push',Heap.size_update]
 obtain⟨kS,eks⟩:∃kS:Addr,kS=((s.heap.update a (Obj.mapSeq λ_=>(#[]:Array Value))).push (seqObj "tuple" vs.toArray 0)).objs.size:=⟨_,rfl⟩
 have ksz:s.heap.objs.size≤kS:=by rw[eks,hks];exact dU _
 have ne:kS≠a:=rX (mY hal ksz)
 show wpAny (model X.prog X.w) X.A.in1.in1 (ksk_rest a (.ref f) false vs.toArray e1 (.ref ((s.heap.update a (Obj.mapSeq λ_=>(#[]:Array Value))).push (seqObj "tuple" vs.toArray 0)).objs.size)) P EE { s with heap:=((s.heap.update a (Obj.mapSeq λ_=>(#[]:Array Value))).push (seqObj "tuple" vs.toArray 0)).push (seqObj "list" #[] 0) }
 rw[←eks]
 have gk0:(((s.heap.update a (Obj.mapSeq λ_=>(#[]:Array Value))).push (seqObj "tuple" vs.toArray 0)).push (seqObj "list" #[] 0)).get? kS=some (seqObj "list" #[] 0):=by rw[eks];exact mK _ rfl
 have ga0:=kE (seqObj "list" #[] 0) (kE (seqObj "tuple" vs.toArray 0) g1)
 have I0:Inv X pins σ H { s with heap:=((s.heap.update a (Obj.mapSeq λ_=>(#[]:Array Value))).push (seqObj "tuple" vs.toArray 0)).push (seqObj "list" #[] 0),toks:=s.toks }:=
  I.turnedN (fp:=[a]) (λb o hb' e=>kE _ (kE _ ((mZ _ _ (λz=>hb' (kI.mpr z.symm))).trans e))) (λb hb'=>by rw[kI.mp hb'];exact fa)
 have fk0:FpOk X pins H kS:=I.fpOk ksz (I.hok.fresh ksz)
 have fp:∀{H':Hp} {b:Addr},FpOk X pins H b→H' b=none→FpOk X pins H' b:=λf e=>⟨e,f.2⟩
 unfold ksk_rest
 refine kD (wpAny_rule ?_)
 first
  |rw[List.forIn_toArray]
  |(rw[←Array.forIn_toList];simp only[List.toList_toArray])
 refine kD (ksk_fold (I:=λi s'=>∃H' zs ks e,Inv X pins σ H' s'∧s'.heap.get? a=some (seqObj "list" #[] e1)∧s'.heap.get? kS=some (seqObj "list" (List.toArray ks) e)∧Vals zs ks∧zs.length=i∧Pv i zs H'∧H' a=none∧H' kS=none) vs 0 _ ⟨H,[],[],0,I0,ga0,gk0,.nil,rfl,h0,fa.1,fk0.1⟩ (λj x s' hx hJ=>?_) λs' hJ=>?_)
 ·obtain⟨H',zs,ks,e,I1,ga,gk,rz,lz,pv,na,nk⟩:=hJ
  rw[sP]at lz pv ⊢
  have hj:j<vs.length:=(kC.mp hx).1
  obtain⟨y,ey,ry⟩:=rv.atN (j:=j) hj
  obtain rfl:vs[j]=x:=(kC.mp hx).2
  have I2:=(I1.near (A':=X.A.in1.in1) rfl rfl λ_ _=>False).pinned (fp:=[a,kS]) (λb hb'=>by
   simp only[kL,rG,sD]at hb'
   rcases hb' with rfl|rfl
   ·exact fp fa na
   ·exact fp fk0 nk) (λb hb'=>by
   simp only[kL,rG,sD]at hb'
   rcases hb' with rfl|rfl
   ·exact⟨_,ga,λv z=>by cases z⟩
   ·exact⟨_,gk,λv z=>by cases z⟩)
  refine kD (wpAny_attempt (dC (hs j y zs H' _ _ _ ey ry pv I2) (λu s'' hq=>?_) λ_ _ z=>z.elim))
  obtain⟨z,H'',I3,ru,q⟩:=hq
  have pa:=I3.pin (a,seqObj "list" #[] e1) (mJ _ (mJ _ (yY (by simp) ga)))
  have pk:=I3.pin (kS,seqObj "list" (List.toArray ks) e) (mJ _ (mJ _ (yY (by simp) gk)))
  have lk:=rz.length
  have ea:(List.toArray ks).push u=List.toArray (ks++[u]):=by simp
  obtain⟨c2,g2⟩:∃c2,(s''.heap.update kS (Obj.mapSeq (·.push u))).get? kS=some (seqObj "list" (List.toArray (ks++[u])) c2):=⟨_,by rw[←ea];exact get?_update_seq pk.1 (·.push u)⟩
  try dsimp only
  refine kD (wO pk.1 rfl ?_ (by rw[mF,gI];omega) (mI (cN (Array.size_push ..)) (by rw[mF,gI];omega)))
  have I4:Inv X pins σ H'' s'':=(I3.unpinned).near (A':=X.A) rfl rfl X.xe
  have I5:Inv X pins σ H'' { s'' with heap:=s''.heap.update kS (Obj.mapSeq (·.push u)),toks:=s''.toks }:=
   I4.turnedN (fp:=[kS]) (λb o hb' e=>(mZ _ _ (λz=>hb' (kI.mpr z.symm))).trans e) (λb hb'=>by rw[kI.mp hb'];exact fp fk0 pk.2.1)
  exact kZ ⟨rfl,H'',zs++[z],ks++[u],c2,I5,(mZ _ _ ne).trans pa.1,g2,rz.append (.cons ru .nil),by rw[mC,lz];rfl,q,pa.2.1,pk.2.1⟩
 ·obtain⟨H',zs,ks,e,I1,ga,gk,rz,lz,pv,na,nk⟩:=hJ
  rw[sP,←hl]at lz pv
  obtain⟨kk,m,hti,hw,hm,fin⟩:=hd zs H' na lz pv
  try dsimp only
  refine kD (listItems_at gk rfl ?_)
  exact qG2 I1 (fp fa na) (fp fk0 nk) ha ne ga gk rz rv lz h64 hti hw hm fin
end
noncomputable def oneQ(R:V→Hp→Prop):List V→Hp→Prop
 | [v],H=>R v H
 |_,_=>False
theorem qGB{R:V→Hp→Prop}:∀{xs:List V} {H:Hp},oneQ R xs H→∃v,xs=[v]∧R v H
 | [v],_,h=>⟨v,rfl,h⟩
 | [],_,h=>h.elim
 |_::_::_,_,h=>h.elim
noncomputable def tSL(P:Program)(w:World)(K:PySem.W.Frag)(mg:Str→Option Value)(base:Heap)(cells:List (Str×Addr))(ix:List (Nat×Str))(k:Nat)(x:Str)(tl:TE)(ta:TA):TE:=λσ H Q=>ta σ H λvs H1=>tl σ H1 λfv H2=>∃(f:Addr) (fd:FuncData) (sp:Heap→Sp),fv=.ref f∧
 (∀base',(∀b o,base.get? b=some o→base'.get? b=some o)→q6D cells σ base' ix→FnOk P w K mg base' CX0 k f fd [x] (sp base'))∧yG K fd [x] []∧
 ∃(l:Addr) (us:List V) (Pv:Nat→List V→Hp→Prop),vs=[.ref l]∧SqL K H2 l us∧us.length<64∧Pv 0 [] H2∧(∀base' i x zs H',q6D cells σ base' ix→us[i]?=some x→Pv i zs H'→sp base' [x] H' (λz H''=>Pv (i+1) (zs++[z]) H'') E0)∧
 ∀zs H',zs.length=us.length→Pv us.length zs H'→∃kk m,Paired (TupI K H') zs kk∧(∀k∈kk,k.length=m)∧0<m∧∀q:List Nat,q.Perm (List.range us.length)→(q.map λi=>kk.getD i []).Pairwise (λa b=>lx b a=false)→NewO H' (.lst (q.map λi=>us.getD i .non)) Q
theorem qAM{X:Cx}{k:Nat}{x:Str}{e le:Expr}{tl:TE}{ta:TA}{p kp pos:Pos}(ix:List (Nat×Str))(hix:∀p∈ix,X.N[p.1]?=some p.2∧X.env.scope.names.lookup p.2=some .cell∧X.fn p.2=true)(hr:Room (k+2) X.A)(hg:Gl X "sorted")(hm:X.mg "sorted"=none)(hl:PE X le tl)(ha:PA X [e] ta)
 (he:starEach [e] X.env=[(false,eval e X.env)]:=by rfl) (hse:starEach ([]:List Expr) X.env=[]:=by rfl):
 PE X (.Call (.Name "sorted" p) [e] [⟨some "key",le,kp⟩] pos) (tSL X.prog X.w X.K X.mg X.base X.env.cells ix k x tl ta):=by
 intro pins s σ H Q I h
 refine rJ (q4A I hg hm (u:=.builtin "sorted") (by kernel_rfl) ?_ (by decide) (by decide))
 refine callWith_kw (thn (ha pos pins s σ H _ I h) λus s1 ⟨vs,H1,I1,r1,q1⟩=>?_) (by rw[he,hse];rfl) (by rw[he];rfl)
 have pk:PK X [⟨some "key",le,kp⟩] (q93 tl tNil):=qFF hl qHW
 refine thn (pk pos pins s1 σ H1 (oneQ _) I1 q1) λws s2 hZ=>?_
 obtain⟨xs,H2,I2,r2,q2⟩:=hZ
 obtain⟨v,rfl,f,fd,sp,rfl,F,hb,q2⟩:=qGB q2
 obtain⟨w,rfl,rw⟩:=q3L r2
 obtain rfl:w=Value.ref f:=rw
 obtain⟨l,us',Pv,ev,hq,h64,p0,hs,hd⟩:=q2
 subst ev
 obtain⟨u,rfl,ru⟩:=q3L r1
 obtain rfl:u=Value.ref l:=ru
 obtain⟨its,rv,pl,hz⟩:=I2.list hq
 have hlen:=rv.length
 show wpAny (model X.prog X.w) X.A (call (.builtin "sorted") [.ref l] [(Str.ofString "key",.ref f)]) _ _ _
 refine call_function_entry_kw kind_sorted plain_sorted entry_sorted (ksk_s1 _ _) ?_
 unfold Builtin.«sorted»
 refine kD (m:=checkCount "sorted" 1 1 _) (kZ (kD (collect_list pl.isList (kD (pB ?_ (by rw[gI];show its.length≤_;omega))))))
 have hsz:((s2.heap.push (seqObj "list" #[] 0)).update s2.heap.objs.size (Obj.mapSeq (· ++its.toArray))).objs.size=s2.heap.objs.size+1:=by
  rw[Heap.size_update,size_push']
 have g:(((s2.heap.push (seqObj "list" #[] 0)).update s2.heap.objs.size (Obj.mapSeq (· ++its.toArray))).push (seqObj "list" its.toArray 0)).get? (s2.heap.objs.size+1)=some (seqObj "list" its.toArray 0):=by
  rw[←hsz];exact mK _ rfl
 show wpAny _ _ _ _ _ { s2 with heap:=((s2.heap.push (seqObj "list" #[] 0)).update s2.heap.objs.size (Obj.mapSeq (· ++its.toArray))).push (seqObj "list" its.toArray 0) }
 rw[hsz]
 have I3:Inv X pins σ H2 { s2 with heap:=((s2.heap.push (seqObj "list" #[] 0)).update s2.heap.objs.size (Obj.mapSeq (· ++its.toArray))).push (seqObj "list" its.toArray 0),toks:=s2.toks }:=
  I2.kept (t':=s2.toks) λb o e=>kE _ ((mZ _ _ (rX (kX e))).trans (kE _ e))
 refine kD (dB (wpAny_call_entry_kw slot_list_sort ⟨_,g,rfl⟩ entry_list_sort ?_ (ksk_l1 _ _)))
 rw[ksk_t1]
 have fr:s2.heap.objs.size≤s2.heap.objs.size+1:=dU _
 refine qCP I3 g (I2.fpOk fr (I2.hok.fresh fr)) (mI I2.sz fr) rv h64 Pv p0 (λi x zs H' pins' s' u hx rx pv I'=>qGA (X:={ X with A:=X.A.in1.in1,xe:=λ_ _=>False }) (dvs:=[]) (ds:=[]) (E:=E0) ix hix F hr.in1.in1 hb .nil qK I' (.cons rx .nil) (λbase' up cv=>hs base' i x zs H' cv hx pv)) λzs H' na lz pv=>?_
 obtain⟨kk,m,a1,a2,a3,a4⟩:=hd zs H' lz pv
 refine⟨kk,m,a1,a2,a3,λq b1 b2 s' I'=>⟨_,rfl,kZ ⟨_,rfl,.ref _,_,I',rfl,(a4 q b1 b2).at _ na⟩⟩⟩
end L2
namespace W1
open PySem L2
structure QM where
 P:Nat
 B:Nat
 nx:Int
 V:Mp
 lv:List Int
 fi:List Int
 bo:List Int
namespace QM
structure Ok(m:QM):Prop where
 p1:1≤m.P
 p2:m.P≤16
 b2:m.B≤16
 ll:m.lv.length=m.B
 lf:m.fi.length=m.B
 lo:m.bo.length=m.B
 nd:(m.V.map (·.1)).Nodup
 nm:∀q∈m.V,0≤q.1∧q.1≤64
 blk:∀q∈m.V,∃b:Nat,b<m.B∧q.2 / (m.P:Int)=(b:Int)
 wr:∀b,b<m.B→∃f:Nat,m.fi.getD b 0=(f:Int)∧f≤m.P
variable{m:QM}
theorem Ok.lenV(h:m.Ok):m.V.length≤65:=by
 have:=qHD (l:=m.V.map (·.1)) (m:=(List.range 65).map λi:Nat=>(i:Int)) h.nd λx hx=>by
  obtain⟨q,hq,rfl⟩:=kO.mp hx
  have:=h.nm q hq
  exact kO.mpr ⟨q.1.toNat,mP.mpr (by omega),by omega⟩
 rw[hI,hI,mH]at this
 exact this
noncomputable def forget(m:QM)(n:Int):QM:={ m with V:=jI m.V n,lv:=BM.lvF m.P m.V m.lv n }
theorem find_V{n:Int}:(∃p,(n,p)∈m.V∧m.V.find? (λq=>decide (q.1=n))=some (n,p))∨((∀q∈m.V,q.1≠n)∧m.V.find? (λq=>decide (q.1=n))=none):=by
 cases e:m.V.find? (λq=>decide (q.1=n))with
 |none=>
  refine .inr ⟨λq hq z=>?_,rfl⟩
  have:=rL.mp e q hq
  exact this (hC z)
 |some q=>
  have h1:q.1=n:=by
   have:=dJ e
   simpa using this
  have h2:=dL e
  refine .inl ⟨q.2,by rw[←h1];exact h2,by rw[←h1]⟩
theorem lvF_len{n:Int}:(BM.lvF m.P m.V m.lv n).length=m.lv.length:=by
 unfold BM.lvF
 split
 ·rw[gF]
 ·rfl
theorem Ok.forget(h:m.Ok)(n:Int):(m.forget n).Ok:=
 { h with ll:=by show(BM.lvF m.P m.V m.lv n).length=m.B;rw[lvF_len];exact h.ll,nd:=q6C h.nd,nm:=λq hq=>h.nm q (j9.mp hq).1,blk:=λq hq=>h.blk q (j9.mp hq).1 }
noncomputable def put(m:QM)(b f:Nat)(n:Int):QM:=
 { m with V:=jI m.V n++[(n,((b*m.P+f:Nat):Int))],lv:=(BM.lvF m.P m.V m.lv n).set b ((BM.lvF m.P m.V m.lv n).getD b 0+1),bo:=if m.fi.getD b 0=0 then m.bo.set b m.nx else m.bo,fi:=m.fi.set b (m.fi.getD b 0+1),nx:=m.nx+1 }
theorem Ok.put(h:m.Ok){b f:Nat}{n:Int}(hb:b<m.B)(hf:f<m.P)(ef:m.fi.getD b 0=(f:Int))(n0:0≤n)(n1:n≤64):(m.put b f n).Ok where
 p1:=h.p1
 p2:=h.p2
 b2:=h.b2
 ll:=by show(List.set _ _ _).length=m.B;rw[gF,lvF_len];exact h.ll
 lf:=by show(List.set _ _ _).length=m.B;rw[gF];exact h.lf
 lo:=by
  show(if m.fi.getD b 0=0 then m.bo.set b m.nx else m.bo).length=m.B
  split
  ·rw[gF];exact h.lo
  ·exact h.lo
 nd:=by
  show((jI m.V n++[(n,((b*m.P+f:Nat):Int))]).map (·.1)).Nodup
  rw[mV]
  refine rZ.mpr ⟨q6C h.nd,by simp,λa ha c hc=>?_⟩
  obtain⟨q,hq,rfl⟩:=kO.mp ha
  have hc:c=n:=by simpa using hc
  rw[hc]
  exact(j9.mp hq).2
 nm:=λq hq=>by
  rcases gM.mp hq with hq|hq
  ·exact h.nm q (j9.mp hq).1
  ·rw[kI.mp hq];exact⟨n0,n1⟩
 blk:=λq hq=>by
  rcases gM.mp hq with hq|hq
  ·exact h.blk q (j9.mp hq).1
  ·rw[kI.mp hq]
   refine⟨b,hb,?_⟩
   show((b*m.P+f:Nat):Int) / (m.P:Int)=_
   rw[←dQ,yE hf]
 wr:=λc hc=>by
  show ∃g:Nat,(m.fi.set b (m.fi.getD b 0+1)).getD c 0=(g:Int)∧g≤m.P
  rw[jA]
  split
  ·exact⟨f+1,by rw[ef];rfl,hf⟩
  ·exact h.wr c hc
end QM
noncomputable def vn(b:Nat):V:=.int (b:Int)
noncomputable def uE(B:Nat)(br:List Bool):List Nat:=(List.range B).filter λb=>!(br.getD b false)
noncomputable def yR(B:Nat)(br:List Bool)(fi:List Int):List Nat:=(uE B br).filter λb=>decide (fi.getD b 0=0)
noncomputable def keyN(cl:List Int)(b:Nat):List Int:=[cl.getD b 0,(b:Int)]
structure FreeIs(B:Nat)(br:List Bool)(cl fi:List Int)(l:List Nat):Prop where
 pm:l.Perm (yR B br fi)
 so:(l.map (keyN cl)).Pairwise λa b=>lx b a=false
theorem qGC{cl:List Int}{a b:Nat}(h:keyN cl a=keyN cl b):a=b:=by
 unfold keyN at h
 injection h with _ h
 injection h with h _
 omega
theorem q0C{B:Nat}{br:List Bool}{b:Nat}:b∈uE B br↔b<B∧br.getD b false=false:=by
 unfold uE
 rw[mM,mP,dZ]
theorem q7Q{B:Nat}{br:List Bool}{fi:List Int}{b:Nat}:b∈yR B br fi↔(b<B∧br.getD b false=false)∧fi.getD b 0=0:=by
 unfold yR
 rw[mM,q0C,kU]
theorem q1L{B:Nat}{br:List Bool}:(uE B br).length≤B:=mI (mD _ _) (by rw[mH];exact kN _)
theorem qCQ{B:Nat}{br:List Bool}{fi:List Int}:(yR B br fi).length≤B:=mI (mD _ _) q1L
theorem FreeIs.mem{B:Nat}{br:List Bool}{cl fi:List Int}{l:List Nat}(h:FreeIs B br cl fi l){b:Nat}(hb:b∈l):b<B∧br.getD b false=false∧fi.getD b 0=0:=by
 have:=q7Q.mp (h.pm.mem_iff.mp hb)
 exact⟨this.1.1,this.1.2,this.2⟩
noncomputable def jJ(P:Nat)(fi:List Int)(b:Nat):Bool:=decide (0<fi.getD b 0)&&decide (fi.getD b 0<(P:Int))
noncomputable def jG(B P:Nat)(br:List Bool)(fi:List Int):Option Nat:=(uE B br).find? (jJ P fi)
theorem q0T{B P:Nat}{br:List Bool}{fi:List Int}{b:Nat}(h:jG B P br fi=some b):b<B∧br.getD b false=false∧0<fi.getD b 0∧fi.getD b 0<(P:Int):=by
 have h1:=q0C.mp (dL h)
 have h2:=dJ h
 unfold jJ at h2
 rw[mO,kU,kU]at h2
 exact⟨h1.1,h1.2,h2.1,h2.2⟩
noncomputable def q19(B P:Nat)(br:List Bool)(fi:List Int)(l:List Nat):Option Nat:=match jG B P br fi with
 |some b=>some b
 |none=>l.head?
theorem q9M{B P:Nat}{br:List Bool}{cl fi:List Int}{l:List Nat}(hl:FreeIs B br cl fi l)(hP:1≤P){b:Nat}(h:q19 B P br fi l=some b):b<B∧br.getD b false=false∧0≤fi.getD b 0∧fi.getD b 0<(P:Int):=by
 unfold q19 at h
 split at h
 ·rename_i b' e
  cases h
  have:=q0T e
  exact⟨this.1,this.2.1,by omega,this.2.2.2⟩
 ·cases l with
  |nil=>cases h
  |cons c r=>
   cases h
   have:=hl.mem kW
   exact⟨this.1,this.2.1,by omega,by omega⟩
noncomputable def pgV(P:Nat)(fi:List Int):Option Nat→V
 |none=>.non
 |some b=>.int ((b:Int)*(P:Int)+fi.getD b 0)
noncomputable def oV:Option Nat→V
 |none=>.non
 |some b=>.int (b:Int)
theorem q6E{α β:Type}{L:List α}{f:α→β}{d:β}{e:α}:∀{q:List Nat},(∀i∈q,i<L.length)→(q.map λi=>(L.map f).getD i d)=(q.map λi=>L.getD i e).map f
 | [],_=>rfl
 |i::q,h=>by
  have hi:=h i kW
  rw[mG,mG,mG,q6E (q:=q) λj hj=>h j (hU _ hj)]
  congr 1
  rw[kJ,kJ,mB,hV hi]
  rfl
theorem qAN{α:Type}{L:List α}{e:α}{q:List Nat}(h:q.Perm (List.range L.length)):(q.map λi=>L.getD i e).Perm L:=by
 have:=h.map λi=>L.getD i e
 refine this.trans ?_
 have eq:(List.range L.length).map (λi=>L.getD i e)=L:=by
  refine cA (by simp) λi h1 h2=>?_
  rw[c8,cJ,kJ,hV h2]
  rfl
 rw[eq]
theorem qGD{B:Nat}{br:List Bool}{cl fi:List Int}{q:List Nat}(h:q.Perm (List.range (yR B br fi).length))(so:(q.map λi=>((yR B br fi).map (keyN cl)).getD i []).Pairwise λa b=>lx b a=false):FreeIs B br cl fi (q.map λi=>(yR B br fi).getD i 0):=by
 have hin:∀i∈q,i<(yR B br fi).length:=λi hi=>mP.mp (h.mem_iff.mp hi)
 refine⟨qAN h,?_⟩
 rw[q6E (e:=0) hin]at so
 exact so
theorem qCR{α β:Type}{L:List α}{f:α→β}{i:Nat}{x:α}(h:L[i]?=some x):(L.take (i+1)).map f=(L.take i).map f++[f x]:=by
 have hi:=(kC.mp h).1
 obtain rfl:L[i]=x:=(kC.mp h).2
 rw[←mE hi,mV]
 rfl
theorem qGE{a b:List Int}(h:lx a b=true):lx b a=false:=by
 cases z:lx b a with
 |false=>rfl
 |true=>
  have:=q1J a b a h z
  rw[q68]at this
  cases this
theorem qHF{a b c:List Int}(h1:lx b a=false)(h2:lx c b=false):lx c a=false:=by
 cases z:lx c a with
 |false=>rfl
 |true=>
  cases y:lx a b with
  |true=>
   have:=q1J c a b z y
   rw[h2]at this
   cases this
  |false=>
   have e:=q69 a b y h1
   rw[e]at z
   rw[h2]at z
   cases z
theorem FreeIs.ex(B:Nat)(br:List Bool)(cl fi:List Int):∃l,FreeIs B br cl fi l:=by
 refine⟨(yR B br fi).mergeSort λa b=>!(lx (keyN cl b) (keyN cl a)),List.mergeSort_perm _ _,?_⟩
 have:=List.pairwise_mergeSort (le:=λa b=>!(lx (keyN cl b) (keyN cl a))) (λa b c h1 h2=>by
  rw[dZ]at h1 h2 ⊢
  exact qHF h1 h2) (λa b=>by
  cases z:lx (keyN cl b) (keyN cl a)with
  |false=>rfl
  |true=>rw[qGE z];rfl) (yR B br fi)
 rw[g9]
 exact this.imp λh=>by
  rw[dZ]at h
  exact h
theorem rep8{α:Type}{n i:Nat}{y:α}:(List.replicate n y).getD i y=y:=by
 rw[kJ,dW]
 split<;>rfl
section
variable{v:V}{P:V→Prop}
theorem qGF{xs:List V}{j:Nat}(hv:P v)(h:∀i:Nat,P (xs.getD i .non))(i:Nat):P ((xs.set j v).getD i .non):=by
 rw[jA]
 split
 ·exact hv
 ·exact h i
theorem qBM{xs:List V}{j:Nat}(hn:P .non)(h:∀i:Nat,P (xs.getD i .non)):∀(n i:Nat),P ((clr xs j n).getD i .non)
 |0,i=>h i
 |n+1,i=>qGF (xs:=clr xs j n) hn (qBM hn h n) i
end
end W1
namespace W1
noncomputable def orB:List Nat→Nat→Nat
 | [],b=>b
 |s::r,b=>orB r (b|||2 ^ s)
end W1
namespace W1
open PySem L2
theorem jT{B:Nat}:uE B (List.replicate B false)=List.range B:=by
 unfold uE
 refine d7.mpr λb _=>?_
 rw[rep8]
 rfl
end W1
namespace L2
open PySem PySem.Spec PyProof.Rows
structure ClM(K:PySem.W.Frag)(W:Addr)(m:Str)(f:Addr):Prop where
 rd:PySem.W.readsIn K W (.type "type")=true
 fd:PySem.W.findCls K (.ref W) (.type "type") m=some (.val (.ref f))
 ga:PySem.W.specialIn K (.ref W) "__getattribute__"=some (some (.builtin "type.__getattribute__"))
 kp:PySem.W.keepIn K (.ref f)=true
theorem qGG{K:PySem.W.Frag}{a:Addr}{xs:List V}{D:Addr}{H2:Hp}{g:TG}{tc:TT}{te:TE}{σ0:St}{R:Hp→Prop}(Pv:Nat→Hp→Prop)(h0:Pv 0 H2)(hl:∀i H,Pv i H→SqT K H a xs)
 (hs:∀(i:Nat) x H,xs[i]?=some x→Pv i H→g x σ0 H λσ5 H5=>tc σ5 H5 λb H6=>if b=true then te σ5 H6 (λv H7=>∃vs,H7 D=some (.lst vs)∧vs.length<sizeLine∧Pv (i+1) (upd H7 D (.lst (vs++[v]))))else Pv (i+1) H6) (hd:∀H,Pv xs.length H→R H):
 ∃W:Nat→Nat→Hp→Prop,(∃m,W 0 m H2)∧∀i m H3,W i m H3→((Itt K a).stop i H3∧R H3)∨
  ((Itt K a).go i H3∧∃N:Hp→Prop,(∀H',N H'→∃m',m'<m∧W (i+1) m' H')∧∀x H4,(Itt K a).yld i H3 x H4→g x σ0 H4 λσ5 H5=>tc σ5 H5 λb H6=>
   if b=true then te σ5 H6 (λv H7=>∃vs,H7 D=some (.lst vs)∧vs.length<sizeLine∧N (upd H7 D (.lst (vs++[v]))))else N H6):=by
 refine⟨λi m H=>m=xs.length-i∧i≤xs.length∧Pv i H,⟨xs.length,by simp,m8 _,h0⟩,?_⟩
 rintro i m H ⟨rfl,hi,p⟩
 have hq:=hl i H p
 by_cases hlt:i<xs.length
 ·have e1:xs[i]?=some xs[i]:=hV hlt
  refine .inr ⟨⟨xs,_,hq,e1⟩,Pv (i+1),λH' z=>⟨xs.length-(i+1),by omega,rfl,by omega,z⟩,?_⟩
  rintro x H4 ⟨rfl,hx⟩
  exact hs i x _ (hx xs hq) p
 ·obtain rfl:i=xs.length:=by omega
  exact .inl ⟨⟨xs,hq,kN _⟩,hd _ p⟩
end L2
namespace W1
open PySem L2
noncomputable def rdy(ie:Int)(l:List Nat)(p:Option Nat):Bool:=decide ((l.length:Int)-(1+ie)>0)||(decide ((l.length:Int)-(1+ie)=0)&&p.isSome)
noncomputable abbrev tyL(m:CM)(q:QM)(b:Nat):List V:=[.int (b:Int),.int (q.lv.getD b 0),.int (m.cl.getD b 0),.int (q.bo.getD b 0)]
noncomputable def spcN(ie:Int)(l:List Nat)(P:Nat)(fi:List Int)(p:Option Nat):Int:=if 1+ie≤(l.length:Int)then(P:Int)else match p with|none=>0|some b=>(P:Int)-fi.getD b 0
noncomputable def jX(B P:Nat)(br:List Bool)(fi:List Int):List Nat:=(uE B br).filter λb=>decide (fi.getD b 0=(P:Int))
noncomputable def optN(ie:Int)(m:CM)(q:QM)(l:List Nat):List Nat:=((jX q.B q.P m.br q.fi).filter λb=>decide (q.lv.getD b 0≤spcN ie l q.P q.fi (jG q.B q.P m.br q.fi))).filter λb=>decide (q.lv.getD b 0<(q.P:Int))
noncomputable def qEN(q:QM)(r:Int×Nat×Int):QM:={ q with nx:=r.1 }.put (r.2.1 / q.P) (r.2.1%q.P) r.2.2
structure Fits(q:QM)(r:Int×Nat×Int):Prop where
 b:r.2.1 / q.P<q.B
 f:q.fi.getD (r.2.1 / q.P) 0=((r.2.1%q.P:Nat):Int)
 s:q.nx≤r.1
 n0:0≤r.2.2
 n1:r.2.2≤64
section
variable{q q0:QM}{r:Int×Nat×Int}{R:List (Int×Nat×Int)}
theorem Fits.ok(h:Fits q r)(ok:q.Ok):(qEN q r).Ok:=by
 have okn:QM.Ok { q with nx:=r.1 }:={ ok with }
 exact okn.put h.b (Nat.mod_lt _ ok.p1) h.f h.n0 h.n1
structure QS(q:QM):Prop where
 ok:q.Ok
 lv:∀b,b<q.B→q.lv.getD b 0=(cntB q.P q.V b:Nat)
theorem qBN(h:QS q)(n:Int){b:Nat}(hb:b<q.B):(BM.lvF q.P q.V q.lv n).getD b 0=(cntB q.P (jI q.V n) b:Nat):=by
 unfold BM.lvF
 rcases QM.find_V (m:=q) (n:=n)with⟨p,hp,e⟩|⟨no,e⟩
 ·rw[e]
  obtain⟨c,hc,ec⟩:=h.ok.blk _ hp
  have ec:p / (q.P:Int)=(c:Int):=ec
  have cd:=qEF (P:=q.P) (b:=b) h.ok.nd hp
  show(q.lv.set (p / (q.P:Int)).toNat (q.lv.getD (p / (q.P:Int)).toNat 0-1)).getD b 0=_
  rw[ec,kY,jA]
  rw[ec]at cd
  have e1:=h.lv b hb
  by_cases z:c=b
  ·subst z
   rw[kF rfl]at cd
   rw[kF ⟨rfl,by rw[h.ok.ll];exact hb⟩,e1]
   omega
  ·rw[kB (by omega)]at cd
   rw[kB (λy=>z y.1),e1]
   omega
 ·rw[e,h.lv b hb,show jI q.V n=q.V from d7.mpr λy hy=>hC (no y hy)]
theorem Fits.qs(h:Fits q r)(qs:QS q):QS (qEN q r):=by
 refine⟨h.ok qs.ok,λb hb=>?_⟩
 have hb:b<q.B:=hb
 have lc:=qBN qs r.2.2 hb
 show((BM.lvF q.P q.V q.lv r.2.2).set (r.2.1 / q.P) ((BM.lvF q.P q.V q.lv r.2.2).getD (r.2.1 / q.P) 0+1)).getD b 0=((cntB q.P (jI q.V r.2.2++[(r.2.2,((r.2.1 / q.P*q.P+r.2.1%q.P:Nat):Int))]) b:Nat):Int)
 have ep:r.2.1 / q.P*q.P+r.2.1%q.P=r.2.1:=by
  rw[wL]
  exact Nat.div_add_mod _ _
 have ea:cntB q.P (jI q.V r.2.2++[(r.2.2,(r.2.1:Int))]) b=cntB q.P (jI q.V r.2.2) b+(if r.2.1 / q.P=b then 1 else 0):=by
  unfold cntB
  rw[List.countP_append,List.countP_singleton,←dQ]
  by_cases z:r.2.1 / q.P=b
  ·rw[kF z,z,hC rfl]
   rfl
  ·rw[kB z,hG (by omega)]
   rfl
 rw[ep,ea,jA]
 by_cases z:r.2.1 / q.P=b
 ·rw[kF z,kF ⟨z,by rw[QM.lvF_len,qs.ok.ll];omega⟩,z,lc]
  omega
 ·rw[kB z,kB (λy=>z y.1),lc]
  omega
end
noncomputable def OneP(B P:Nat)(fi:List Int):Prop:=∀b c,b<B→c<B→jJ P fi b=true→jJ P fi c=true→b=c
noncomputable def clr1(P:Nat)(fi:List Int)(b:Nat):Nat:=P-(fi.getD b 0).toNat
noncomputable def rm(B P:Nat)(fi:List Int):Nat:=((List.range B).map (clr1 P fi)).sum
theorem qBO{L:List Nat}{f g:Nat→Nat}:(L.map λb=>f b+g b).sum=(L.map f).sum+(L.map g).sum:=by
 induction L with
 |nil=>rfl
 |cons x L ih=>
  rw[mG,mG,mG,dR,dR,dR,ih]
  omega
theorem q0D{L:List Nat}{f g:Nat→Nat}(h:∀b∈L,f b=g b):(L.map f).sum=(L.map g).sum:=by rw[dG h]
theorem qJ8{L:List Nat}{p:Nat→Bool}{c:Nat}:(L.map λb=>if p b=true then c else 0).sum=(L.filter p).length*c:=by
 induction L with
 |nil=>rw[rU];simp
 |cons x L ih=>
  rw[mG,dR,ih,mR]
  by_cases h:p x=true
  ·rw[kF h,kF h,mQ,wK]
   omega
  ·rw[kB h,kB h]
   omega
theorem qBP{L:List Nat}{p:Nat→Bool}{h:Nat→Nat}(nd:L.Nodup)(one:∀a∈L,∀b∈L,p a=true→p b=true→a=b):(L.map λb=>if p b=true then h b else 0).sum=match L.find? p with|some b=>h b|none=>0:=by
 induction L with
 |nil=>rfl
 |cons x L ih=>
  obtain⟨n1,n2⟩:=gB.mp nd
  rw[mG,dR,dH]
  by_cases hx:p x=true
  ·rw[hx,kF rfl]
   have:(L.map λb=>if p b=true then h b else 0).sum=(L.map λ_=>0).sum:=q0D λb hb=>by
    rw[kB]
    intro z
    exact n1 (by rw[one x (by simp) b (hU _ hb) hx z];exact hb)
   rw[this]
   have z:(L.map λ_=>0).sum=0:=by
    clear this ih nd one n1 n2
    induction L with
    |nil=>rfl
    |cons y L ih=>rw[mG,dR,ih]
   rw[z]
   rfl
  ·rw[kB hx]
   rw[Bool.not_eq_true]at hx
   rw[hx]
   rw[sP]
   exact ih n2 λa ha b hb=>one a (hU _ ha) b (hU _ hb)
section
variable{B P:Nat}{fi cl:List Int}{l:List Nat}
noncomputable abbrev noB(B:Nat):List Bool:=List.replicate B false
theorem qKI(on:OneP B P fi)(wr:∀b,b<B→∃f:Nat,fi.getD b 0=(f:Int)∧f≤P)(p1:1≤P)(hl:FreeIs B (noB B) cl fi l):
 rm B P fi=l.length*P+(match jG B P (noB B) fi with|some b=>P-(fi.getD b 0).toNat|none=>0):=by
 have h1:l.length=((List.range B).filter λb=>decide (fi.getD b 0=0)).length:=by
  rw[hl.pm.length_eq]
  unfold yR
  rw[jT]
 unfold rm jG
 rw[jT,h1,←qJ8,←qBP (p:=jJ P fi) (h:=λb=>P-(fi.getD b 0).toNat) sN (λa ha b hb=>on a b (mP.mp ha) (mP.mp hb)),←qBO]
 refine q0D λb hb=>?_
 obtain⟨f,ef,hf⟩:=wr b (mP.mp hb)
 unfold clr1 jJ
 rw[ef,kY]
 by_cases z:f=0
 ·subst z
  simp
 ·by_cases y:f<P
  ·rw[kB (by simp;omega),hC (by omega),hC (by omega)]
   simp
  ·rw[kB (by simp;omega),hG (show ¬(f:Int)<(P:Int) by omega)]
   simp
   omega
theorem q9N{b:Nat}(h:jG B P (noB B) fi=some b):b<B∧0<fi.getD b 0∧fi.getD b 0<(P:Int):=by
 have:=q0T h
 exact⟨this.1,this.2.2⟩
theorem q1M(on:OneP B P fi)(wr:∀b,b<B→∃f:Nat,fi.getD b 0=(f:Int)∧f≤P)(p1:1≤P)(hl:FreeIs B (noB B) cl fi l):
 (jG B P (noB B) fi=none∧rm B P fi=l.length*P)∨∃b e,jG B P (noB B) fi=some b∧1≤e∧e<P∧rm B P fi=l.length*P+e∧fi.getD b 0+(e:Int)=(P:Int):=by
 have h:=qKI on wr p1 hl
 cases hp:jG B P (noB B) fi with
 |none=>
  rw[hp]at h
  exact .inl ⟨rfl,h⟩
 |some b=>
  rw[hp]at h
  obtain⟨a,c,d⟩:=q9N hp
  exact .inr ⟨b,P-(fi.getD b 0).toNat,rfl,by omega,by omega,h,by omega⟩
theorem qGH{ie:Nat}(on:OneP B P fi)(wr:∀b,b<B→∃f:Nat,fi.getD b 0=(f:Int)∧f≤P)(p1:1≤P)(hl:FreeIs B (noB B) cl fi l):
 rdy (ie:Int) l (jG B P (noB B) fi)=decide ((1+ie)*P<rm B P fi):=by
 have key:∀e,e<P→((1+ie)*P<l.length*P+e↔(1+ie<l.length∨(1+ie=l.length∧0<e))):=λe he=>by
  rcases Nat.lt_trichotomy (1+ie) l.length with h|h|h
  ·have:=gN P (show 1+ie+1≤l.length from h)
   rw[wK]at this
   exact⟨λ_=>.inl h,λ_=>by omega⟩
  ·rw[h]
   exact⟨λz=>.inr ⟨rfl,by omega⟩,λz=>by omega⟩
  ·have:=gN P (show l.length+1≤1+ie from h)
   rw[wK]at this
   exact⟨λz=>by omega,λz=>by omega⟩
 unfold rdy
 rcases q1M on wr p1 hl with⟨h1,h2⟩|⟨b,e,h1,e1,e2,h2,_⟩
 ·rw[h1,h2]
  have k:=key 0 (by omega)
  rw[cT]at k
  by_cases z:(1+ie)*P<l.length*P
  ·rw[hC z,hC (show(l.length:Int)-(1+(ie:Int))>0 by rcases k.mp z with h|h<;>omega)]
   rfl
  ·rw[hG z,hG (show ¬(l.length:Int)-(1+(ie:Int))>0 by intro y;exact z (k.mpr (.inl (by omega))))]
   simp
 ·rw[h1,h2]
  have k:=key e e2
  by_cases z:(1+ie)*P<l.length*P+e
  ·rw[hC z]
   rcases k.mp z with h|h
   ·rw[hC (show(l.length:Int)-(1+(ie:Int))>0 by omega)]
    rfl
   ·rw[hC (show(l.length:Int)-(1+(ie:Int))=0 by omega)]
    simp
  ·rw[hG z,hG (show ¬(l.length:Int)-(1+(ie:Int))>0 by intro y;exact z (k.mpr (.inl (by omega)))),hG (show ¬(l.length:Int)-(1+(ie:Int))=0 by intro y;exact z (k.mpr (.inr ⟨by omega,by omega⟩)))]
   rfl
theorem q7R(on:OneP B P fi)(wr:∀b,b<B→∃f:Nat,fi.getD b 0=(f:Int)∧f≤P)(p1:1≤P)(hl:FreeIs B (noB B) cl fi l)(h:0<rm B P fi):∃b,q19 B P (noB B) fi l=some b∧((jG B P (noB B) fi=some b)∨(jG B P (noB B) fi=none∧fi.getD b 0=0)):=by
 unfold q19
 rcases q1M on wr p1 hl with⟨h1,h2⟩|⟨b,e,h1,_⟩
 ·rw[h1]
  cases l with
  |nil=>rw[h2]at h;simp at h
  |cons x l=>exact⟨x,rfl,.inr ⟨rfl,(hl.mem (by simp)).2.2⟩⟩
 ·rw[h1]
  exact⟨b,rfl,.inl rfl⟩
theorem qGI{L:List Nat}{f g:Nat→Nat}{b:Nat}(nd:L.Nodup)(hb:b∈L)(h:∀c∈L,c≠b→f c=g c):(L.map f).sum+g b=(L.map g).sum+f b:=by
 induction L with
 |nil=>exact absurd hb (by simp)
 |cons x L ih=>
  obtain⟨n1,n2⟩:=gB.mp nd
  rw[mG,mG,dR,dR]
  rcases kL.mp hb with rfl|hb
  ·rw[q0D (L:=L) (f:=f) (g:=g) λc hc=>h c (hU _ hc) λz=>n1 (by rw[←z];exact hc)]
   omega
  ·have:=ih n2 hb λc hc=>h c (hU _ hc)
   have e:=h x (by simp) λz=>n1 (by rw[z];exact hb)
   omega
theorem qEO{b:Nat}{v:Int}(hb:b<B)(lf:fi.length=B):rm B P (fi.set b v)+(P-(fi.getD b 0).toNat)=rm B P fi+(P-v.toNat):=by
 have:=qGI (L:=List.range B) (f:=clr1 P (fi.set b v)) (g:=clr1 P fi) (b:=b) sN (mP.mpr hb) λc _ hc=>by
  unfold clr1
  rw[jA,kB (λz=>hc z.1.symm)]
 unfold rm
 have e:clr1 P (fi.set b v) b=P-v.toNat:=by
  unfold clr1
  rw[jA,kF ⟨rfl,by omega⟩]
 rw[e]at this
 exact this
theorem qJ9{b f:Nat}(hb:b<B)(lf:fi.length=B)(ef:fi.getD b 0=(f:Int))(hf:f<P):rm B P (fi.set b (fi.getD b 0+1))+1=rm B P fi:=by
 have:=qEO (P:=P) (v:=fi.getD b 0+1) hb lf
 rw[ef]at this ⊢
 have e1:((f:Int)).toNat=f:=kY f
 have e2:((f:Int)+1).toNat=f+1:=by omega
 rw[e1,e2]at this
 omega
theorem qGJ{b:Nat}(hb:b<B)(lf:fi.length=B)(ef:fi.getD b 0=(P:Int)):rm B P (fi.set b 0)=rm B P fi+P:=by
 have:=qEO (P:=P) (v:=0) hb lf
 rw[ef]at this
 have e1:((P:Int)).toNat=P:=kY P
 rw[e1]at this
 simpa using this
theorem qGK{b:Nat}(on:OneP B P fi)(hb:b<B)(lf:fi.length=B)(h:(jG B P (noB B) fi=some b)∨(jG B P (noB B) fi=none∧fi.getD b 0=0)):OneP B P (fi.set b (fi.getD b 0+1)):=by
 have other:∀c,c<B→c≠b→jJ P (fi.set b (fi.getD b 0+1)) c=true→False:=λc hc nc hp=>by
  have hp':jJ P fi c=true:=by
   unfold jJ at hp ⊢
   rw[jA,kB (λz=>nc z.1.symm)]at hp
   exact hp
  rcases h with h|⟨h,_⟩
  ·have h2:jJ P fi b=true:=dJ h
   exact nc (on c b hc hb hp' h2)
  ·have:=rL.mp h c (by rw[jT];exact mP.mpr hc)
   exact this hp'
 intro c d hc hd pc pd
 by_cases e1:c=b
 ·by_cases e2:d=b
  ·rw[e1,e2]
  ·exact(other d hd e2 pd).elim
 ·exact(other c hc e1 pc).elim
theorem qEP{b:Nat}(on:OneP B P fi):OneP B P (fi.set b 0):=by
 have old:∀c,c<B→jJ P (fi.set b 0) c=true→jJ P fi c=true:=λc hc hp=>by
  unfold jJ at hp ⊢
  rw[jA]at hp
  split at hp
  ·simp at hp
  ·exact hp
 exact λc d hc hd pc pd=>on c d hc hd (old c hc pc) (old d hd pd)
theorem qGL{V:Mp}:∀{L:List Nat},L.Nodup→(L.map (cntB P V)).sum≤V.length:=by
 induction V with
 |nil=>
  intro L _
  have:(L.map (cntB P [])).sum=(L.map λ_=>0).sum:=q0D λb _=>rfl
  rw[this]
  clear this
  induction L with
  |nil=>exact kN _
  |cons x L ih=>
   rename_i h
   rw[mG,dR]
   have:=ih (gB.mp h).2
   omega
 |cons x V ih=>
  intro L nd
  have e:(L.map (cntB P (x::V))).sum=(L.map (cntB P V)).sum+(L.map λb=>if(λb:Nat=>decide (x.2 / (P:Int)=(b:Int))) b=true then 1 else 0).sum:=by
   rw[←qBO]
   refine q0D λb _=>?_
   unfold cntB
   rw[c6]
  rw[e,qBP (h:=λ_=>1) nd λa _ b _ ha hb=>by
   have h1:=mL ha
   have h2:=mL hb
   omega]
  have:=ih nd
  rw[mQ]
  cases L.find? (λb:Nat=>decide (x.2 / (P:Int)=(b:Int)))with
  |none=>show _ +0≤_;omega
  |some b=>show _ +1≤_;omega
theorem qEQ{L:List Nat}{f:Nat→Nat}{k:Nat}(h:∀b∈L,k≤f b):L.length*k≤(L.map f).sum:=by
 induction L with
 |nil=>simp
 |cons x L ih=>
  rw[mQ,mG,dR,wK]
  have:=ih λb hb=>h b (hU _ hb)
  have:=h x (by simp)
  omega
theorem q9O(on:OneP B P fi)(wr:∀b,b<B→∃f:Nat,fi.getD b 0=(f:Int)∧f≤P)(p1:1≤P)(hl:FreeIs B (noB B) cl fi l)(hp:jG B P (noB B) fi=none):(jX B P (noB B) fi).length+l.length=B:=by
 have h1:l.length=((List.range B).filter λb=>decide (fi.getD b 0=0)).length:=by
  rw[hl.pm.length_eq]
  unfold yR
  rw[jT]
 have h2:jX B P (noB B) fi=(List.range B).filter λb=>!decide (fi.getD b 0=0):=by
  unfold jX
  rw[jT]
  refine wT λb hb=>?_
  obtain⟨f,ef,hf⟩:=wr b (mP.mp hb)
  have np:=rL.mp hp b (by rw[jT];exact hb)
  unfold jJ at np
  rw[ef]at np ⊢
  by_cases z:f=0
  ·subst z
   rw[hC (show((0:Nat):Int)=0 from rfl),hG (by omega)]
   rfl
  ·rw[hG (show ¬(f:Int)=0 by omega)]
   by_cases y:f<P
   ·exact(np (by rw[hC (show(0:Int)<(f:Int) by omega),hC (show(f:Int)<(P:Int) by omega)];rfl)).elim
   ·exact hC (by omega)
 rw[h1,h2]
 have e:∀{L:List Nat} {p:Nat→Bool},(L.filter λb=>!p b).length+(L.filter p).length=L.length:=by
  intro L p
  induction L with
  |nil=>rfl
  |cons x L ih=>
   rw[mR,mR]
   cases p x<;>simp<;>omega
 have:=e (L:=List.range B) (p:=λb=>decide (fi.getD b 0=0))
 rw[mH]at this
 exact this
end
section
variable{q:QM}{m:CM}{l:List Nat}
theorem qER{b f:Nat}{n:Int}(hf:f<q.P):qEN q (q.nx,b*q.P+f,n)=q.put b f n:=by
 show({ q with nx:=q.nx }:QM).put ((b*q.P+f) / q.P) ((b*q.P+f)%q.P) n=_
 rw[yE hf,wL,pI,c9 hf]
theorem QS.put{b f:Nat}{n:Int}(h:QS q)(hb:b<q.B)(hf:f<q.P)(ef:q.fi.getD b 0=(f:Int))(n0:0≤n)(n1:n≤64):QS (q.put b f n):=by
 have ft:Fits q (q.nx,b*q.P+f,n):=by
  refine⟨?_,?_,gL _,n0,n1⟩
  ·show(b*q.P+f) / q.P<q.B
   rw[yE hf]
   exact hb
  ·show q.fi.getD ((b*q.P+f) / q.P) 0=(((b*q.P+f)%q.P:Nat):Int)
   rw[yE hf,ef,wL,pI,c9 hf]
 have:=ft.qs h
 rw[qER hf]at this
 exact this
theorem yW{b f:Nat}{n:Int}{x:Int×Int}:x∈(q.put b f n).V↔x=(n,((b*q.P+f:Nat):Int))∨(x∈q.V∧x.1≠n):=by
 show x∈jI q.V n++[(n,((b*q.P+f:Nat):Int))]↔_
 rw[gM,j9,kI]
 exact⟨λh=>h.symm,λh=>h.symm⟩
theorem QS.forget(h:QS q)(n:Int):QS (q.forget n):=⟨h.ok.forget n,λb hb=>qBN h n hb⟩
noncomputable def QM.emptied(q:QM)(b:Nat):QM:={ q with fi:=q.fi.set b 0,bo:=q.bo.set b 0 }
theorem QS.emptied(h:QS q)(b:Nat):QS (q.emptied b):=by
 refine⟨{ h.ok with lf:=by show(q.fi.set b 0).length=q.B;rw[gF];exact h.ok.lf,lo:=by show(q.bo.set b 0).length=q.B;rw[gF];exact h.ok.lo,wr:=λc hc=>?_ },h.lv⟩
 show ∃f:Nat,(q.fi.set b 0).getD c 0=(f:Int)∧f≤q.P
 rw[jA]
 split
 ·exact⟨0,rfl,m8 _⟩
 ·exact h.ok.wr c hc
noncomputable def tlOf(m:CM)(q:QM)(b:Nat):Tl:=⟨(b:Int),q.lv.getD b 0,m.cl.getD b 0,q.bo.getD b 0⟩
theorem qES{f:Tl→Int}{ts:List Tl}(h:ts≠[]):∃T∈ts,pk f ts=T.b∧∀o∈ts,f T≤f o:=by
 obtain⟨i,hi,hu,hn⟩:=q64 f ts h
 exact⟨ts[i],gJ hi,qHC hi hu hn,λo ho=>by have:=q5L.mp hu o ho;omega⟩
theorem qET{ie:Nat}(h:QS q)(on:OneP q.B q.P q.fi)(br:m.br=noB q.B)(hl:FreeIs q.B (noB q.B) m.cl q.fi l)(hr:rm q.B q.P q.fi=(1+ie)*q.P)(hv:q.V.length<(q.B-(1+ie))*q.P):
 optN (ie:Int) m q l≠[]∧∀b∈optN (ie:Int) m q l,(∀c∈optN (ie:Int) m q l,q.lv.getD b 0≤q.lv.getD c 0)→cntB q.P q.V b*(q.B-(1+ie))≤q.V.length:=by
 have p1:=h.ok.p1
 have ll:jG q.B q.P (noB q.B) q.fi=none∧l.length=1+ie:=by
  rcases q1M on h.ok.wr p1 hl with⟨h1,h2⟩|⟨b,e,h1,e1,e2,h2,_⟩
  ·refine⟨h1,?_⟩
   rw[hr]at h2
   exact(Nat.eq_of_mul_eq_mul_right (by omega) h2).symm
  ·exfalso
   rw[hr]at h2
   have k:(1+ie)*q.P%q.P=e:=by rw[h2,wL,pI,c9 e2]
   rw[Nat.mul_mod_left]at k
   omega
 have fl:=q9O on h.ok.wr p1 hl ll.1
 have flC:(jX q.B q.P (noB q.B) q.fi).length=q.B-(1+ie):=by omega
 have hsp:spcN (ie:Int) l q.P q.fi (jG q.B q.P (noB q.B) q.fi)=(q.P:Int):=by
  unfold spcN
  rw[kF (by omega)]
 have ndF:(jX q.B q.P (noB q.B) q.fi).Nodup:=by
  unfold jX
  rw[jT]
  exact gW _ sN
 have hB:∀b∈jX q.B q.P (noB q.B) q.fi,b<q.B:=λb hb=>by
  unfold jX at hb
  rw[jT]at hb
  exact mP.mp (mM.mp hb).1
 have memo:∀b,b∈optN (ie:Int) m q l↔b∈jX q.B q.P (noB q.B) q.fi∧cntB q.P q.V b<q.P:=λb=>by
  unfold optN
  rw[br,hsp,mM,mM,kU,kU]
  constructor
  ·rintro⟨⟨a,_⟩,c⟩
   rw[h.lv b (hB b a)]at c
   exact⟨a,by omega⟩
  ·rintro⟨a,c⟩
   rw[h.lv b (hB b a)]
   exact⟨⟨a,by omega⟩,by omega⟩
 have cs:=qGL (P:=q.P) (V:=q.V) ndF
 constructor
 ·intro z
  have:(jX q.B q.P (noB q.B) q.fi).length*q.P≤((jX q.B q.P (noB q.B) q.fi).map (cntB q.P q.V)).sum:=qEQ λb hb=>by
   refine dM λy=>?_
   have:b∈optN (ie:Int) m q l:=(memo b).mpr ⟨hb,by omega⟩
   rw[z]at this
   cases this
  rw[flC]at this
  omega
 ·intro b hb hmin
  obtain⟨bF,bP⟩:=(memo b).mp hb
  have:(jX q.B q.P (noB q.B) q.fi).length*cntB q.P q.V b≤((jX q.B q.P (noB q.B) q.fi).map (cntB q.P q.V)).sum:=qEQ λc hc=>by
   by_cases y:cntB q.P q.V c<q.P
   ·have:=hmin c ((memo c).mpr ⟨hc,y⟩)
    rw[h.lv b (hB b bF),h.lv c (hB c hc)]at this
    omega
   ·omega
  rw[flC,wL]at this
  omega
end
theorem qJA{V:Mp}(nd:(V.map (·.1)).Nodup):V.length≤((V.map (·.1)).filter λn=>decide (n≠64)).length+1:=by
 have e:∀{L:List Int},L.Nodup→L.length≤(L.filter λn=>decide (n≠64)).length+1:=by
  intro L
  induction L with
  |nil=>intro _;exact m8 _
  |cons y L ih=>
   intro nd
   obtain⟨n1,n2⟩:=gB.mp nd
   rw[mR]
   by_cases z:y=64
   ·rw[kB (by simp[z])]
    have:L.filter (λn=>decide (n≠64))=L:=d7.mpr λw hw=>hC λe=>n1 (by rw[z,←e];exact hw)
    rw[this]
    exact kN _
   ·rw[kF (hC z),mQ,mQ]
    have:=ih n2
    omega
 have:=e nd
 rw[hI]at this
 exact this
inductive Rl where
 |rk (f:Int→Int→Tl→Int)
 |win (m:Int)
 |fol (row:List Int) (u:Nat)
noncomputable def Rl.Ok:Rl→Prop
 | .win m=>1≤m
 |_=>True
noncomputable def leL(k:Tl→List Int)(a b:Tl):Bool:=!lx (k b) (k a)
noncomputable def winC(m:Int)(ts:List Tl):List Tl:=((ts.mergeSort (leL λT=>[T.bo,T.b])).take m.toNat).mergeSort (leL Tl.ns)
theorem qGM{m:Int}{ts:List Tl}:∀o∈winC m ts,o∈ts:=λo ho=>cK.mp (List.mem_of_mem_take (cK.mp ho))
theorem qGN{m:Int}{ts:List Tl}(m1:1≤m)(h:ts≠[]):winC m ts≠[]:=λz=>by
 have:=g0 List.length z
 unfold winC at this
 rw[List.length_mergeSort,gE,List.length_mergeSort,pG]at this
 have:=List.length_pos_iff.mpr h
 omega
noncomputable def fo(row:List Int)(u:Nat)(ts:List Tl):Int:=match row[u]? with
 |some n=>if n∈ts.map Tl.b then n else(ts.map Tl.b).headD 0
 |none=>(ts.map Tl.b).headD 0
noncomputable def Rl.ch:Rl→Int→Int→List Tl→Int×Rl
 | .rk f,pg,nw,ts=>(pk (f pg nw) ts,.rk f)
 | .win m,_,_,ts=>(pk Tl.lv (winC m ts),.win m)
 | .fol row u,_,_,ts=>(fo row u ts,.fol row (min (u+1) row.length))
noncomputable def minF(cl:List Int):List Nat→Option Nat
 | []=>none
 |b::L=>match minF cl L with
  |none=>some b
  |some c=>if cl.getD c 0<cl.getD b 0 then some c else some b
noncomputable def spF(q:QM)(cl:List Int):Nat:=match(List.range q.B).find? (jJ q.P q.fi)with
 |some b=>b
 |none=>(minF cl ((List.range q.B).filter λb=>decide (q.fi.getD b 0=0))).getD 0
section
variable{B P:Nat}{q:QM}{m:CM}{cl fi:List Int}{l:List Nat}
theorem q3W:∀{L:List Nat},L.Pairwise (· < ·)→(minF cl L=none→L=[])∧∀b,minF cl L=some b→b∈L∧∀c∈L,lx (keyN cl c) (keyN cl b)=false
 | [],_=>⟨λ_=>rfl,λb h=>by cases h⟩
 |a::L,pw=>by
  obtain⟨p1,p2⟩:=gR.mp pw
  obtain⟨h1,h2⟩:=q3W p2
  unfold minF
  cases z:minF cl L with
  |none=>
   have:=h1 z
   subst this
   refine⟨λy=>(by cases y),λb h=>?_⟩
   injection h with h
   subst h
   exact⟨by simp,λc hc=>by rw[kI.mp hc];exact q68 _⟩
  |some c=>
   obtain⟨g1,g2⟩:=h2 c z
   have hac:=p1 c g1
   dsimp only
   by_cases y:cl.getD c 0<cl.getD a 0
   ·rw[kF y]
    refine⟨λw=>(by cases w),λb h=>?_⟩
    injection h with h
    subst h
    refine⟨hU _ g1,λd hd=>?_⟩
    rcases kL.mp hd with e|e
    ·subst e
     unfold keyN lx
     rw[kB (by omega)]
     exact hG (by omega)
    ·exact g2 d e
   ·rw[kB y]
    refine⟨λw=>(by cases w),λb h=>?_⟩
    injection h with h
    subst h
    refine⟨by simp,λd hd=>?_⟩
    rcases kL.mp hd with e|e
    ·subst e
     exact q68 _
    ·refine qHF (b:=keyN cl c) ?_ (g2 d e)
     unfold keyN lx
     by_cases w:cl.getD c 0=cl.getD a 0
     ·rw[kF w]
      unfold lx
      rw[kB (by omega)]
      exact hG (by omega)
     ·rw[kB w]
      exact hG (by omega)
theorem qCS(hl:FreeIs B (noB B) cl fi l):l.head?=minF cl ((List.range B).filter λb=>decide (fi.getD b 0=0)):=by
 have pm:=hl.pm
 unfold yR at pm
 rw[jT]at pm
 have pw:((List.range B).filter λb=>decide (fi.getD b 0=0)).Pairwise (· < ·):=gW _ rB
 obtain⟨h1,h2⟩:=q3W (cl:=cl) pw
 cases l with
 |nil=>
  rw[List.nil_perm.mp pm]
  rfl
 |cons a r=>
  cases z:minF cl ((List.range B).filter λb=>decide (fi.getD b 0=0))with
  |none=>
   rw[h1 z]at pm
   have:=pm.length_eq
   cases this
  |some b=>
   obtain⟨g1,g2⟩:=h2 b z
   have so:=hl.so
   rw[mG]at so
   have so:=(gR.mp so).1
   have hb:=pm.mem_iff.mpr g1
   have e:a=b:=by
    rcases kL.mp hb with e|e
    ·exact e.symm
    ·exact qGC (q69 _ _ (g2 a (pm.mem_iff.mp (by simp))) (so _ (kO.mpr ⟨b,e,rfl⟩)))
   rw[e]
   rfl
theorem qJB(on:OneP q.B q.P q.fi)(wr:∀b,b<q.B→∃f:Nat,q.fi.getD b 0=(f:Int)∧f≤q.P)(p1:1≤q.P)(hl:FreeIs q.B (noB q.B) cl q.fi l)(h:0<rm q.B q.P q.fi):q19 q.B q.P (noB q.B) q.fi l=some (spF q cl):=by
 obtain⟨b,hb,_⟩:=q7R on wr p1 hl h
 rw[hb]
 unfold q19 jG at hb
 unfold spF
 rw[jT]at hb
 cases z:(List.range q.B).find? (jJ q.P q.fi)with
 |some c=>rw[z]at hb;exact hb.symm
 |none=>
  rw[z]at hb
  rw[←qCS hl]
  have hb:l.head?=some b:=hb
  rw[hb]
  rfl
noncomputable def lvP(P b:Nat)(V:Mp):List (List Int):=(List.range P).filterMap λf=>(V.find? λy=>decide (y.2=((b*P+f:Nat):Int))).map λy=>[y.2,y.1]
theorem q3X{P b:Nat}{V:Mp}(hP:1≤P)(pd:(V.map (·.2)).Nodup){k:List Int}:k∈lvP P b V↔∃y∈V,y.2 / (P:Int)=(b:Int)∧k=[y.2,y.1]:=by
 unfold lvP
 rw[wI]
 constructor
 ·rintro⟨f,hf,e⟩
  have hf:=mP.mp hf
  cases z:V.find? λy=>decide (y.2=((b*P+f:Nat):Int))with
  |none=>rw[z]at e;cases e
  |some y=>
   rw[z]at e
   have e1:=dL z
   have e2:y.2=((b*P+f:Nat):Int):=by simpa using dJ z
   refine⟨y,e1,?_,(kP e).symm⟩
   rw[e2,←dQ,yE hf]
 ·rintro⟨y,hy,hb,rfl⟩
  have h0:0≤y.2:=by
   refine dM λz=>?_
   have:=Int.ediv_neg_of_neg_of_pos (a:=y.2) (b:=(P:Int)) (by omega) (by omega)
   omega
  have e:=Int.mul_ediv_add_emod y.2 (P:Int)
  have m0:=Int.emod_nonneg y.2 (show(P:Int)≠0 by omega)
  have m1:=Int.emod_lt_of_pos y.2 (show(0:Int)<(P:Int) by omega)
  refine⟨(y.2%(P:Int)).toNat,mP.mpr (by omega),?_⟩
  have ey:y.2=((b*P+(y.2%(P:Int)).toNat:Nat):Int):=by
   rw[pJ,gZ,←hb,Int.mul_comm]
   omega
  cases z:V.find? λw=>decide (w.2=((b*P+(y.2%(P:Int)).toNat:Nat):Int))with
  |none=>exact absurd (hC ey) (rL.mp z y hy)
  |some w=>
   have e1:=dL z
   have e2:w.2=((b*P+(y.2%(P:Int)).toNat:Nat):Int):=by simpa using dJ z
   have:w=y:=by
    clear z
    induction V with
    |nil=>cases e1
    |cons v V ih=>
     rw[mG]at pd
     obtain⟨n1,n2⟩:=gB.mp pd
     rcases kL.mp e1 with a|a<;>rcases kL.mp hy with c|c
     ·rw[a,c]
     ·exact(n1 (by rw[←a,e2,←ey];exact kO.mpr ⟨y,c,rfl⟩)).elim
     ·exact(n1 (by rw[←c,ey,←e2];exact kO.mpr ⟨w,a,rfl⟩)).elim
     ·exact ih n2 c a
   rw[this]
   rfl
theorem qAO{P b:Nat}{V:Mp}:(lvP P b V).Pairwise λa c=>lx c a=false∧a≠c:=by
 unfold lvP
 refine List.pairwise_filterMap.mpr (rB.imp fun {f g} hfg k hk k' hk'=>?_)
 cases z:V.find? λy=>decide (y.2=((b*P+f:Nat):Int))with
 |none=>rw[z]at hk;cases hk
 |some y=>
  cases z':V.find? λy=>decide (y.2=((b*P+g:Nat):Int))with
  |none=>rw[z']at hk';cases hk'
  |some y'=>
   rw[z]at hk
   rw[z']at hk'
   have e2:y.2=((b*P+f:Nat):Int):=by simpa using dJ z
   have e3:y'.2=((b*P+g:Nat):Int):=by simpa using dJ z'
   obtain rfl:[y.2,y.1]=k:=kP hk
   obtain rfl:[y'.2,y'.1]=k':=kP hk'
   refine⟨?_,λw=>?_⟩
   ·unfold lx
    rw[kB (by omega)]
    exact hG (by omega)
   ·injection w with w _
    omega
theorem qGO{P b:Nat}{V:Mp}{rs:List (List Int)}(hP:1≤P)(pd:(V.map (·.2)).Nodup)(nd:rs.Nodup)(mm:∀k,k∈rs↔∃n p,k=[p,n]∧(n,p)∈V∧p / (P:Int)=(b:Int))(so:rs.Pairwise λa b=>lx b a=false):rs=lvP P b V:=by
 refine qEG (q2K nd (qAO.imp λz=>z.2) λk=>?_) so (qAO.imp λz=>z.1)
 rw[mm,q3X hP pd]
 constructor
 ·rintro⟨n,p,rfl,h1,h2⟩
  exact⟨(n,p),h1,h2,rfl⟩
 ·rintro⟨y,h1,h2,rfl⟩
  exact⟨y.1,y.2,rfl,h1,h2⟩
end
structure XS where
 q:QM
 cl:List Int
 pg:Nat→Option (Int×Int)
 lf:Option Int
 rc:List (Str×Int×Bool)
structure Tm where
 ie:Nat
 sp:Int
 ev:Bool
noncomputable def mnL:List Int→Option Int
 | []=>none
 |a::l=>match mnL l with
  |none=>some a
  |some m=>some (if a≤m then a else m)
theorem qAP:∀{l:List Int},l≠[]→∃m,mnL l=some m∧m∈l∧∀a∈l,m≤a
 | [],h=>absurd rfl h
 | [a],_=>⟨a,rfl,by simp,λb hb=>by rw[kI.mp hb];exact gL _⟩
 |a::b::l,_=>by
  obtain⟨m,e,h1,h2⟩:=qAP (l:=b::l) (by simp)
  unfold mnL
  rw[e]
  by_cases z:a≤m
  ·refine⟨a,by dsimp only;rw[kF z],by simp,λc hc=>?_⟩
   rcases kL.mp hc with e|hc
   ·rw[e];exact gL _
   ·exact pR z (h2 c hc)
  ·refine⟨m,by dsimp only;rw[kB z],hU _ h1,λc hc=>?_⟩
   rcases kL.mp hc with e|hc
   ·rw[e];omega
   ·exact h2 c hc
namespace XS
variable(s:XS)
noncomputable def pb:Nat:=spF s.q s.cl
noncomputable def pf:Nat:=(s.q.fi.getD s.pb 0).toNat
noncomputable def np:Nat:=s.pb*s.q.P+s.pf
noncomputable def put(n v:Int):XS:=⟨s.q.put s.pb s.pf n,s.cl,λi=>if i=s.np then some (s.q.nx*128+n,v)else s.pg i,s.lf.map (· - 1),s.rc++[(Str.ofString "put",(s.np:Int),true)]⟩
noncomputable def wip(b:Nat):XS:=⟨s.q.emptied b,s.cl.set b (s.cl.getD b 0+1),λi=>if i / s.q.P=b then none else s.pg i,s.lf.map (· - 1),s.rc++[(Str.ofString "wipe",(b:Int),true)]⟩
noncomputable def forg(n:Int):XS:={ s with q:=s.q.forget n }
noncomputable def rmX:Nat:=rm s.q.B s.q.P s.q.fi
noncomputable def hl:List Int:=((s.q.V.map (·.1)).filter λn=>decide (n≠64)).mergeSort λa b=>decide (a≤b)
noncomputable def bits(ns:List Int):Int:=((orB (ns.map Int.toNat) 0:Nat):Int)
noncomputable def val(p n:Int):Int:=if n=64 then bits s.hl else((s.pg p.toNat).getD (0,0)).2
noncomputable def mvs:List (List Int)→XS→XS×Option (List (List Int))
 | [],s=>(s,some [])
 |k::r,s=>if s.lf=some 0 then(s,none)else
  match mvs r (s.put (k.getD 1 0) (s.val (k.getD 0 0) (k.getD 1 0)))with
  |(s',none)=>(s',none)
  |(s',some ms)=>(s',some ([k.getD 1 0,k.getD 0 0,(s.np:Int)]::ms))
noncomputable def spc(k:Tm):Int:=if(1+k.ie)*s.q.P≤s.rmX then(s.q.P:Int)else(s.rmX:Int)-(k.ie*s.q.P:Nat)
noncomputable def ful(k:Tm):List Nat:=(List.range s.q.B).filter λb=>decide (s.q.fi.getD b 0=(s.q.P:Int))&&decide (s.q.lv.getD b 0≤s.spc k)
noncomputable def ded(k:Tm):List Nat:=(s.ful k).filter λb=>decide (s.q.lv.getD b 0<(s.q.P:Int))
noncomputable def lst:Int:=(mnL s.cl).getD 0
noncomputable def clb(k:Tm)(L:List Nat):List Nat:=L.filter λb=>decide (s.cl.getD b 0<s.lst+k.sp)
noncomputable def opt(k:Tm):List Nat:=if k.ev then s.clb k (s.ded k)else s.ded k
noncomputable def tl(b:Nat):Tl:=⟨(b:Int),s.q.lv.getD b 0,s.cl.getD b 0,s.q.bo.getD b 0⟩
noncomputable def ots(k:Tm):List Tl:=(s.opt k).map s.tl
noncomputable def chg(k:Tm):Option Nat:=minF s.cl (s.clb k (s.ful k))
noncomputable def rd(k:Tm):Bool:=decide ((1+k.ie)*s.q.P<s.rmX)
noncomputable def tk(k:Tm)(g:Rl):Option (Str×Nat×Rl):=
 if s.opt k=[]then(if k.ev then(s.chg k).map λb=>("even",b,g)else none)
 else some ("rule",(g.ch (s.q.P:Int) s.q.nx (s.ots k)).1.toNat,(g.ch (s.q.P:Int) s.q.nx (s.ots k)).2)
end XS
inductive Rf where
 |dark|room
structure Pa where
 why:Str
 ts:List Tl
 b:Nat
 mv:List (List Int)
structure Sx where
 s:XS
 g:Rl
 ps:List Pa
namespace Sx
noncomputable def room(k:Tm)(X:Sx):Sx×Except Rf Pa:=match X.s.tk k X.g with
 |none=>(X,.error .room)
 |some (y,b,g)=>match XS.mvs (lvP X.s.q.P b X.s.q.V) X.s with
  |(s,none)=>(⟨s,g,X.ps⟩,.error .dark)
  |(s,some ms)=>if s.lf=some 0 then(⟨s,g,X.ps⟩,.error .dark)else(⟨s.wip b,g,X.ps++[⟨y,X.s.ots k,b,ms⟩]⟩,.ok ⟨y,X.s.ots k,b,ms⟩)
noncomputable def rooms(k:Tm):Nat→Sx→Option (Sx×Except Rf Unit)
 |0,X=>if X.s.rd k then some (X,.ok ())else none
 |i+1,X=>if X.s.rd k then some (X,.ok ())else match X.room k with
  |(Y,.error e)=>some (Y,.error e)
  |(Y,.ok _)=>rooms k i Y
noncomputable def ask(k:Tm)(i:Nat)(X:Sx)(n v:Int):Option (Sx×Except Rf Nat):=match X.rooms k i with
 |none=>none
 |some (Y,.error e)=>some (Y,.error e)
 |some (Y,.ok _)=>if Y.s.lf=some 0 then some (Y,.error .dark)else some (⟨Y.s.put n v,Y.g,Y.ps⟩,.ok Y.s.np)
end Sx
structure WX(k:Tm)(s:XS):Prop where
 qs:QS s.q
 on:OneP s.q.B s.q.P s.q.fi
 lc:s.cl.length=s.q.B
 cr:∀b f:Nat,b<s.q.B→s.q.fi.getD b 0≤(f:Int)→f<s.q.P→s.pg (b*s.q.P+f)=none
 vl:∀y∈s.q.V,∃b f:Nat,∃v:Int×Int,b<s.q.B∧f<s.q.P∧y.2=((b*s.q.P+f:Nat):Int)∧(f:Int)<s.q.fi.getD b 0∧s.pg (b*s.q.P+f)=some v
 pd:(s.q.V.map (·.2)).Nodup
 c0:∀b,0≤s.cl.getD b 0∧s.cl.getD b 0≤(s.rc.length:Int)
 bo:∀b,0≤s.q.bo.getD b 0∧s.q.bo.getD b 0<s.q.nx
 nx:1≤s.q.nx
 sl:k.ie*s.q.P≤s.rmX
 l6:s.q.V.length<60
 l0:∀i,s.lf=some i→0≤i
theorem q4L{P b f c g:Nat}(hf:f<P)(hg:g<P)(e:b*P+f=c*P+g):b=c∧f=g:=by
 have h1:=yE (b:=b) hf
 have h2:=yE (b:=c) hg
 rw[e,h2]at h1
 subst h1
 exact⟨rfl,by omega⟩
theorem q0E{V:Mp}{n:Int}(nd:(V.map (·.1)).Nodup):(jI V n).length≤V.length∧∀p,(n,p)∈V→(jI V n).length+1=V.length:=by
 refine⟨mD _ _,λp h=>?_⟩
 induction V with
 |nil=>exact absurd h (by simp)
 |cons y V ih=>
  rw[mG]at nd
  obtain⟨n1,n2⟩:=gB.mp nd
  unfold jI
  rw[mR]
  rcases kL.mp h with e|h
  ·subst e
   rw[kB (by simp),mQ]
   have:V.filter (λq=>decide (q.1≠n))=V:=d7.mpr λz hz=>hC λe=>n1 (kO.mpr ⟨z,hz,e⟩)
   rw[this]
  ·have ne:y.1≠n:=λe=>n1 (kO.mpr ⟨_,h,e.symm⟩)
   rw[kF (hC ne),mQ,mQ]
   have:=ih n2 h
   unfold jI at this
   omega
section
variable{k:Tm}{s:XS}
theorem WX.spot(h:WX k s)(hr:0<s.rmX):s.pb<s.q.B∧s.pf<s.q.P∧s.q.fi.getD s.pb 0=(s.pf:Int)∧((jG s.q.B s.q.P (noB s.q.B) s.q.fi=some s.pb)∨(jG s.q.B s.q.P (noB s.q.B) s.q.fi=none∧s.q.fi.getD s.pb 0=0))∧∀l,FreeIs s.q.B (noB s.q.B) s.cl s.q.fi l→q19 s.q.B s.q.P (noB s.q.B) s.q.fi l=some s.pb:=by
 have p1:=h.qs.ok.p1
 have sp:∀l,FreeIs s.q.B (noB s.q.B) s.cl s.q.fi l→q19 s.q.B s.q.P (noB s.q.B) s.q.fi l=some s.pb:=λl hl=>qJB h.on h.qs.ok.wr p1 hl hr
 obtain⟨l,hl⟩:=FreeIs.ex s.q.B (noB s.q.B) s.cl s.q.fi
 have hsp:=sp l hl
 obtain⟨b,hb,hc⟩:=q7R h.on h.qs.ok.wr p1 hl hr
 rw[hsp]at hb
 obtain rfl:=kP hb
 obtain⟨hB,_,f0,f1⟩:=q9M hl p1 hsp
 have:(s.pf:Int)=s.q.fi.getD s.pb 0:=by unfold XS.pf;omega
 exact⟨hB,by omega,this.symm,hc,sp⟩
theorem q89{b f:Nat}{n:Int}{q:QM}(lf:q.fi.length=q.B)(hb:b<q.B)(ef:q.fi.getD b 0=(f:Int))(c:Nat):(q.put b f n).fi.getD c 0=if b=c then(f:Int)+1 else q.fi.getD c 0:=by
 show(q.fi.set b (q.fi.getD b 0+1)).getD c 0=_
 rw[ef,jA,lf]
 by_cases e:b=c
 ·rw[kF ⟨e,hb⟩,kF e]
 ·rw[kB (λz=>e z.1),kB e]
theorem WX.put(h:WX k s){n v:Int}(hr:k.ie*s.q.P<s.rmX)(n0:0≤n)(n1:n≤64)(hl:(∃p,(n,p)∈s.q.V)∨s.q.V.length<59)(dk:s.lf≠some 0):WX k (s.put n v)∧(s.put n v).rmX+1=s.rmX:=by
 obtain⟨hb,hf,ef,sp,_⟩:=h.spot (by omega)
 have okq:=h.qs.ok
 have gfi:∀c,(s.put n v).q.fi.getD c 0=if s.pb=c then(s.pf:Int)+1 else s.q.fi.getD c 0:=q89 okq.lf hb ef
 have rm1:(s.put n v).rmX+1=s.rmX:=qJ9 hb okq.lf ef hf
 refine⟨⟨h.qs.put hb hf ef n0 n1,qGK h.on hb okq.lf sp,h.lc,λc g hc hg hgP=>?_,λy hy=>?_,?_,λc=>?_,λc=>?_,?_,?_,?_,λi e=>?_⟩,rm1⟩
 ·have hgP:g<s.q.P:=hgP
  rw[gfi]at hg
  show(if c*s.q.P+g=s.np then some (s.q.nx*128+n,v)else s.pg (c*s.q.P+g))=none
  by_cases e:s.pb=c
  ·subst e
   rw[kF rfl]at hg
   rw[kB (by unfold XS.np;omega)]
   exact h.cr _ g hc (by omega) hgP
  ·rw[kB e]at hg
   rw[kB (λ(z:c*s.q.P+g=s.np)=>e (q4L hgP hf z).1.symm)]
   exact h.cr c g hc hg hgP
 ·rcases yW.mp hy with e|⟨hy,hne⟩
  ·rw[e]
   refine⟨s.pb,s.pf,_,hb,hf,rfl,?_,kF rfl⟩
   rw[gfi,kF rfl]
   omega
  ·obtain⟨c,g,w,a1,a2,a3,a4,a5⟩:=h.vl y hy
   refine⟨c,g,w,a1,a2,a3,?_,?_⟩
   ·rw[gfi]
    by_cases e:s.pb=c
    ·subst e;rw[kF rfl];omega
    ·rw[kB e];exact a4
   ·show(if c*s.q.P+g=s.np then some (s.q.nx*128+n,v)else s.pg (c*s.q.P+g))=some w
    rw[kB (λ(z:c*s.q.P+g=s.np)=>?_)]
    ·exact a5
    ·obtain⟨e1,e2⟩:=q4L a2 hf z
     rw[e1,ef]at a4
     omega
 ·show((jI s.q.V n++[(n,((s.pb*s.q.P+s.pf:Nat):Int))]).map (·.2)).Nodup
  rw[mV]
  refine rZ.mpr ⟨?_,by simp,λa ha c hc=>?_⟩
  ·exact cW (List.Sublist.map _ cE) h.pd
  ·obtain⟨y,hy,rfl⟩:=kO.mp ha
   have hc:c=((s.pb*s.q.P+s.pf:Nat):Int):=by simpa using hc
   rw[hc]
   intro z
   obtain⟨c',g,w,a1,a2,a3,a4,a5⟩:=h.vl y (j9.mp hy).1
   rw[a3]at z
   obtain⟨e1,e2⟩:=q4L a2 hf (by exact Int.ofNat.inj z)
   rw[e1,ef]at a4
   omega
 ·show 0≤s.cl.getD c 0∧s.cl.getD c 0≤((s.rc++[_]).length:Int)
  have:=h.c0 c
  rw[mC,gD]
  omega
 ·show 0≤(if s.q.fi.getD s.pb 0=0 then s.q.bo.set s.pb s.q.nx else s.q.bo).getD c 0∧(if s.q.fi.getD s.pb 0=0 then s.q.bo.set s.pb s.q.nx else s.q.bo).getD c 0<s.q.nx+1
  have:=h.bo c
  have:=h.nx
  split
  ·rw[jA]
   split<;>omega
  ·omega
 ·show 1≤s.q.nx+1
  have:=h.nx
  omega
 ·show k.ie*s.q.P≤(s.put n v).rmX
  omega
 ·show(jI s.q.V n++[_]).length<60
  rw[mC,gD]
  obtain⟨d1,d2⟩:=q0E (V:=s.q.V) (n:=n) okq.nd
  have:=h.l6
  rcases hl with⟨p,hp⟩|hl
  ·have:=d2 p hp
   omega
  ·omega
 ·have e:s.lf.map (· - 1)=some i:=e
  cases z:s.lf with
  |none=>rw[z]at e;cases e
  |some j=>
   rw[z]at e
   have e:j-1=i:=kP e
   have:=h.l0 j z
   have:j≠0:=λy=>dk (by rw[z,y])
   omega
theorem WX.wip(h:WX k s){b:Nat}(hb:b<s.q.B)(ef:s.q.fi.getD b 0=(s.q.P:Int))(nl:∀y∈s.q.V,¬y.2 / (s.q.P:Int)=(b:Int))(dk:s.lf≠some 0):WX k (s.wip b)∧(s.wip b).rmX=s.rmX+s.q.P:=by
 have okq:=h.qs.ok
 have rm1:(s.wip b).rmX=s.rmX+s.q.P:=qGJ hb okq.lf ef
 have gfi:∀c,(s.wip b).q.fi.getD c 0=if b=c then 0 else s.q.fi.getD c 0:=λc=>by
  show(s.q.fi.set b 0).getD c 0=_
  rw[jA,okq.lf]
  by_cases e:b=c
  ·rw[kF ⟨e,hb⟩,kF e]
  ·rw[kB (λz=>e z.1),kB e]
 refine⟨⟨h.qs.emptied b,qEP h.on,?_,λc g hc hg hgP=>?_,λy hy=>?_,h.pd,λc=>?_,λc=>?_,h.nx,?_,h.l6,λi e=>?_⟩,rm1⟩
 ·show(s.cl.set _ _).length=_
  rw[gF]
  exact h.lc
 ·show(if(c*s.q.P+g) / s.q.P=b then none else s.pg (c*s.q.P+g))=none
  have hgP:g<s.q.P:=hgP
  rw[yE hgP]
  by_cases e:c=b
  ·rw[kF e]
  ·rw[kB e]
   rw[gfi,kB (λz=>e z.symm)]at hg
   exact h.cr c g hc hg hgP
 ·obtain⟨c,g,w,a1,a2,a3,a4,a5⟩:=h.vl y hy
  have cb:c≠b:=λz=>nl _ hy (by rw[a3,←dQ,yE a2,z])
  refine⟨c,g,w,a1,a2,a3,?_,?_⟩
  ·rw[gfi,kB (λz=>cb z.symm)]
   exact a4
  ·show(if(c*s.q.P+g) / s.q.P=b then none else s.pg (c*s.q.P+g))=_
   rw[yE a2,kB cb]
   exact a5
 ·show 0≤(s.cl.set b (s.cl.getD b 0+1)).getD c 0∧(s.cl.set b (s.cl.getD b 0+1)).getD c 0≤((s.rc++[_]).length:Int)
  have h1:=h.c0 c
  have h2:=h.c0 b
  rw[mC,gD,jA]
  split<;>omega
 ·show 0≤(s.q.bo.set b 0).getD c 0∧(s.q.bo.set b 0).getD c 0<s.q.nx
  have h1:=h.bo c
  have h2:=h.nx
  rw[jA]
  split<;>omega
 ·show k.ie*s.q.P≤(s.wip b).rmX
  have:=h.sl
  omega
 ·have e:s.lf.map (· - 1)=some i:=e
  cases z:s.lf with
  |none=>rw[z]at e;cases e
  |some j=>
   rw[z]at e
   have e:j-1=i:=kP e
   have:=h.l0 j z
   have:j≠0:=λy=>dk (by rw[z,y])
   omega
theorem WX.forg(h:WX k s)(n:Int):WX k (s.forg n):=by
 refine⟨h.qs.forget n,h.on,h.lc,h.cr,λy hy=>h.vl y (j9.mp hy).1,?_,h.c0,h.bo,h.nx,h.sl,?_,h.l0⟩
 ·exact cW (List.Sublist.map _ cE) h.pd
 ·have:=(q0E (V:=s.q.V) (n:=n) h.qs.ok.nd).1
  have:=h.l6
  show(jI s.q.V n).length<60
  omega
end
theorem q8A{V:Mp}{n p p':Int}(nd:(V.map (·.1)).Nodup)(h:(n,p)∈V)(h':(n,p')∈V):p=p':=by
 induction V with
 |nil=>exact absurd h (by simp)
 |cons y V ih=>
  rw[mG]at nd
  obtain⟨n1,n2⟩:=gB.mp nd
  rcases kL.mp h with e|h<;>rcases kL.mp h' with e'|h'
  ·rw[←e]at e'
   injection e' with _ e'
   exact e'.symm
  ·exact(n1 (kO.mpr ⟨_,h',by rw[←e]⟩)).elim
  ·exact(n1 (kO.mpr ⟨_,h,by rw[←e']⟩)).elim
  ·exact ih n2 h h'
theorem q6F{P b:Nat}{V:Mp}:(lvP P b V).Nodup:=qAO.imp λz=>z.2
theorem q2L{q:QM}{b:Nat}(h:QS q)(pd:(q.V.map (·.2)).Nodup)(hb:b<q.B):((lvP q.P b q.V).length:Int)=q.lv.getD b 0:=by
 rw[h.lv b hb]
 have nd:=h.ok.nd
 have:(lvP q.P b q.V).Perm ((q.V.filter λy=>decide (y.2 / (q.P:Int)=(b:Int))).map λy=>[y.2,y.1]):=q2K q6F (g9.mpr (((g9.mp nd).imp fun {a c} hne z=>hne (by
  injection z with _ z
  injection z with z _)).filter _)) λk=>by
  rw[q3X h.ok.p1 pd,kO]
  constructor
  ·rintro⟨y,h1,h2,rfl⟩
   exact⟨y,mM.mpr ⟨h1,hC h2⟩,rfl⟩
  ·rintro⟨y,hy,rfl⟩
   obtain⟨a1,a2⟩:=mM.mp hy
   exact⟨y,a1,mL a2,rfl⟩
 rw[this.length_eq,hI]
 unfold cntB
 rw[d5]
structure MvI(k:Tm)(s0:XS)(b:Nat)(rs:List (List Int))(i:Nat)(s:XS)(ms:List (List Int)):Prop where
 w:WX k s
 e:XS.mvs rs s0=(match XS.mvs (rs.drop i) s with|(s',none)=>(s',none)|(s',some m)=>(s',some (ms++m)))
 l:ms.length=i
 rc:s.rc.length=s0.rc.length+i
 rm:s.rmX+i=s0.rmX
 eB:s.q.B=s0.q.B
 eP:s.q.P=s0.q.P
 ec:s.cl=s0.cl
 fb:s.q.fi.getD b 0=(s0.q.P:Int)
 fm:∀c,s0.q.fi.getD c 0≤s.q.fi.getD c 0∧(s0.q.fi.getD c 0=(s0.q.P:Int)→s.q.fi.getD c 0=(s0.q.P:Int))
 nm:∀n,(∃p,(n,p)∈s.q.V)↔∃p,(n,p)∈s0.q.V
 dr:∀kk∈rs.drop i,∃n p,kk=[p,n]∧(n,p)∈s.q.V∧p / (s0.q.P:Int)=(b:Int)
 dl:∀y∈s.q.V,y.2 / (s0.q.P:Int)=(b:Int)→[y.2,y.1]∈rs.drop i
 lV:s.q.V.length=s0.q.V.length
section
variable{k:Tm}{s0 s:XS}{b i:Nat}{ms:List (List Int)}
theorem MvI.zero(w:WX k s0)(fb:s0.q.fi.getD b 0=(s0.q.P:Int)):MvI k s0 b (lvP s0.q.P b s0.q.V) 0 s0 []:=by
 refine⟨w,?_,rfl,rfl,rfl,rfl,rfl,rfl,fb,λc=>⟨gL _,λz=>z⟩,λn=>Iff.rfl,λkk hk=>?_,λy hy hb=>(q3X w.qs.ok.p1 w.pd).mpr ⟨y,hy,hb,rfl⟩,rfl⟩
 ·rw[List.drop_zero]
  cases XS.mvs (lvP s0.q.P b s0.q.V) s0 with
  |mk s' o=>cases o<;>rfl
 ·obtain⟨y,hy,hb,rfl⟩:=(q3X w.qs.ok.p1 w.pd).mp hk
  exact⟨y.1,y.2,rfl,hy,hb⟩
variable{rs:List (List Int)}
theorem MvI.at(h:MvI k s0 b rs i s ms)(hi:i<rs.length):∃n p,rs[i]=[p,n]∧(n,p)∈s.q.V∧0≤n∧n≤64:=by
 obtain⟨n,p,e1,e2,_⟩:=h.dr rs[i] (by rw[rO hi];exact kW)
 have:=h.w.qs.ok.nm _ e2
 exact⟨n,p,e1,e2,this.1,this.2⟩
theorem MvI.dark(h:MvI k s0 b rs i s ms)(hi:i<rs.length)(dk:s.lf=some 0):XS.mvs rs s0=(s,none):=by
 rw[h.e,rO hi]
 unfold XS.mvs
 rw[kF dk]
theorem MvI.fin(h:MvI k s0 b rs i s ms)(hi:i=rs.length):XS.mvs rs s0=(s,some ms)∧∀y∈s.q.V,¬y.2 / (s.q.P:Int)=(b:Int):=by
 subst hi
 refine⟨?_,λy hy z=>?_⟩
 ·rw[h.e,List.drop_length]
  show(s,some (ms++[]))=_
  rw[gY]
 ·have:=h.dl y hy (by rw[←h.eP];exact z)
  rw[List.drop_length]at this
  cases this
theorem MvI.step(h:MvI k s0 b rs i s ms)(nd:rs.Nodup)(hi:i<rs.length)(hr:k.ie*s0.q.P+rs.length≤s0.rmX)(dk:s.lf≠some 0){n p:Int}(er:rs[i]=[p,n]):
 MvI k s0 b rs (i+1) (s.put n (s.val p n)) (ms++[[n,p,(s.np:Int)]]):=by
 have dre:rs.drop i=[p,n]::rs.drop (i+1):=by rw[rO hi,er]
 obtain⟨n',p',e0,hnp,hpb⟩:=h.dr [p,n] (by rw[dre];simp)
 obtain⟨rfl,rfl⟩:p=p'∧n=n':=by
  injection e0 with e1 e0
  injection e0 with e2 _
  exact⟨e1,e2⟩
 have nb:=h.w.qs.ok.nm _ hnp
 have rmE:=h.rm
 have hP:=h.eP
 have slk:k.ie*s.q.P<s.rmX:=by rw[hP];omega
 obtain⟨w',rm'⟩:=h.w.put (n:=n) (v:=s.val p n) slk nb.1 nb.2 (.inl ⟨p,hnp⟩) dk
 obtain⟨hb,hf,ef,_,_⟩:=h.w.spot (by omega)
 have gfi:∀c,(s.put n (s.val p n)).q.fi.getD c 0=if s.pb=c then(s.pf:Int)+1 else s.q.fi.getD c 0:=q89 h.w.qs.ok.lf hb ef
 have cb:s.pb≠b:=λz=>by
  rw[z,h.fb,←hP]at ef
  omega
 have newp:((s.np:Nat):Int) / (s0.q.P:Int)=(s.pb:Int):=by
  rw[←hP]
  unfold XS.np
  rw[←dQ,yE hf]
 refine⟨w',?_,?_,?_,by omega,h.eB,h.eP,h.ec,?_,λc=>?_,λm=>?_,λkq hkq=>?_,λy hy hyb=>?_,?_⟩
 ·rw[h.e,dre]
  rw[XS.mvs,kB dk]
  show(match(match XS.mvs (rs.drop (i+1)) (s.put n (s.val p n))with|(s',none)=>(s',none)|(s',some m)=>(s',some ([n,p,(s.np:Int)]::m)))with|(s',none)=>(s',none)|(s',some m)=>(s',some (ms++m)))=_
  cases XS.mvs (rs.drop (i+1)) (s.put n (s.val p n))with
  |mk s' o=>
   cases o with
   |none=>rfl
   |some m=>
    show(s',some (ms++([n,p,(s.np:Int)]::m)))=(s',some ((ms++[[n,p,(s.np:Int)]])++m))
    rw[cQ]
    rfl
 ·rw[mC,h.l]
  rfl
 ·show(s.rc++[_]).length=_
  rw[mC,h.rc]
  rfl
 ·rw[gfi,kB cb]
  exact h.fb
 ·obtain⟨m1,m2⟩:=h.fm c
  rw[gfi]
  by_cases e:s.pb=c
  ·subst e
   rw[kF rfl]
   refine⟨by omega,λz=>?_⟩
   have:=m2 z
   rw[ef,←hP]at this
   omega
  ·rw[kB e]
   exact⟨m1,m2⟩
 ·rw[←h.nm m]
  constructor
  ·rintro⟨p1,h1⟩
   rcases yW.mp h1 with e|⟨h1,_⟩
   ·cases e
    exact⟨p,hnp⟩
   ·exact⟨p1,h1⟩
  ·rintro⟨p1,h1⟩
   by_cases e:m=n
   ·exact⟨_,yW.mpr (.inl (by rw[e]))⟩
   ·exact⟨p1,yW.mpr (.inr ⟨h1,e⟩)⟩
 ·have hkq':kq∈rs.drop i:=by rw[dre];exact hU _ hkq
  obtain⟨n',p',rfl,h',hb'⟩:=h.dr kq hkq'
  refine⟨n',p',rfl,yW.mpr (.inr ⟨h',λe=>?_⟩),hb'⟩
  have e:n'=n:=e
  subst e
  have:=q8A h.w.qs.ok.nd h' hnp
  subst this
  have nn:=nd
  rw[←List.take_append_drop i rs,dre]at nn
  have:=(rZ.mp nn).2.1
  exact(gB.mp this).1 hkq
 ·rcases yW.mp hy with e|⟨hy,hne⟩
  ·rw[e]at hyb
   have hyb:((s.np:Nat):Int) / (s0.q.P:Int)=(b:Int):=hyb
   rw[newp]at hyb
   exact(cb (by omega)).elim
  ·have:=h.dl y hy hyb
   rw[dre]at this
   rcases kL.mp this with e|e
   ·injection e with _ e
    injection e with e _
    exact(hne e).elim
   ·exact e
 ·show(jI s.q.V n++[_]).length=_
  rw[mC,gD,(q0E (V:=s.q.V) (n:=n) h.w.qs.ok.nd).2 p hnp]
  exact h.lV
structure Mvd(k:Tm)(s0:XS)(b:Nat)(s:XS)(n:Nat):Prop where
 w:WX k s
 rc:s.rc.length=s0.rc.length+n
 rm:s.rmX+n=s0.rmX
 eB:s.q.B=s0.q.B
 eP:s.q.P=s0.q.P
 ec:s.cl=s0.cl
 fb:s.q.fi.getD b 0=(s0.q.P:Int)
 fm:∀c,s0.q.fi.getD c 0≤s.q.fi.getD c 0∧(s0.q.fi.getD c 0=(s0.q.P:Int)→s.q.fi.getD c 0=(s0.q.P:Int))
 nm:∀n,(∃p,(n,p)∈s.q.V)↔∃p,(n,p)∈s0.q.V
 lV:s.q.V.length=s0.q.V.length
 lb:b<s0.q.B→s.q.lv.getD b 0+n=(lvP s0.q.P b s0.q.V).length
theorem MvI.mvd(h:MvI k s0 b (lvP s0.q.P b s0.q.V) i s ms)(hi:i≤(lvP s0.q.P b s0.q.V).length):Mvd k s0 b s i:=by
 refine⟨h.w,h.rc,h.rm,h.eB,h.eP,h.ec,h.fb,h.fm,h.nm,h.lV,λhb=>?_⟩
 rw[←q2L h.w.qs h.w.pd (by rw[h.eB];exact hb)]
 have:(lvP s.q.P b s.q.V).Perm ((lvP s0.q.P b s0.q.V).drop i):=q2K q6F (cW (List.drop_sublist _ _) q6F) λk=>by
  rw[q3X h.w.qs.ok.p1 h.w.pd,h.eP]
  constructor
  ·rintro⟨y,h1,h2,rfl⟩
   exact h.dl y h1 h2
  ·intro hk
   obtain⟨n,p,rfl,h1,h2⟩:=h.dr k hk
   exact⟨_,h1,h2,rfl⟩
 rw[this.length_eq,p9]
 omega
end
section
variable{k:Tm}{s:XS}{l:List Nat}{m:CM}
theorem q8B(h:WX k s)(hl:FreeIs s.q.B (noB s.q.B) s.cl s.q.fi l):spcN (k.ie:Int) l s.q.P s.q.fi (jG s.q.B s.q.P (noB s.q.B) s.q.fi)=s.spc k:=by
 have p1:=h.qs.ok.p1
 have sl:=h.sl
 unfold spcN XS.spc
 unfold XS.rmX at sl ⊢
 rcases q1M h.on h.qs.ok.wr p1 hl with⟨h1,h2⟩|⟨b,e,h1,e1,e2,h2,e3⟩
 ·rw[h2]at sl
  rw[h1,h2]
  by_cases z:1+k.ie≤l.length
  ·rw[kF (by omega),kF (gN _ z)]
  ·have le:l.length=k.ie:=by
    have:¬l.length<k.ie:=λy=>by
     have:=gN s.q.P (show l.length+1≤k.ie by omega)
     rw[rE,rF]at this
     omega
    omega
   rw[kB (by omega),kB (by rw[le,rE,rF];omega),le]
   show(0:Int)=_
   omega
 ·rw[h2]at sl
  rw[h1,h2]
  by_cases z:1+k.ie≤l.length
  ·have:=gN s.q.P z
   rw[kF (by omega),kF (by omega)]
  ·have le:l.length=k.ie:=by
    have:¬l.length<k.ie:=λy=>by
     have:=gN s.q.P (show l.length+1≤k.ie by omega)
     rw[rE,rF]at this
     omega
    omega
   rw[kB (by omega),kB (by rw[le,rE,rF];omega),le]
   show(s.q.P:Int)-s.q.fi.getD b 0=_
   omega
theorem qJC(h:WX k s)(hl:FreeIs s.q.B (noB s.q.B) s.cl s.q.fi l):((jX s.q.B s.q.P (noB s.q.B) s.q.fi).filter λb=>decide (s.q.lv.getD b 0≤spcN (k.ie:Int) l s.q.P s.q.fi (jG s.q.B s.q.P (noB s.q.B) s.q.fi)))=s.ful k:=by
 unfold jX XS.ful
 rw[jT,q8B h hl,List.filter_filter]
 refine wT λb _=>?_
 rw[Bool.and_comm]
theorem qEU(h:WX k s)(br:m.br=noB s.q.B)(hl:FreeIs s.q.B (noB s.q.B) s.cl s.q.fi l):optN (k.ie:Int) m s.q l=s.ded k:=by
 unfold optN XS.ded
 rw[br,qJC h hl]
theorem qKJ(e:m.cl=s.cl):tlOf m s.q=s.tl:=by
 funext b
 unfold tlOf XS.tl
 rw[e]
theorem qAQ(h:WX k s)(hl:FreeIs s.q.B (noB s.q.B) s.cl s.q.fi l):rdy (k.ie:Int) l (jG s.q.B s.q.P (noB s.q.B) s.q.fi)=s.rd k:=qGH h.on h.qs.ok.wr h.qs.ok.p1 hl
structure Full(k:Tm)(s:XS)(c:Nat):Prop where
 b:c<s.q.B
 f:s.q.fi.getD c 0=(s.q.P:Int)
 l:s.q.lv.getD c 0≤s.spc k
theorem q5O{b:Nat}:b∈s.ful k↔Full k s b:=by
 unfold XS.ful
 rw[mM,mP,mO,kU,kU]
 exact⟨λ⟨a,b,c⟩=>⟨a,b,c⟩,λh=>⟨h.b,h.f,h.l⟩⟩
theorem q2M{b:Nat}:b∈s.ded k↔Full k s b∧s.q.lv.getD b 0<(s.q.P:Int):=by
 unfold XS.ded
 rw[mM,q5O,kU]
theorem vE{b:Nat}:b∈s.opt k↔(Full k s b∧s.q.lv.getD b 0<(s.q.P:Int))∧(k.ev=true→s.cl.getD b 0<s.lst+k.sp):=by
 unfold XS.opt XS.clb
 cases k.ev with
 |false=>
  rw[kB (by decide),q2M]
  exact⟨λh=>⟨h,λz=>by cases z⟩,λh=>h.1⟩
 |true=>
  rw[kF rfl,mM,q2M,kU]
  exact⟨λh=>⟨h.1,λ_=>h.2⟩,λh=>⟨h.1,h.2 rfl⟩⟩
theorem Full.sp(h:WX k s){b:Nat}(f:Full k s b):k.ie*s.q.P+(lvP s.q.P b s.q.V).length≤s.rmX:=by
 have e:=q2L h.qs h.pd f.b
 have l:=f.l
 have sl:=h.sl
 have lb:=h.qs.lv b f.b
 have cn:(lvP s.q.P b s.q.V).length≤s.q.P:=by
  unfold lvP
  refine mI (dS _ _) ?_
  rw[mH]
  exact kN _
 unfold XS.spc at l
 split at l
 ·rename_i z
  rw[rE,rF]at z
  omega
 ·omega
theorem qGP{L:List Nat}:∀a∈L.map s.tl,∀c∈L.map s.tl,a.b=c.b→a=c:=λa ha c hc e=>by
 obtain⟨x,_,rfl⟩:=kO.mp ha
 obtain⟨y,_,rfl⟩:=kO.mp hc
 have e:(x:Int)=(y:Int):=e
 rw[show x=y by omega]
theorem qEV(h:WX k s){b:Nat}(hb:b<s.q.B):0≤s.q.lv.getD b 0∧s.q.lv.getD b 0≤(s.q.P:Int):=by
 have e:=q2L h.qs h.pd hb
 have cn:(lvP s.q.P b s.q.V).length≤s.q.P:=by
  unfold lvP
  refine mI (dS _ _) ?_
  rw[mH]
  exact kN _
 omega
theorem qKK(h:WX k s)(rc:s.rc.length<1000000){b:Nat}(hb:b<s.q.B):(s.tl b).Ok (s.q.P:Int) s.q.nx:=by
 have b2:=h.qs.ok.b2
 have c:=h.c0 b
 have d:=h.bo b
 have e:=qEV h hb
 refine⟨?_,?_,e.1,e.2,c.1,?_,d.1,d.2⟩
 ·show(0:Int)≤(b:Int)
  omega
 ·show(b:Int)<16
  omega
 ·show s.cl.getD b 0<10 ^ 30
  have:(1000000:Int)<10 ^ 30:=by decide
  omega
theorem qJD(h:WX k s):(s.opt k).length≤16:=by
 have b2:=h.qs.ok.b2
 have:(s.ded k).length≤16:=by
  unfold XS.ded XS.ful
  refine mI (mD _ _) (mI (mD _ _) ?_)
  rw[mH]
  exact b2
 unfold XS.opt XS.clb
 split
 ·exact mI (mD _ _) this
 ·exact this
end
structure Kp(s s':XS):Prop where
 eB:s'.q.B=s.q.B
 eP:s'.q.P=s.q.P
 nm:∀n,(∃p,(n,p)∈s'.q.V)↔∃p,(n,p)∈s.q.V
 lV:s'.q.V.length=s.q.V.length
theorem Kp.refl{s:XS}:Kp s s:=⟨rfl,rfl,λ_=>Iff.rfl,rfl⟩
theorem Kp.trans{a b c:XS}(h:Kp a b)(g:Kp b c):Kp a c:=⟨g.eB.trans h.eB,g.eP.trans h.eP,λn=>(g.nm n).trans (h.nm n),g.lV.trans h.lV⟩
section
variable{k:Tm}{s:XS}{b:Nat}
theorem qAR{P b:Nat}{V:Mp}:(lvP P b V).length≤P:=by
 unfold lvP
 refine mI (dS _ _) ?_
 rw[mH]
 exact kN _
theorem q8C(R:XS→List (List Int)→Prop)(w:WX k s)(f:Full k s b)(r0:R s [])(rs:∀s' ms n p,WX k s'→Kp s s'→s'.cl=s.cl→s'.q.fi.getD b 0=(s.q.P:Int)→(n,p)∈s'.q.V→p / (s.q.P:Int)=(b:Int)→k.ie*s'.q.P<s'.rmX→s'.lf≠some 0→R s' ms→R (s'.put n (s'.val p n)) (ms++[[n,p,(s'.np:Int)]])):∃s' n ms,Mvd k s b s' n∧ms.length=n∧R s' ms∧((XS.mvs (lvP s.q.P b s.q.V) s=(s',none)∧n<(lvP s.q.P b s.q.V).length∧s'.lf=some 0)∨(XS.mvs (lvP s.q.P b s.q.V) s=(s',some ms)∧n=(lvP s.q.P b s.q.V).length∧∀y∈s'.q.V,¬y.2 / (s'.q.P:Int)=(b:Int))):=by
 have sp:=f.sp w
 have key:∀d i,i+d=(lvP s.q.P b s.q.V).length→∀s' ms,MvI k s b (lvP s.q.P b s.q.V) i s' ms→R s' ms→∃s' n ms,Mvd k s b s' n∧ms.length=n∧R s' ms∧((XS.mvs (lvP s.q.P b s.q.V) s=(s',none)∧n<(lvP s.q.P b s.q.V).length∧s'.lf=some 0)∨(XS.mvs (lvP s.q.P b s.q.V) s=(s',some ms)∧n=(lvP s.q.P b s.q.V).length∧∀y∈s'.q.V,¬y.2 / (s'.q.P:Int)=(b:Int))):=by
  intro d
  induction d with
  |zero=>
   intro i hi s' ms mi hR
   obtain⟨e,nl⟩:=mi.fin (by omega)
   exact⟨s',i,ms,mi.mvd (by omega),mi.l,hR,.inr ⟨e,by omega,nl⟩⟩
  |succ d ih=>
   intro i hi s' ms mi hR
   have hi':i<(lvP s.q.P b s.q.V).length:=by omega
   by_cases dk:s'.lf=some 0
   ·exact⟨s',i,ms,mi.mvd (by omega),mi.l,hR,.inl ⟨mi.dark hi' dk,hi',dk⟩⟩
   ·obtain⟨n,p,er,hnp,_⟩:=mi.at hi'
    have rme:=mi.rm
    obtain⟨n',p',e0,_,hpb⟩:=mi.dr [p,n] (by rw[rO hi',er];exact kW)
    have e1:p=p':=by injection e0
    refine ih (i+1) (by omega) _ _ (mi.step q6F hi' sp dk er) (rs s' ms n p mi.w ⟨mi.eB,mi.eP,mi.nm,mi.lV⟩ mi.ec mi.fb hnp (by rw[e1];exact hpb) (by rw[mi.eP];omega) dk hR)
 exact key _ 0 (sP _) s [] (MvI.zero w f.f) r0
end
theorem qEW{g:Rl}{pg nw:Int}{ts:List Tl}(ok:g.Ok)(h:ts≠[]):(g.ch pg nw ts).1∈ts.map Tl.b:=by
 cases g with
 |rk f=>
  obtain⟨A,hA,e,_⟩:=qES (f:=f pg nw) h
  show pk (f pg nw) ts∈_
  rw[e]
  exact kO.mpr ⟨A,hA,rfl⟩
 |win m=>
  obtain⟨A,hA,e,_⟩:=qES (f:=Tl.lv) (qGN ok h)
  show pk Tl.lv (winC m ts)∈_
  rw[e]
  exact kO.mpr ⟨A,qGM A hA,rfl⟩
 |fol row u=>
  have h0:(ts.map Tl.b).headD 0∈ts.map Tl.b:=by
   cases ts with
   |nil=>exact absurd rfl h
   |cons a r=>simp
  show fo row u ts∈_
  unfold fo
  split
  ·split
   ·assumption
   ·exact h0
  ·exact h0
theorem qKL{g:Rl}{pg nw:Int}{ts:List Tl}(ok:g.Ok):(g.ch pg nw ts).2.Ok:=by
 cases g with
 |rk f=>trivial
 |win m=>exact ok
 |fol row u=>trivial
section
variable{k:Tm}{s:XS}{g g':Rl}{y:Str}{b:Nat}
theorem q1N(ok:g.Ok)(h:s.tk k g=some (y,b,g')):(y=Str.ofString "rule"∧b∈s.opt k∧(b:Int)=(g.ch (s.q.P:Int) s.q.nx (s.ots k)).1∧g'=(g.ch (s.q.P:Int) s.q.nx (s.ots k)).2)∨(y=Str.ofString "even"∧k.ev=true∧s.opt k=[]∧g'=g∧s.chg k=some b∧b∈s.clb k (s.ful k)∧∀c∈s.clb k (s.ful k),s.cl.getD b 0≤s.cl.getD c 0):=by
 unfold XS.tk at h
 split at h
 ·rename_i e0
  split at h
  ·rename_i ev
   cases z:s.chg k with
   |none=>rw[z]at h;cases h
   |some c=>
    rw[z]at h
    cases h
    have pw:(s.clb k (s.ful k)).Pairwise (· < ·):=by
     unfold XS.clb XS.ful
     exact gW _ (gW _ rB)
    obtain⟨m1,m2⟩:=(q3W (cl:=s.cl) pw).2 b z
    refine .inr ⟨rfl,ev,e0,rfl,rfl,m1,λc hc=>?_⟩
    have:=m2 c hc
    unfold keyN lx at this
    by_cases q:s.cl.getD c 0=s.cl.getD b 0
    ·omega
    ·rw[kB q]at this
     have:=gX this
     omega
  ·cases h
 ·rename_i ne
  have ne':s.ots k≠[]:=λz=>ne (pO.mp z)
  have cm:=qEW (pg:=(s.q.P:Int)) (nw:=s.q.nx) ok ne'
  injection h with h
  injection h with h1 h
  injection h with h h2
  obtain⟨c,hc,e⟩:=kO.mp cm
  obtain⟨c',hc',rfl⟩:=kO.mp hc
  have e:(c':Int)=(g.ch (s.q.P:Int) s.q.nx (s.ots k)).1:=e
  rw[←e,kY]at h
  subst h
  exact .inl ⟨h1.symm,hc',e,h2.symm⟩
theorem q3Y(ok:g.Ok)(h:s.tk k g=some (y,b,g')):Full k s b:=by
 rcases q1N ok h with⟨_,h1,_⟩|⟨_,_,_,_,_,h1,_⟩
 ·exact(vE.mp h1).1.1
 ·unfold XS.clb at h1
  exact q5O.mp (mM.mp h1).1
theorem qEX(ok:g.Ok)(h:s.tk k g=some (y,b,g')):g'.Ok:=by
 rcases q1N ok h with⟨_,_,_,e⟩|⟨_,_,_,e,_⟩
 ·rw[e];exact qKL ok
 ·rw[e];exact ok
end
section
variable{k:Tm}{X Y:Sx}
inductive RoomR(k:Tm)(X:Sx):Sx×Except Rf Pa→Prop
 |no:X.s.tk k X.g=none→RoomR k X (X,.error .room)
 |dark {y b g' s' n}:X.s.tk k X.g=some (y,b,g')→Mvd k X.s b s' n→n≤(lvP X.s.q.P b X.s.q.V).length→s'.lf=some 0→RoomR k X (⟨s',g',X.ps⟩,.error .dark)
 |ok {y b g' s' ms}:X.s.tk k X.g=some (y,b,g')→XS.mvs (lvP X.s.q.P b X.s.q.V) X.s=(s',some ms)→Mvd k X.s b s' (lvP X.s.q.P b X.s.q.V).length→ms.length=(lvP X.s.q.P b X.s.q.V).length→s'.lf≠some 0→WX k (s'.wip b)→(s'.wip b).rmX=s'.rmX+X.s.q.P→RoomR k X (⟨s'.wip b,g',X.ps++[⟨y,X.s.ots k,b,ms⟩]⟩,.ok ⟨y,X.s.ots k,b,ms⟩)
theorem q9P(w:WX k X.s)(ok:X.g.Ok):RoomR k X (X.room k):=by
 unfold Sx.room
 cases htk:X.s.tk k X.g with
 |none=>exact .no htk
 |some ybg=>
  obtain⟨y,b,g'⟩:=ybg
  have f:=q3Y ok htk
  obtain⟨s',n,ms,md,lm,_,h|h⟩:=q8C (λ_ _=>True) w f trivial (λ_ _ _ _ _ _ _ _ _ _ _ _ _=>trivial)
  ·obtain⟨e,hn,dk⟩:=h
   dsimp only
   rw[e]
   exact .dark htk md (by omega) dk
  ·obtain⟨e,hn,nl⟩:=h
   dsimp only
   rw[e]
   dsimp only
   subst hn
   by_cases dk:s'.lf=some 0
   ·rw[kF dk]
    exact .dark htk md (kN _) dk
   ·rw[kB dk]
    obtain⟨w',rm'⟩:=md.w.wip (b:=b) (by rw[md.eB];exact f.b) (by rw[md.eP];exact md.fb) nl dk
    exact .ok htk e md lm dk w' (by rw[rm',md.eP])
theorem qEY{p:Pa}(w:WX k X.s)(ok:X.g.Ok)(h:X.room k=(Y,.ok p)):Y.s.rc.length≤X.s.rc.length+17∧Y.ps.length=X.ps.length+1:=by
 have r:=q9P w ok
 rw[h]at r
 have l16:∀b,(lvP X.s.q.P b X.s.q.V).length≤X.s.q.P:=λb=>qAR
 have p2:=w.qs.ok.p2
 cases r with
 |@ok y b g' s' ms htk e md lm dk w' rm'=>
  have:=l16 b
  refine⟨?_,mC⟩
  show(_++[_]).length≤_
  rw[mC,md.rc,gD]
  omega
theorem Mvd.kp{s s':XS}{b n:Nat}(h:Mvd k s b s' n):Kp s s':=⟨h.eB,h.eP,h.nm,h.lV⟩
theorem qBQ{r:Except Rf Pa}(w:WX k X.s)(ok:X.g.Ok)(h:X.room k=(Y,r)):WX k Y.s∧Y.g.Ok∧Kp X.s Y.s∧Y.s.rc.length≤X.s.rc.length+17∧Y.ps.length≤X.ps.length+1:=by
 have rr:=q9P w ok
 rw[h]at rr
 have l16:∀b,(lvP X.s.q.P b X.s.q.V).length≤X.s.q.P:=λb=>qAR
 have p2:=w.qs.ok.p2
 cases rr with
 |no htk=>exact⟨w,ok,Kp.refl,by omega,by omega⟩
 |@dark y b g' s' n htk md hn dk=>
  have:=l16 b
  refine⟨md.w,qEX ok htk,md.kp,?_,dU _⟩
  show s'.rc.length≤_
  rw[md.rc]
  omega
 |@ok y b g' s' ms htk e md lm dk w' rm'=>
  have:=l16 b
  refine⟨w',qEX ok htk,md.kp.trans ⟨rfl,rfl,λ_=>Iff.rfl,rfl⟩,?_,?_⟩
  ·show(_++[_]).length≤_
   rw[mC,md.rc,gD]
   omega
  ·show(_++[_]).length≤_
   rw[mC]
   exact kN _
theorem q0F:∀{i:Nat} {X Y:Sx} {r:Except Rf Unit},WX k X.s→X.g.Ok→X.rooms k i=some (Y,r)→WX k Y.s∧Y.g.Ok∧Kp X.s Y.s∧Y.s.rc.length≤X.s.rc.length+17*i∧Y.ps.length≤X.ps.length+i∧(r=.ok ()→Y.s.rd k=true)
 |0,X,Y,r,w,ok,h=>by
  unfold Sx.rooms at h
  split at h
  ·rename_i z
   cases h
   exact⟨w,ok,Kp.refl,kN _,kN _,λ_=>z⟩
  ·cases h
 |i+1,X,Y,r,w,ok,h=>by
  unfold Sx.rooms at h
  split at h
  ·rename_i z
   cases h
   exact⟨w,ok,Kp.refl,sI _ _,sI _ _,λ_=>z⟩
  ·cases e:X.room k with
   |mk W o=>
    rw[e]at h
    obtain⟨a1,a2,a3,a4,a5⟩:=qBQ w ok e
    cases o with
    |error x=>
     cases h
     exact⟨a1,a2,a3,by omega,by omega,λz=>by cases z⟩
    |ok p=>
     obtain⟨b1,b2,b3,b4,b5,b6⟩:=q0F a1 a2 h
     exact⟨b1,b2,a3.trans b3,by omega,by omega,b6⟩
noncomputable def gvn(ns ss:List Int):List Int:=ns.filter λn=>decide (n∈ss)
noncomputable def rst(ns g:List Int):List Int:=ns.filter λn=>!decide (n∈g)
noncomputable def XS.forgs(s:XS)(g:List Int):XS:=g.foldl XS.forg s
theorem qAS{s:XS}{g:List Int}{i:Nat}{n:Int}(h:g[i]?=some n):s.forgs (g.take (i+1))=(s.forgs (g.take i)).forg n:=by
 have hi:=(kC.mp h).1
 obtain rfl:g[i]=n:=(kC.mp h).2
 unfold XS.forgs
 rw[←mE hi,wU]
 rfl
end
noncomputable def Hv(s:XS)(n v:Int):Prop:=∃p mk,(n,p)∈s.q.V∧s.pg p.toNat=some (mk,v)
noncomputable def putR(m:List Int):Str×Int×Bool:=(Str.ofString "put",m.getD 2 0,true)
section
variable{k:Tm}{s s':XS}{n m v u:Int}{b:Nat}
theorem Hv.put(w:WX k s)(hr:0<s.rmX)(ne:m≠n)(h:Hv s m u):Hv (s.put n v) m u:=by
 obtain⟨p,mk,hp,e⟩:=h
 obtain⟨c,g,x,a1,a2,a3,a4,a5⟩:=w.vl _ hp
 obtain⟨hb,hf,ef,_⟩:=w.spot hr
 have a3:p=_:=a3
 refine⟨p,mk,yW.mpr (.inr ⟨hp,ne⟩),?_⟩
 show(if p.toNat=s.np then _ else s.pg p.toNat)=_
 rw[kB]
 ·exact e
 ·rw[a3,kY]
  intro z
  obtain⟨e1,e2⟩:=q4L a2 hf z
  rw[e1,ef]at a4
  omega
theorem Hv.new:Hv (s.put n v) n v:=⟨(s.np:Int),_,yW.mpr (.inl rfl),by
 show(if((s.np:Nat):Int).toNat=s.np then _ else _)=_
 rw[kY,kF rfl]⟩
theorem Hv.wip(w:WX k s)(nl:∀y∈s.q.V,¬y.2 / (s.q.P:Int)=(b:Int))(h:Hv s m u):Hv (s.wip b) m u:=by
 obtain⟨p,mk,hp,e⟩:=h
 obtain⟨c,g,x,a1,a2,a3,a4,a5⟩:=w.vl _ hp
 have a3:p=_:=a3
 refine⟨p,mk,hp,?_⟩
 show(if p.toNat / s.q.P=b then none else s.pg p.toNat)=_
 rw[kB]
 ·exact e
 ·have:=nl _ hp
  rw[a3,kY,yE a2]
  rw[show((m,p).2:Int)=p from rfl,a3,←dQ,yE a2]at this
  intro z
  exact this (by rw[z])
theorem Hv.forg(ne:m≠n)(h:Hv s m u):Hv (s.forg n) m u:=by
 obtain⟨p,mk,hp,e⟩:=h
 exact⟨p,mk,j9.mpr ⟨hp,ne⟩,e⟩
theorem Hv.val(w:WX k s){p:Int}(hp:(n,p)∈s.q.V)(n6:n≠64)(h:Hv s n u):s.val p n=u:=by
 obtain⟨p',mk,hp',e⟩:=h
 rw[q8A w.qs.ok.nd hp hp']
 unfold XS.val
 rw[kB n6,e]
 rfl
theorem q8D(w:WX k s){c:Nat}(hc:c<s.q.B):s.lst≤s.cl.getD c 0:=by
 have hc':c<s.cl.length:=by rw[w.lc];exact hc
 obtain⟨m,e,h1,h2⟩:=qAP (l:=s.cl) (λz=>by rw[z]at hc';cases hc')
 unfold XS.lst
 rw[e,kJ,hV hc']
 exact h2 _ (gJ _)
theorem qEZ(w:WX k s)(hb:0<s.q.B):∃c,c<s.q.B∧s.cl.getD c 0=s.lst:=by
 have hb':0<s.cl.length:=by rw[w.lc];exact hb
 obtain⟨m,e,h1,h2⟩:=qAP (l:=s.cl) (λz=>by rw[z]at hb';cases hb')
 obtain⟨c,hc,ec⟩:=cC h1
 refine⟨c,by rw[←w.lc];exact hc,?_⟩
 unfold XS.lst
 rw[e,kJ,hV hc,ec]
theorem qF0(w:WX k s)(hr:0<s.rmX)(z:s.q.fi.getD s.pb 0=0){c:Nat}(hc:c<s.q.B)(fc:s.q.fi.getD c 0=0):s.cl.getD s.pb 0≤s.cl.getD c 0:=by
 have e:s.pb=spF s.q s.cl:=rfl
 unfold spF at e
 cases q:(List.range s.q.B).find? (jJ s.q.P s.q.fi)with
 |some d=>
  rw[q]at e
  have h2:=dJ q
  unfold jJ at h2
  rw[mO,kU]at h2
  rw[show s.pb=d from e]at z
  omega
 |none=>
  rw[q]at e
  have pw:((List.range s.q.B).filter λb=>decide (s.q.fi.getD b 0=0)).Pairwise (· < ·):=gW _ rB
  have hm:c∈(List.range s.q.B).filter λb=>decide (s.q.fi.getD b 0=0):=mM.mpr ⟨mP.mpr hc,hC fc⟩
  obtain⟨h1,h2⟩:=q3W (cl:=s.cl) pw
  cases y:minF s.cl ((List.range s.q.B).filter λb=>decide (s.q.fi.getD b 0=0))with
  |none=>rw[h1 y]at hm;cases hm
  |some d=>
   rw[y]at e
   have e:s.pb=d:=e
   have:=(h2 d y).2 c hm
   rw[e]
   unfold keyN lx at this
   by_cases x:s.cl.getD c 0=s.cl.getD d 0
   ·omega
   ·rw[kB x]at this
    have:=gX this
    omega
structure Ix(k:Tm)(s:XS):Prop where
 w:WX k s
 sh:s.q.V.length<(s.q.B-(1+k.ie))*s.q.P
 s1:1≤k.sp
 gp:k.ev=true→∀b c,b<s.q.B→c<s.q.B→s.cl.getD b 0≤s.cl.getD c 0+k.sp
 e2:k.ev=true→∀d c,d<s.q.B→c<s.q.B→s.q.fi.getD d 0≠0→s.q.fi.getD c 0=0→s.cl.getD d 0<s.cl.getD c 0+k.sp
noncomputable def Wt(k:Tm)(s:XS):Prop:=s.rmX<(1+k.ie)*s.q.P→∃b,b<s.q.B∧s.q.fi.getD b 0=(s.q.P:Int)∧s.q.lv.getD b 0<(s.q.P:Int)∧s.q.lv.getD b 0+((1+k.ie)*s.q.P:Nat)≤(s.rmX:Int)+(s.q.P:Int)∧(k.ev=true→s.cl.getD b 0<s.lst+k.sp)
theorem Ix.put(x:Ix k s)(hr:k.ie*s.q.P<s.rmX)(w':WX k (s.put n v))(hs:(s.put n v).q.V.length<(s.q.B-(1+k.ie))*s.q.P):Ix k (s.put n v):=by
 obtain⟨hb,hf,ef,_⟩:=x.w.spot (by omega)
 have s1:=x.s1
 have gfi:∀c,(s.put n v).q.fi.getD c 0=if s.pb=c then(s.pf:Int)+1 else s.q.fi.getD c 0:=q89 x.w.qs.ok.lf hb ef
 refine⟨w',hs,x.s1,x.gp,λev d c hd hc fd fc=>?_⟩
 rw[gfi]at fd fc
 have hc:c<s.q.B:=hc
 have hd:d<s.q.B:=hd
 show s.cl.getD d 0<s.cl.getD c 0+k.sp
 by_cases c1:s.pb=c
 ·rw[kF c1]at fc
  omega
 ·rw[kB c1]at fc
  by_cases d1:s.pb=d
  ·subst d1
   by_cases z:s.q.fi.getD s.pb 0=0
   ·have:=qF0 x.w (by omega) z hc fc
    omega
   ·exact x.e2 ev _ _ hd hc z fc
  ·rw[kB d1]at fd
   exact x.e2 ev _ _ hd hc fd fc
theorem Ix.wip(x:Ix k s)(hb:b<s.q.B)(w':WX k (s.wip b))(cb:k.ev=true→s.cl.getD b 0<s.lst+k.sp):Ix k (s.wip b):=by
 have lc:=x.w.lc
 have gcl:∀c,(s.wip b).cl.getD c 0=if b=c then s.cl.getD b 0+1 else s.cl.getD c 0:=λc=>by
  show(s.cl.set b (s.cl.getD b 0+1)).getD c 0=_
  rw[jA,lc]
  by_cases e:b=c
  ·rw[kF ⟨e,hb⟩,kF e]
  ·rw[kB (λz=>e z.1),kB e]
 have gfi:∀c,(s.wip b).q.fi.getD c 0=if b=c then 0 else s.q.fi.getD c 0:=λc=>by
  show(s.q.fi.set b 0).getD c 0=_
  rw[jA,x.w.qs.ok.lf]
  by_cases e:b=c
  ·rw[kF ⟨e,hb⟩,kF e]
  ·rw[kB (λz=>e z.1),kB e]
 refine⟨w',x.sh,x.s1,λev c d hc hd=>?_,λev d c hd hc fd fc=>?_⟩
 ·have hc:c<s.q.B:=hc
  have hd:d<s.q.B:=hd
  rw[gcl,gcl]
  have:=cb ev
  have:=x.gp ev c d hc hd
  have:=x.gp ev c b hc hb
  have:=q8D x.w hd
  have:=x.s1
  split<;>split<;>omega
 ·have hc:c<s.q.B:=hc
  have hd:d<s.q.B:=hd
  rw[gfi]at fd fc
  rw[gcl,gcl]
  by_cases d1:b=d
  ·rw[kF d1]at fd
   exact absurd rfl fd
  ·rw[kB d1]at fd ⊢
   by_cases c1:b=c
   ·rw[kF c1]
    have:=x.gp ev d b hd hb
    omega
   ·rw[kB c1]at fc ⊢
    exact x.e2 ev d c hd hc fd fc
end
section
variable{k:Tm}{X Y:Sx}
structure RmX(k:Tm)(X Y:Sx):Prop where
 x:Ix k Y.s
 wt:Wt k Y.s
 ok:Y.g.Ok
 kp:Kp X.s Y.s
 hv:∀m u,m≠64→Hv X.s m u→Hv Y.s m u
theorem qBR{r:Except Rf Pa}(x:Ix k X.s)(wt:Wt k X.s)(ok:X.g.Ok)(h:X.room k=(Y,r)):RmX k X Y∧(match r with
 | .ok p=>Y.ps=X.ps++[p]∧Y.s.rc=X.s.rc++p.mv.map putR++[(Str.ofString "wipe",(p.b:Int),true)]∧(1+k.ie)*X.s.q.P≤Y.s.rmX∧Y.s.rmX+p.mv.length=X.s.rmX+X.s.q.P∧(∃g',X.s.tk k X.g=some (p.why,p.b,g'))∧p.mv.length=(lvP X.s.q.P p.b X.s.q.V).length∧p.ts=X.s.ots k∧(∃s',XS.mvs (lvP X.s.q.P p.b X.s.q.V) X.s=(s',some p.mv)∧Y.s=s'.wip p.b∧Mvd k X.s p.b s' p.mv.length)
 | .error .dark=>Y.s.lf=some 0∧Y.ps=X.ps∧∃ms,Y.s.rc=X.s.rc++List.map putR ms
 | .error .room=>Y=X∧X.s.tk k X.g=none):=by
 unfold Sx.room at h
 cases htk:X.s.tk k X.g with
 |none=>
  rw[htk]at h
  cases h
  exact⟨⟨x,wt,ok,Kp.refl,λ_ _ _ z=>z⟩,rfl,rfl⟩
 |some ybg=>
  obtain⟨y,b,g'⟩:=ybg
  rw[htk]at h
  dsimp only at h
  have f:=q3Y ok htk
  have g'ok:=qEX ok htk
  have spc:=f.l
  have lvb:=q2L x.w.qs x.w.pd f.b
  have sl:=x.w.sl
  have clb:k.ev=true→X.s.cl.getD b 0<X.s.lst+k.sp:=λev=>by
   rcases q1N ok htk with⟨_,h1,_⟩|⟨_,_,_,_,_,h1,_⟩
   ·exact(vE.mp h1).2 ev
   ·unfold XS.clb at h1
    exact mL (mM.mp h1).2
  obtain⟨s',n,ms,md,lm,⟨xi,hv,rcE⟩,hh⟩:=q8C (λs' ms=>Ix k s'∧(∀m u,m≠64→Hv X.s m u→Hv s' m u)∧s'.rc=X.s.rc++ms.map putR) x.w f ⟨x,λ_ _ _ z=>z,by simp⟩ (λs' ms n p w' kp ec fb hnp hpb hr dk ⟨xi,hv,rcE⟩=>by
   have nb:=w'.qs.ok.nm _ hnp
   obtain⟨w2,_⟩:=w'.put (v:=s'.val p n) hr nb.1 nb.2 (.inl ⟨p,hnp⟩) dk
   refine⟨xi.put hr w2 ?_,λm u m6 hm=>?_,?_⟩
   ·show(jI s'.q.V n++[_]).length< _
    rw[mC,gD,(q0E (V:=s'.q.V) (n:=n) w'.qs.ok.nd).2 p hnp]
    exact xi.sh
   ·have:=hv m u m6 hm
    by_cases e:m=n
    ·subst e
     have z:=Hv.new (s:=s') (n:=m) (v:=s'.val p m)
     rw[this.val w' hnp m6]at z ⊢
     exact z
    ·exact this.put w' (by omega) e
   ·show s'.rc++[_]=_
    rw[rcE,mV,cQ]
    rfl)
  have kp:Kp X.s s':=⟨md.eB,md.eP,md.nm,md.lV⟩
  have rme:=md.rm
  have lbe:=md.lb f.b
  have ec:=md.ec
  have wt':Wt k s':=λhlt=>by
   rw[md.eP]at hlt
   refine⟨b,by rw[md.eB];exact f.b,by rw[md.eP];exact md.fb,?_,?_,λev=>?_⟩
   ·rw[md.eP]
    by_cases n0:n=0
    ·have:X.s.rmX<(1+k.ie)*X.s.q.P:=by omega
     have lt:X.s.q.lv.getD b 0<(X.s.q.P:Int):=by
      rcases q1N ok htk with⟨_,h1,_⟩|⟨_,_,e0,_⟩
      ·exact(vE.mp h1).1.2
      ·exfalso
       obtain⟨c,c1,c2,c3,c4,c5⟩:=wt this
       have:c∈X.s.opt k:=vE.mpr ⟨⟨⟨c1,c2,by
        unfold XS.spc
        rw[kB (by omega)]
        rw[rE,rF]at c4
        omega⟩,c3⟩,c5⟩
       rw[e0]at this
       cases this
     omega
    ·have:=qAR (P:=X.s.q.P) (b:=b) (V:=X.s.q.V)
     omega
   ·rw[md.eP]
    unfold XS.spc at spc
    rw[rE,rF]at *
    split at spc<;>omega
   ·have e1:s'.lst=X.s.lst:=by unfold XS.lst;rw[ec]
    rw[ec,e1]
    exact clb ev
  rcases hh with⟨e,hn,dk⟩|⟨e,hn,nl⟩
  ·rw[e]at h
   cases h
   exact⟨⟨xi,wt',g'ok,kp,hv⟩,dk,rfl,ms,rcE⟩
  ·rw[e]at h
   dsimp only at h
   by_cases dk:s'.lf=some 0
   ·rw[kF dk]at h
    cases h
    exact⟨⟨xi,wt',g'ok,kp,hv⟩,dk,rfl,ms,rcE⟩
   ·rw[kB dk]at h
    cases h
    obtain⟨w2,rm2⟩:=md.w.wip (b:=b) (by rw[md.eB];exact f.b) (by rw[md.eP];exact md.fb) nl dk
    have e1:s'.lst=X.s.lst:=by unfold XS.lst;rw[ec]
    have ge:(1+k.ie)*X.s.q.P≤(s'.wip b).rmX:=by
     rw[rm2,md.eP]
     unfold XS.spc at spc
     rw[rE,rF]at *
     split at spc<;>omega
    refine⟨⟨xi.wip (by rw[md.eB];exact f.b) w2 (λev=>by rw[ec,e1];exact clb ev),λhlt=>?_,g'ok,kp.trans ⟨rfl,rfl,λ_=>Iff.rfl,rfl⟩,λm u m6 hm=>(hv m u m6 hm).wip md.w nl⟩,rfl,?_,ge,?_,⟨g',rfl⟩,by rw[lm,hn],rfl,s',e,rfl,by rw[lm];exact md⟩
    ·have hlt:(s'.wip b).rmX<(1+k.ie)*s'.q.P:=hlt
     rw[md.eP]at hlt
     omega
    ·show s'.rc++[_]=_
     rw[rcE]
    ·show(s'.wip b).rmX+ms.length=_
     rw[rm2,md.eP,lm]
     omega
end
section
variable{k:Tm}{s:XS}
theorem q4M(w:WX k s)(hr:s.rmX=(1+k.ie)*s.q.P):(∀b,b<s.q.B→s.q.fi.getD b 0=0∨s.q.fi.getD b 0=(s.q.P:Int))∧((List.range s.q.B).filter λb=>decide (s.q.fi.getD b 0=(s.q.P:Int))).length=s.q.B-(1+k.ie):=by
 have p1:=w.qs.ok.p1
 obtain⟨l,hl⟩:=FreeIs.ex s.q.B (noB s.q.B) s.cl s.q.fi
 have ll:jG s.q.B s.q.P (noB s.q.B) s.q.fi=none∧l.length=1+k.ie:=by
  rcases q1M w.on w.qs.ok.wr p1 hl with⟨h1,h2⟩|⟨b,e,h1,e1,e2,h2,_⟩
  ·refine⟨h1,?_⟩
   unfold XS.rmX at hr
   rw[hr]at h2
   exact(Nat.eq_of_mul_eq_mul_right (by omega) h2).symm
  ·exfalso
   unfold XS.rmX at hr
   rw[hr]at h2
   have k:(1+k.ie)*s.q.P%s.q.P=e:=by rw[h2,wL,pI,c9 e2]
   rw[Nat.mul_mod_left]at k
   omega
 have fl:=q9O w.on w.qs.ok.wr p1 hl ll.1
 unfold jX at fl
 rw[jT]at fl
 refine⟨λb hb=>?_,by omega⟩
 have np:=ll.1
 unfold jG at np
 rw[jT]at np
 have:=rL.mp np b (mP.mpr hb)
 obtain⟨f,ef,hf⟩:=w.qs.ok.wr b hb
 unfold jJ at this
 rw[mO,kU,kU]at this
 omega
theorem vW(x:Ix k s)(hr:s.rmX=(1+k.ie)*s.q.P):s.ded k≠[]:=by
 obtain⟨l,hl⟩:=FreeIs.ex s.q.B (noB s.q.B) s.cl s.q.fi
 have m:CM:=⟨0,0,0,[],[],s.cl,[],noB s.q.B,none,[]⟩
 have:=(qET (m:=⟨0,0,0,[],[],s.cl,[],noB s.q.B,none,[]⟩) (ie:=k.ie) x.w.qs x.w.on rfl hl hr x.sh).1
 rw[qEU x.w rfl hl]at this
 exact this
theorem qF1(wt:Wt k s)(hr:s.rmX<(1+k.ie)*s.q.P):s.opt k≠[]:=λz=>by
 obtain⟨b,b1,b2,b3,b4,b5⟩:=wt hr
 have:b∈s.opt k:=vE.mpr ⟨⟨⟨b1,b2,by
  unfold XS.spc
  rw[kB (by omega)]
  rw[rE,rF]at b4
  omega⟩,b3⟩,b5⟩
 rw[z]at this
 cases this
theorem q7S(x:Ix k s)(hr:s.rmX=(1+k.ie)*s.q.P)(ev:k.ev=true)(e0:s.opt k=[]):(∀c,c<s.q.B→s.q.fi.getD c 0=0→s.lst<s.cl.getD c 0)∧∃b,s.chg k=some b∧b<s.q.B∧s.q.fi.getD b 0=(s.q.P:Int)∧s.cl.getD b 0=s.lst∧s.q.lv.getD b 0=(s.q.P:Int):=by
 have s1:=x.s1
 have p1:=x.w.qs.ok.p1
 have nop:∀d,Full k s d→s.q.lv.getD d 0<(s.q.P:Int)→s.lst+k.sp≤s.cl.getD d 0:=λd fd ld=>by
  refine Int.not_lt.mp λz=>?_
  have:d∈s.opt k:=vE.mpr ⟨⟨fd,ld⟩,λ_=>z⟩
  rw[e0]at this
  cases this
 have fr:∀c,c<s.q.B→s.q.fi.getD c 0=0→s.lst<s.cl.getD c 0:=λc hc fc=>by
  obtain⟨d,hd⟩:=rP _ (vW x hr)
  obtain⟨fd,ld⟩:=q2M.mp hd
  have h1:=nop d fd ld
  have h2:=x.e2 ev d c fd.b hc (by rw[fd.f];omega) fc
  omega
 refine⟨fr,?_⟩
 obtain⟨rp,_⟩:=q4M x.w hr
 have hB:0<s.q.B:=by
  obtain⟨d,hd⟩:=rP _ (vW x hr)
  have:=(q2M.mp hd).1.b
  omega
 obtain⟨c,hc,ec⟩:=qEZ x.w hB
 have fc:s.q.fi.getD c 0=(s.q.P:Int):=by
  rcases rp c hc with z|z
  ·have:=fr c hc z
   omega
  ·exact z
 have spc:s.spc k=(s.q.P:Int):=by
  unfold XS.spc
  rw[kF (by omega)]
 have hc':c∈s.clb k (s.ful k):=by
  unfold XS.clb
  exact mM.mpr ⟨q5O.mpr ⟨hc,fc,by rw[spc];exact(qEV x.w hc).2⟩,hC (by omega)⟩
 have pw:(s.clb k (s.ful k)).Pairwise (· < ·):=by
  unfold XS.clb XS.ful
  exact gW _ (gW _ rB)
 obtain⟨h1,h2⟩:=q3W (cl:=s.cl) pw
 cases z:s.chg k with
 |none=>
  rw[h1 z]at hc'
  cases hc'
 |some b=>
  obtain⟨m1,m2⟩:=h2 b z
  have m1':=m1
  unfold XS.clb at m1'
  obtain⟨fb,_⟩:=mM.mp m1'
  have fb:=q5O.mp fb
  have:=m2 c hc'
  have le:s.cl.getD b 0≤s.cl.getD c 0:=by
   unfold keyN lx at this
   by_cases q:s.cl.getD c 0=s.cl.getD b 0
   ·omega
   ·rw[kB q]at this
    have:=gX this
    omega
  have cb:s.cl.getD b 0=s.lst:=by
   have:=q8D x.w fb.b
   omega
  refine⟨b,rfl,fb.b,fb.f,cb,?_⟩
  have:=qEV x.w fb.b
  have:¬s.q.lv.getD b 0<(s.q.P:Int):=λy=>by
   have:=nop b fb y
   omega
  omega
noncomputable def nlc(s:XS):Nat:=((List.range s.q.B).filter λb=>decide (s.q.fi.getD b 0=(s.q.P:Int))&&decide (s.cl.getD b 0=s.lst)).length
noncomputable def need(k:Tm)(s:XS):Nat:=if s.rd k=true then 0 else if s.rmX<(1+k.ie)*s.q.P then 1+(if k.ev=true then s.q.B-(1+k.ie)else 1)else if s.opt k≠[]then 1 else nlc s+1
theorem qAT{α:Type}{p p':α→Bool}:∀{l:List α},(∀x∈l,p' x=true→p x=true)→(∃x∈l,p x=true∧p' x=false)→(l.filter p').length<(l.filter p).length
 | [],_,h=>by obtain⟨x,hx,_⟩:=h;cases hx
 |a::l,h,g=>by
  have le:(l.filter p').length≤(l.filter p).length:=by
   have:(l.filter p').length≤(l.filter p).length:=by
    rw[←d5,←d5]
    exact cV λx hx=>h x (hU _ hx)
   exact this
  rw[mR,mR]
  obtain⟨x,hx,h1,h2⟩:=g
  rcases kL.mp hx with e|hx
  ·subst e
   rw[kF h1,kB (by rw[h2];decide),mQ]
   omega
  ·have ih:=qAT (λy hy=>h y (hU _ hy)) ⟨x,hx,h1,h2⟩
   by_cases z:p' a=true
   ·rw[kF z,kF (h a (by simp) z),mQ,mQ]
    omega
   ·rw[kB z]
    split
    ·rw[mQ]
     omega
    ·exact ih
theorem qJE(x:Ix k s)(hr:s.rmX=(1+k.ie)*s.q.P)(ev:k.ev=true)(e0:s.opt k=[]):nlc s+1≤s.q.B-(1+k.ie):=by
 obtain⟨_,fl⟩:=q4M x.w hr
 rw[←fl]
 obtain⟨d,hd⟩:=rP _ (vW x hr)
 obtain⟨fd,ld⟩:=q2M.mp hd
 refine qAT (λy _ hy=>?_) ⟨d,mP.mpr fd.b,hC fd.f,?_⟩
 ·rw[mO]at hy
  exact hy.1
 ·have:¬s.cl.getD d 0<s.lst+k.sp:=λz=>by
   have:d∈s.opt k:=vE.mpr ⟨⟨fd,ld⟩,λ_=>z⟩
   rw[e0]at this
   cases this
  have s1:=x.s1
  rw[hG (show ¬s.cl.getD d 0=s.lst by omega),Bool.and_false]
theorem qBS(x:Ix k s)(hr:(1+k.ie)*s.q.P≤s.rmX):need k s≤if k.ev=true then s.q.B-(1+k.ie)else 1:=by
 have b1:1≤s.q.B-(1+k.ie):=by
  have:=x.sh
  refine Nat.pos_of_ne_zero λz=>?_
  rw[z,Nat.zero_mul]at this
  cases this
 unfold need
 split
 ·exact m8 _
 ·rename_i nr
  have e:s.rmX=(1+k.ie)*s.q.P:=by
   unfold XS.rd at nr
   have:=gX (Bool.eq_false_iff.mpr nr)
   omega
  rw[kB (by omega)]
  split
  ·split<;>omega
  ·rename_i z
   have z:s.opt k=[]:=dM z
   cases ev:k.ev with
   |true=>
    rw[kF rfl]
    exact qJE x e ev z
   |false=>
    exfalso
    have:=vW x e
    unfold XS.opt at z
    rw[ev]at z
    exact this z
end
section
variable{k:Tm}{X Y:Sx}
theorem qGQ(x:Ix k X.s)(wt:Wt k X.s)(nr:X.s.rd k=false):∃ybg,X.s.tk k X.g=some ybg:=by
 unfold XS.tk
 by_cases z:X.s.opt k=[]
 ·rw[kF z]
  have nr':=gX nr
  have e:X.s.rmX=(1+k.ie)*X.s.q.P:=by
   have:¬X.s.rmX<(1+k.ie)*X.s.q.P:=λy=>qF1 wt y z
   omega
  cases ev:k.ev with
  |true=>
   obtain⟨_,b,hb,_⟩:=q7S x e ev z
   rw[kF rfl,hb]
   exact⟨_,rfl⟩
  |false=>
   exfalso
   have:=vW x e
   unfold XS.opt at z
   rw[ev]at z
   exact this z
 ·rw[kB z]
  exact⟨_,rfl⟩
theorem qGR{p:Pa}(x:Ix k X.s)(wt:Wt k X.s)(ok:X.g.Ok)(nr:X.s.rd k=false)(h:X.room k=(Y,.ok p)):need k Y.s<need k X.s:=by
 obtain⟨rx,hp,_,ge,rmE,⟨g',htk⟩,lm,_,s',emv,eY,md⟩:=qBR x wt ok h
 have eP:=rx.kp.eP
 have eB:=rx.kp.eB
 have fb:=q3Y ok htk
 have lvb:=q2L x.w.qs x.w.pd fb.b
 have nr':=gX nr
 have ge':(1+k.ie)*Y.s.q.P≤Y.s.rmX:=by rw[eP];exact ge
 have nl:=qBS rx.x ge'
 rw[eB]at nl
 have p1:=x.w.qs.ok.p1
 have eX:need k X.s=if X.s.rmX<(1+k.ie)*X.s.q.P then 1+(if k.ev=true then X.s.q.B-(1+k.ie)else 1)else if X.s.opt k≠[]then 1 else nlc X.s+1:=by
  rw[need,nr,kB (by decide)]
 rw[eX]
 by_cases lk:X.s.rmX<(1+k.ie)*X.s.q.P
 ·rw[kF lk]
  omega
 rw[kB lk]
 have eR:X.s.rmX=(1+k.ie)*X.s.q.P:=by omega
 rcases q1N ok htk with⟨_,h1,_⟩|⟨_,ev,e0,_,hc,h1,_⟩
 ·have ne:X.s.opt k≠[]:=λz=>by rw[z]at h1;cases h1
  rw[kF ne]
  have lt:=(vE.mp h1).1.2
  have:Y.s.rd k=true:=hC (by rw[eP];omega)
  rw[need,kF this]
  decide
 ·rw[kB (λz=>z e0)]
  obtain⟨fr,b,hb,b1,b2,b3,b4⟩:=q7S x eR ev e0
  rw[hc]at hb
  obtain rfl:=kP hb
  have rY:Y.s.rmX=(1+k.ie)*Y.s.q.P:=by rw[eP];omega
  have nrY:¬Y.s.rd k=true:=λz=>by
   have:=mL z
   omega
  rw[need,kB nrY,kB (by omega)]
  have bin:p.b∈(List.range X.s.q.B).filter λb=>decide (X.s.q.fi.getD b 0=(X.s.q.P:Int))&&decide (X.s.cl.getD b 0=X.s.lst):=mM.mpr ⟨mP.mpr b1,by rw[hC b2,hC b3];rfl⟩
  have n1:1≤nlc X.s:=List.length_pos_of_mem bin
  split
  ·omega
  ·rename_i z
   have z:Y.s.opt k=[]:=dM z
   have gcl:∀c,Y.s.cl.getD c 0=if p.b=c then X.s.cl.getD p.b 0+1 else X.s.cl.getD c 0:=λc=>by
    rw[eY]
    show(s'.cl.set p.b (s'.cl.getD p.b 0+1)).getD c 0=_
    rw[md.ec,jA,x.w.lc]
    by_cases e:p.b=c
    ·rw[kF ⟨e,b1⟩,kF e]
    ·rw[kB (λz=>e z.1),kB e]
   have gfi:∀c,Y.s.q.fi.getD c 0=if p.b=c then 0 else s'.q.fi.getD c 0:=λc=>by
    rw[eY]
    show(s'.q.fi.set p.b 0).getD c 0=_
    rw[jA,md.w.qs.ok.lf,md.eB]
    by_cases e:p.b=c
    ·rw[kF ⟨e,b1⟩,kF e]
    ·rw[kB (λz=>e z.1),kB e]
   have lle:X.s.lst≤Y.s.lst:=by
    obtain⟨c,hc,ec⟩:=qEZ rx.x.w (by rw[eB];omega)
    rw[eB]at hc
    rw[←ec,gcl]
    have:=q8D x.w hc
    have:=q8D x.w b1
    split<;>omega
   have leq:Y.s.lst=X.s.lst:=by
    refine Int.le_antisymm (Int.not_lt.mp λy=>?_) lle
    obtain⟨d,hd⟩:=rP _ (vW rx.x rY)
    obtain⟨fd,ld⟩:=q2M.mp hd
    have nc:¬Y.s.cl.getD d 0<Y.s.lst+k.sp:=λy=>by
     have:d∈Y.s.opt k:=vE.mpr ⟨⟨fd,ld⟩,λ_=>y⟩
     rw[z]at this
     cases this
    have ne:p.b≠d:=λy=>by
     have:=fd.f
     rw[gfi,kF y,eP]at this
     omega
    rw[gcl,kB ne]at nc
    have hd':=fd.b
    rw[eB]at hd'
    have:=x.gp ev d p.b hd' b1
    omega
   refine Nat.succ_lt_succ ?_
   unfold nlc
   rw[eB,eP,leq]
   refine qAT (λc hc y=>?_) ⟨p.b,mP.mpr b1,by rw[hC b2,hC b3];rfl,?_⟩
   ·have hc:=mP.mp hc
    rw[mO,kU,kU]at y ⊢
    obtain⟨y1,y2⟩:=y
    have ne:p.b≠c:=λw=>by
     rw[gfi,kF w]at y1
     omega
    rw[gcl,kB ne]at y2
    refine⟨?_,y2⟩
    rcases(q4M x.w eR).1 c hc with q|q
    ·have:=fr c hc q
     omega
    ·exact q
   ·rw[gfi,kF rfl,hG (by omega)]
    rfl
noncomputable def dOf(p:Pa):List (Str×Int×Bool):=p.mv.map putR++[(Str.ofString "wipe",(p.b:Int),true)]
structure Rms(k:Tm)(X Y:Sx)(qs:List Pa):Prop extends RmX k X Y where
 ps:Y.ps=X.ps++qs
 ln:qs.length≤need k X.s
theorem q7T:∀{i:Nat} {X:Sx},Ix k X.s→Wt k X.s→X.g.Ok→need k X.s≤i→∃Y ps ms,Rms k X Y ps∧Y.s.rc=X.s.rc++ps.flatMap dOf++ms.map putR∧((X.rooms k i=some (Y,.ok ())∧Y.s.rd k=true∧ms=[])∨(X.rooms k i=some (Y,.error .dark)∧Y.s.lf=some 0))
 |i,X,x,wt,ok,hi=>by
  cases rd:X.s.rd k with
  |true=>
   refine⟨X,[],[],⟨⟨x,wt,ok,Kp.refl,λ_ _ _ z=>z⟩,by simp,m8 _⟩,by simp,.inl ⟨?_,rd,rfl⟩⟩
   cases i with
   |zero=>unfold Sx.rooms;rw[rd,kF rfl]
   |succ i=>unfold Sx.rooms;rw[rd,kF rfl]
  |false=>
   cases i with
   |zero=>
    exfalso
    unfold need at hi
    rw[rd,kB (by decide)]at hi
    split at hi
    ·omega
    ·split at hi<;>omega
   |succ i=>
    cases e:X.room k with
    |mk W o=>
     obtain⟨rx,hh⟩:=qBR x wt ok e
     cases o with
     |error q=>
      cases q with
      |room=>
       obtain⟨_,h⟩:=hh
       obtain⟨ybg,h'⟩:=qGQ x wt rd
       rw[h]at h'
       cases h'
      |dark=>
       obtain⟨dk,eps,ms,erc⟩:=hh
       refine⟨W,[],ms,⟨rx,by rw[eps];simp,m8 _⟩,by rw[erc];simp,.inr ⟨?_,dk⟩⟩
       unfold Sx.rooms
       rw[rd,kB (by decide),e]
     |ok p=>
      have lt:=qGR x wt ok rd e
      obtain⟨eps,erc,_⟩:=hh
      obtain⟨Y,ps,ms,ry,hrc,hr⟩:=q7T (i:=i) rx.x rx.wt rx.ok (by omega)
      refine⟨Y,p::ps,ms,⟨⟨ry.x,ry.wt,ry.ok,rx.kp.trans ry.kp,λm u m6 z=>ry.hv m u m6 (rx.hv m u m6 z)⟩,?_,?_⟩,?_,?_⟩
      ·rw[ry.ps,eps,cQ]
       rfl
      ·have:=ry.ln
       rw[mQ]
       omega
      ·rw[hrc,erc,List.flatMap_cons]
       simp[dOf]
      ·have er:X.rooms k (i+1)=W.rooms k i:=by
        rw[Sx.rooms,rd,kB (by decide),e]
       rw[er]
       exact hr
end
structure AskO(k:Tm)(i:Nat)(X:Sx)(n v:Int)(Y:Sx)(qs:List Pa)(p:Nat):Prop where
 rl:Y.s.rc.length≤X.s.rc.length+17*i+1
 x:Ix k Y.s
 ge:(1+k.ie)*Y.s.q.P≤Y.s.rmX
 ok:Y.g.Ok
 ps:Y.ps=X.ps++qs
 ln:qs.length≤need k X.s
 eB:Y.s.q.B=X.s.q.B
 eP:Y.s.q.P=X.s.q.P
 nm:∀m,(∃p,(m,p)∈Y.s.q.V)↔m=n∨∃p,(m,p)∈X.s.q.V
 hv:∀m u,m≠64→m≠n→Hv X.s m u→Hv Y.s m u
 hn:Hv Y.s n v
 rc:Y.s.rc=X.s.rc++qs.flatMap dOf++[(Str.ofString "put",(p:Int),true)]
structure AskD(k:Tm)(i:Nat)(X:Sx)(Y:Sx)(qs:List Pa):Prop where
 rl:Y.s.rc.length≤X.s.rc.length+17*i+1
 x:Ix k Y.s
 wt:Wt k Y.s
 ok:Y.g.Ok
 ps:Y.ps=X.ps++qs
 ln:qs.length≤need k X.s
 kp:Kp X.s Y.s
 hv:∀m u,m≠64→Hv X.s m u→Hv Y.s m u
 lf:Y.s.lf=some 0
 rc:∃ms,Y.s.rc=X.s.rc++qs.flatMap dOf++List.map putR ms
section
variable{k:Tm}{X:Sx}{n v:Int}
theorem qBT{i:Nat}(x:Ix k X.s)(wt:Wt k X.s)(ok:X.g.Ok)(hi:need k X.s≤i)(n0:0≤n)(n1:n≤64)(hl:(∃p,(n,p)∈X.s.q.V)∨(X.s.q.V.length<59∧X.s.q.V.length+1<(X.s.q.B-(1+k.ie))*X.s.q.P)):(∃Y qs p,X.ask k i n v=some (Y,.ok p)∧AskO k i X n v Y qs p)∨∃Y qs,X.ask k i n v=some (Y,.error .dark)∧AskD k i X Y qs:=by
 obtain⟨Y,ps,ms,r,hrc,⟨hr,rd,e0⟩|⟨hr,dk⟩⟩:=q7T x wt ok hi
 ·have rl:=(q0F x.w ok hr).2.2.2.1
  have rd:=mL rd
  unfold Sx.ask
  rw[hr]
  dsimp only
  by_cases dk:Y.s.lf=some 0
  ·rw[kF dk]
   exact .inr ⟨Y,ps,rfl,by omega,r.x,r.wt,r.ok,r.ps,r.ln,r.kp,r.hv,dk,ms,hrc⟩
  ·rw[kB dk]
   have rd':=rd
   rw[rE,rF]at rd'
   have hl':(∃p,(n,p)∈Y.s.q.V)∨Y.s.q.V.length<59:=by
    rw[r.kp.lV]
    exact hl.imp (λz=>(r.kp.nm n).mpr z) λz=>z.1
   obtain⟨w',rm'⟩:=r.x.w.put (n:=n) (v:=v) (by omega) n0 n1 hl' dk
   refine .inl ⟨_,ps,_,rfl,?_,r.x.put (by omega) w' ?_,?_,r.ok,r.ps,r.ln,r.kp.eB,r.kp.eP,λm=>?_,λm u m6 mn z=>(r.hv m u m6 z).put r.x.w (by omega) mn,Hv.new,?_⟩
   ·show(Y.s.rc++[_]).length≤_
    rw[mC,gD]
    omega
   ·show(jI Y.s.q.V n++[_]).length< _
    rw[mC,gD]
    obtain⟨d1,d2⟩:=q0E (V:=Y.s.q.V) (n:=n) r.x.w.qs.ok.nd
    have lV:=r.kp.lV
    rcases hl with z|⟨_,z⟩
    ·obtain⟨p,hp⟩:=(r.kp.nm n).mpr z
     rw[d2 p hp]
     exact r.x.sh
    ·rw[r.kp.eB,r.kp.eP]
     omega
   ·show(1+k.ie)*Y.s.q.P≤(Y.s.put n v).rmX
    omega
   ·rw[←r.kp.nm m]
    constructor
    ·rintro⟨p,h⟩
     rcases yW.mp h with e|⟨h,_⟩
     ·cases e
      exact .inl rfl
     ·exact .inr ⟨p,h⟩
    ·intro z
     by_cases e:m=n
     ·exact⟨_,yW.mpr (.inl (by rw[e]))⟩
     ·rcases z with z|⟨p,h⟩
      ·exact absurd z e
      ·exact⟨p,yW.mpr (.inr ⟨h,e⟩)⟩
   ·show Y.s.rc++[_]=_
    rw[hrc,e0]
    simp
 ·have rl:=(q0F x.w ok hr).2.2.2.1
  unfold Sx.ask
  rw[hr]
  exact .inr ⟨Y,ps,rfl,by omega,r.x,r.wt,r.ok,r.ps,r.ln,r.kp,r.hv,dk,ms,hrc⟩
end
section
variable{k:Tm}{s:XS}
theorem WX.lf(w:WX k s){l:Option Int}(h:∀i,l=some i→0≤i):WX k { s with lf:=l }:={ w with l0:=h }
theorem Ix.lf(x:Ix k s){l:Option Int}(h:∀i,l=some i→0≤i):Ix k { s with lf:=l }:=⟨x.w.lf h,x.sh,x.s1,x.gp,x.e2⟩
theorem Ix.forg(x:Ix k s)(n:Int):Ix k (s.forg n):=by
 refine⟨x.w.forg n,?_,x.s1,x.gp,x.e2⟩
 have:=(q0E (V:=s.q.V) (n:=n) x.w.qs.ok.nd).1
 have:=x.sh
 show(jI s.q.V n).length< _
 show _ <(s.q.B-(1+k.ie))*s.q.P
 omega
theorem q34(x:Ix k s):∀(g:List Int),Ix k (s.forgs g)∧(s.forgs g).rmX=s.rmX∧(s.forgs g).rc=s.rc∧(s.forgs g).cl=s.cl∧(s.forgs g).lf=s.lf∧(s.forgs g).q.B=s.q.B∧(s.forgs g).q.P=s.q.P∧(∀m,(∃p,(m,p)∈(s.forgs g).q.V)↔m∉g∧∃p,(m,p)∈s.q.V)∧∀m u,m∉g→Hv s m u→Hv (s.forgs g) m u:=by
 intro g
 induction g generalizing s with
 |nil=>exact⟨x,rfl,rfl,rfl,rfl,rfl,rfl,λm=>by simp[XS.forgs],λm u _ h=>h⟩
 |cons n g ih=>
  obtain⟨a1,a2,a3,a4,a5,a6,a7,a8,a9⟩:=ih (x.forg n)
  refine⟨a1,a2,a3,a4,a5,a6,a7,λm=>?_,λm u hm h=>?_⟩
  ·show(∃p,(m,p)∈((s.forg n).forgs g).q.V)↔_
   rw[a8]
   constructor
   ·rintro⟨h1,p,hp⟩
    obtain⟨h2,h3⟩:=j9.mp hp
    exact⟨λz=>(kL.mp z).elim h3 h1,p,h2⟩
   ·rintro⟨h1,p,hp⟩
    exact⟨λz=>h1 (hU _ z),p,j9.mpr ⟨hp,λz=>h1 (by rw[show m=n from z];exact kW)⟩⟩
  ·exact a9 m u (λz=>hm (hU _ z)) (h.forg λz=>hm (by rw[z];exact kW))
theorem Wt.of(h:(1+k.ie)*s.q.P≤s.rmX):Wt k s:=λz=>by omega
theorem qJF{n:Int}:n∈s.hl↔n≠64∧∃p,(n,p)∈s.q.V:=by
 unfold XS.hl
 rw[cK,mM,kO]
 constructor
 ·rintro⟨⟨y,h,e⟩,h2⟩
  refine⟨mL h2,y.2,?_⟩
  rw[←e]
  exact h
 ·rintro⟨h1,p,hp⟩
  exact⟨⟨_,hp,rfl⟩,hC h1⟩
end
noncomputable def newX(B P:Nat):XS:=⟨⟨P,B,1,[],List.replicate B 0,List.replicate B 0,List.replicate B 0⟩,List.replicate B 0,λ_=>none,none,[]⟩
theorem qGS{k:Tm}{B P:Nat}(b2:B≤16)(p1:1≤P)(p2:P≤16)(hk:1+k.ie<B)(s1:1≤k.sp):Ix k (newX B P)∧(1+k.ie)*P≤(newX B P).rmX:=by
 have r0:∀n i:Nat,(List.replicate n (0:Int)).getD i 0=0:=λn i=>rep8
 have rmE:(newX B P).rmX=B*P:=by
  unfold XS.rmX newX rm clr1
  dsimp only
  have:∀n,((List.range n).map λb=>P-((List.replicate B (0:Int)).getD b 0).toNat).sum=n*P:=λn=>by
   induction n with
   |zero=>simp
   |succ n ih=>
    rw[pK,mV,List.sum_append,ih,wK,pW,r0]
    simp
  exact this B
 have le:(1+k.ie)*P≤B*P:=gN _ (by omega)
 have ok:(newX B P).q.Ok:=by
  refine⟨p1,p2,b2,gG,gG,gG,by simp[newX],λq hq=>absurd (show q∈([]:Mp)from hq) (by simp),λq hq=>absurd (show q∈([]:Mp)from hq) (by simp),λb hb=>⟨0,r0 _ _,m8 _⟩⟩
 refine⟨⟨⟨⟨ok,λb hb=>?_⟩,λb c _ _ h1 _=>?_,gG,λ_ _ _ _ _=>rfl,λy hy=>absurd (show y∈([]:Mp)from hy) (by simp),by simp[newX],λb=>?_,λb=>?_,gL _,?_,?_,λi e=>by cases e⟩,?_,s1,λ_ b c _ _=>?_,λ_ d c _ _ h _=>absurd (r0 _ _) h⟩,?_⟩
 ·rw[show(newX B P).q.lv=List.replicate B 0 from rfl,r0]
  rfl
 ·unfold jJ at h1
  rw[show(newX B P).q.fi=List.replicate B 0 from rfl,r0]at h1
  simp at h1
 ·rw[show(newX B P).cl=List.replicate B 0 from rfl,r0]
  exact⟨gL _,gL _⟩
 ·rw[show(newX B P).q.bo=List.replicate B 0 from rfl,r0]
  exact⟨gL _,by show(0:Int)<1;decide⟩
 ·rw[rmE]
  show k.ie*P≤B*P
  exact gN _ (by omega)
 ·show 0<60
  decide
 ·show 0<(B-(1+k.ie))*P
  exact Nat.mul_pos (by omega) p1
 ·rw[show(newX B P).cl=List.replicate B 0 from rfl,r0,r0]
  omega
 ·rw[rmE]
  exact le
structure Kd(k:Tm)(sh:Int)(sr:Nat)(X:Sx)(KD:Mp):Prop where
 x:Ix k X.s
 wt:Wt k X.s
 ok:X.g.Ok
 nd:(KD.map (·.1)).Nodup
 kb:∀y∈KD,0≤y.1∧y.1<sh
 eq:∀n,n≠64→((∃p,(n,p)∈X.s.q.V)↔n∈KD.map (·.1))
 hv:∀y∈KD,Hv X.s y.1 y.2
 ls:KD.length≤sr
 hs:sr+2≤(X.s.q.B-(1+k.ie))*X.s.q.P
 s57:sr≤57
 h64:sh≤64
section
variable{k:Tm}{sh:Int}{sr:Nat}{X Y:Sx}{KD:Mp}{n v:Int}{i:Nat}{qs:List Pa}{p:Nat}
theorem Kd.pm(h:Kd k sh sr X KD):((X.s.q.V.map (·.1)).filter λn=>decide (n≠64)).Perm (KD.map (·.1)):=by
 refine q2K (gW _ h.x.w.qs.ok.nd) h.nd λy=>?_
 rw[mM,kU]
 constructor
 ·rintro⟨a,b⟩
  refine(h.eq y b).mp ?_
  obtain⟨z,hz,rfl⟩:=kO.mp a
  exact⟨z.2,hz⟩
 ·intro hy
  have:y≠64:=by
   obtain⟨z,hz,rfl⟩:=kO.mp hy
   have:=h.kb z hz
   have:=h.h64
   omega
  obtain⟨p,hp⟩:=(h.eq y this).mpr hy
  exact⟨kO.mpr ⟨_,hp,rfl⟩,this⟩
theorem Kd.lV(h:Kd k sh sr X KD):X.s.q.V.length≤KD.length+1:=by
 have h1:=qJA h.x.w.qs.ok.nd
 have h2:=h.pm.length_eq
 rw[hI]at h2
 omega
theorem Kd.hl(h:Kd k sh sr X KD){n:Int}:n∈X.s.hl↔n∈KD.map (·.1):=by
 rw[qJF]
 constructor
 ·rintro⟨a,b⟩
  exact(h.eq n a).mp b
 ·intro hy
  have:n≠64:=by
   obtain⟨z,hz,rfl⟩:=kO.mp hy
   have:=h.kb z hz
   have:=h.h64
   omega
  exact⟨this,(h.eq n this).mpr hy⟩
theorem qGT{s:XS}(x:Ix k s):need k s≤17:=by
 have b2:=x.w.qs.ok.b2
 by_cases z:(1+k.ie)*s.q.P≤s.rmX
 ·have:=qBS x z
  split at this<;>omega
 ·unfold need
  split
  ·omega
  ·rw[kF (by omega)]
   split<;>omega
theorem Kd.can(h:Kd k sh sr X KD)(n0:0≤n)(n1:n<sh)(hc:n∈KD.map (·.1)∨KD.length<sr):(∃p,(n,p)∈X.s.q.V)∨(X.s.q.V.length<59∧X.s.q.V.length+1<(X.s.q.B-(1+k.ie))*X.s.q.P):=by
 have:=h.lV
 have:=h.hs
 have:=h.s57
 have:=h.h64
 rcases hc with z|z
 ·exact .inl ((h.eq n (by omega)).mpr z)
 ·exact .inr ⟨by omega,by omega⟩
theorem Kd.can64(h:Kd k sh sr X KD)(ne:KD≠[]):(∃p,((64:Int),p)∈X.s.q.V)∨(X.s.q.V.length<59∧X.s.q.V.length+1<(X.s.q.B-(1+k.ie))*X.s.q.P):=by
 have hs:=h.hs
 have ls:=h.ls
 have s57:=h.s57
 by_cases z:∃p,((64:Int),p)∈X.s.q.V
 ·exact .inl z
 ·have e:(X.s.q.V.map (·.1)).filter (λn=>decide (n≠64))=X.s.q.V.map (·.1):=d7.mpr λy hy=>hC λw=>z (by
   obtain⟨u,hu,rfl⟩:=kO.mp hy
   exact⟨u.2,by rw[←w];exact hu⟩)
  have:=h.pm.length_eq
  rw[e,hI,hI]at this
  exact .inr ⟨by omega,by omega⟩
theorem Kd.wrote(h:Kd k sh sr X KD)(n0:0≤n)(n1:n<sh)(hc:n∈KD.map (·.1)∨KD.length<sr)(a:AskO k i X n v Y qs p):Kd k sh sr Y (putW KD n v):=by
 have h64:=h.h64
 have mp:∀q,q∈putW KD n v↔q=(n,v)∨(q∈KD∧q.1≠n):=λq=>by rw[q3V h.nd,j9]
 have mk:∀m,m∈(putW KD n v).map (·.1)↔m=n∨m∈KD.map (·.1):=λm=>by
  rw[kO,kO]
  constructor
  ·rintro⟨q,hq,rfl⟩
   rcases(mp q).mp hq with e|⟨e,_⟩
   ·rw[e];exact .inl rfl
   ·exact .inr ⟨q,e,rfl⟩
  ·intro z
   by_cases e:m=n
   ·exact⟨(n,v),(mp _).mpr (.inl rfl),e.symm⟩
   ·rcases z with z|⟨q,hq,rfl⟩
    ·exact absurd z e
    ·exact⟨q,(mp _).mpr (.inr ⟨hq,e⟩),rfl⟩
 refine⟨a.x,Wt.of a.ge,a.ok,qCL h.nd,λy hy=>?_,λm m6=>?_,λy hy=>?_,?_,by rw[a.eB,a.eP];exact h.hs,h.s57,h64⟩
 ·rcases(mp y).mp hy with e|⟨e,_⟩
  ·rw[e];exact⟨n0,n1⟩
  ·exact h.kb y e
 ·rw[a.nm,mk,h.eq m m6]
 ·rcases(mp y).mp hy with e|⟨e,en⟩
  ·rw[e];exact a.hn
  ·have:=h.kb y e
   exact a.hv _ _ (by omega) en (h.hv y e)
 ·unfold putW
  split
  ·rw[hI]
   exact h.ls
  ·rename_i z
   rw[mC,gD]
   rcases hc with w|w
   ·exfalso
    obtain⟨q,hq,e⟩:=kO.mp w
    exact z (wF.mpr ⟨q,hq,hC e⟩)
   ·omega
theorem Kd.dark(h:Kd k sh sr X KD)(a:AskD k i X Y qs):Kd k sh sr Y KD:=by
 have h64:=h.h64
 exact⟨a.x,a.wt,a.ok,h.nd,h.kb,λm m6=>by rw[a.kp.nm,h.eq m m6],λy hy=>a.hv _ _ (by have:=h.kb y hy;omega) (h.hv y hy),h.ls,by rw[a.kp.eB,a.kp.eP];exact h.hs,h.s57,h64⟩
theorem Kd.gave(h:Kd k sh sr X KD){b:Int}(a:AskO k i X 64 b Y qs p){g:List Int}(hg:∀m∈g,m≠64):Kd k sh sr ⟨Y.s.forgs g,Y.g,Y.ps⟩ (KD.filter λy=>!decide (y.1∈g)):=by
 have h64:=h.h64
 obtain⟨a1,a2,a3,a4,a5,a6,a7,a8,a9⟩:=q34 a.x g
 have mk:∀y,y∈KD.filter (λy=>!decide (y.1∈g))↔y∈KD∧y.1∉g:=λy=>by
  rw[mM,dZ,d3]
 refine⟨a1,Wt.of ?_,a.ok,h.nd.sublist (cE.map _),λy hy=>h.kb y ((mk y).mp hy).1,λm m6=>?_,λy hy=>?_,mI (mD _ _) h.ls,?_,h.s57,h64⟩
 ·show(1+k.ie)*(Y.s.forgs g).q.P≤(Y.s.forgs g).rmX
  rw[a2,a7]
  exact a.ge
 ·rw[a8,a.nm,kO]
  constructor
  ·rintro⟨e1,e|e⟩
   ·exact absurd e m6
   ·obtain⟨y,hy,e⟩:=kO.mp ((h.eq m m6).mp e)
    exact⟨y,(mk y).mpr ⟨hy,by rw[e];exact e1⟩,e⟩
  ·rintro⟨y,hy,rfl⟩
   obtain⟨h1,h2⟩:=(mk y).mp hy
   exact⟨h2,.inr ((h.eq _ m6).mpr (kO.mpr ⟨y,h1,rfl⟩))⟩
 ·obtain⟨h1,h2⟩:=(mk y).mp hy
  have:=h.kb y h1
  exact a9 _ _ h2 (a.hv _ _ (by omega) (by omega) (h.hv y h1))
 ·show sr+2≤((Y.s.forgs g).q.B-(1+k.ie))*(Y.s.forgs g).q.P
  rw[a6,a7,a.eB,a.eP]
  exact h.hs
theorem Kd.lf(h:Kd k sh sr X KD){l:Option Int}(hl:∀i,l=some i→0≤i):Kd k sh sr ⟨{ X.s with lf:=l },X.g,X.ps⟩ KD:=⟨h.x.lf hl,h.wt,h.ok,h.nd,h.kb,h.eq,h.hv,h.ls,h.hs,h.s57,h.h64⟩
end
end W1
namespace L2
open PySem PySem.Spec PyProof.Rows
section
variable{X:Cx}{k:Nat}{f W:Addr}{fd:FuncData}{ps:List Str}{sp:Sp}{dvs:List V}{ds:List Value}{x m:Str}{p pos apos:Pos}{e:Expr}{es:List Expr}{t:TA}
theorem qJG{CX:CXT}{E:XK}(b:ClM X.K W m f)(F:FnOk X.prog X.w X.K X.mg X.base CX k f fd ps sp)(hr:Room k X.A)(hg:Gl X x)(hm:X.mg x=some (.ref W))(hb:yG X.K fd ps ds)(hd:Vals dvs ds)(hx:q0Q CX X E)(ha:PA X (e::es) t)(hdb:(x==("__debug__":Str))=false:=by decide)
 (he:starEach (e::es) X.env=(false,eval e X.env)::starEach es X.env:=by rfl) (hpl:(backTo pos (starEach es X.env)).any (·.1)=false:=by rfl) {pl:Sem Bool}
 (ht:eval (.Call (.Attribute (.Name x p) m apos) (e::es) [] pos) X.env=(do
  let ov←eval (.Name x p) X.env
  standAt apos.atName
  let(f,first)←holding [ov] (getMethod ov m pl)
  callWith pos f first (backTo pos (starEach (e::es) X.env)) (backToKw pos (keywordEach [] X.env))):=by rfl):
 PE X (.Call (.Attribute (.Name x p) m apos) (e::es) [] pos) (qH6 sp dvs E t):=by
 intro pins s σ H Q I h
 refine rM (pl:=pl) (q2G I hg hm ?_ hdb) ht
 refine PySem.W.method_cls I.kIn b.ga (PySem.W.cls_value I.kIn b.rd b.fd rfl ?_)
 refine wJ (first:=[]) (h₀:=X.base) I.ok.mod.kin b.kp (thn (ha pos pins _ σ H _ (I.tok _) h) λus s2 ⟨vs,H2,I2,r,q2⟩=>⟨I2.kIn,?_⟩) he hpl
 exact q7X F hr hb hd hx I2 r q2
end
end L2
namespace W1
open PySem L2
structure Pgs(s:XS):Prop where
 wr:∀b f:Nat,b<s.q.B→f<s.q.P→(f:Int)<s.q.fi.getD b 0→∃v,s.pg (b*s.q.P+f)=some v
 mr:∀i v,s.pg i=some v→128≤v.1∧v.1<s.q.nx*128∧v.1%128≤64
 one:∀i j a b,s.pg i=some a→s.pg j=some b→a.1 / 128=b.1 / 128→i=j
 nw:∀y∈s.q.V,∃v,s.pg y.2.toNat=some v∧v.1%128=y.1∧∀j w,s.pg j=some w→w.1%128=y.1→w.1≤v.1
 rl:(∃i v,s.pg i=some v∧v.1%128=64)→∃p,((64:Int),p)∈s.q.V
 bn:∀b,b<s.q.B→(s.q.fi.getD b 0=0→s.q.bo.getD b 0=0)∧(0<s.q.fi.getD b 0→∃v,s.pg (b*s.q.P)=some v∧s.q.bo.getD b 0=v.1 / 128)
section
variable{k:Tm}{s:XS}{n v:Int}{b:Nat}
theorem Pgs.put(h:Pgs s)(w:WX k s)(hr:0<s.rmX)(n0:0≤n)(n1:n≤64):Pgs (s.put n v):=by
 obtain⟨hb,hf,ef,_⟩:=w.spot hr
 have nx1:=w.nx
 have gfi:∀c,(s.put n v).q.fi.getD c 0=if s.pb=c then(s.pf:Int)+1 else s.q.fi.getD c 0:=q89 w.qs.ok.lf hb ef
 have gpg:∀i,(s.put n v).pg i=if i=s.np then some (s.q.nx*128+n,v)else s.pg i:=λi=>rfl
 have npn:s.pg s.np=none:=w.cr s.pb s.pf hb (by rw[ef];exact gL _) hf
 have ene:∀{c f:Nat},f<s.q.P→c*s.q.P+f=s.np→c=s.pb∧f=s.pf:=λhf' e=>q4L hf' hf e
 have enx:(s.put n v).q.nx=s.q.nx+1:=rfl
 refine⟨λc f hc hf' lt=>?_,λi u e=>?_,λi j a c ea ec eq=>?_,λy hy=>?_,λ⟨i,u,e,e6⟩=>?_,λc hc=>?_⟩
 ·have hc:c<s.q.B:=hc
  have hf':f<s.q.P:=hf'
  show ∃u,(s.put n v).pg (c*s.q.P+f)=some u
  rw[gpg]
  split
  ·exact⟨_,rfl⟩
  ·rename_i ne
   rw[gfi]at lt
   refine h.wr c f hc hf' ?_
   split at lt
   ·rename_i z
    have:f≠s.pf:=λz2=>ne (by unfold XS.np;rw[z,z2])
    rw[←z,ef]
    omega
   ·exact lt
 ·rw[gpg]at e
  rw[enx]
  split at e
  ·cases e
   show 128≤s.q.nx*128+n∧s.q.nx*128+n< _∧(s.q.nx*128+n)%128≤64
   omega
  ·obtain⟨a1,a2,a3⟩:=h.mr i u e
   exact⟨a1,by omega,a3⟩
 ·rw[gpg]at ea ec
  split at ea
  ·rename_i zi
   cases ea
   split at ec
   ·rename_i zj
    rw[zi,zj]
   ·obtain⟨_,a2,_⟩:=h.mr j c ec
    have eq:(s.q.nx*128+n) / 128=c.1 / 128:=eq
    omega
  ·split at ec
   ·cases ec
    obtain⟨_,a2,_⟩:=h.mr i a ea
    have eq:a.1 / 128=(s.q.nx*128+n) / 128:=eq
    omega
   ·exact h.one i j a c ea ec eq
 ·rcases yW.mp hy with e|⟨hy,ne⟩
  ·subst e
   refine⟨(s.q.nx*128+n,v),?_,?_,λj u e _=>?_⟩
   ·rw[gpg,kF (by show((s.pb*s.q.P+s.pf:Nat):Int).toNat=s.np;rw[kY];rfl)]
   ·show(s.q.nx*128+n)%128=n
    omega
   ·rw[gpg]at e
    split at e
    ·cases e
     exact gL _
    ·obtain⟨_,a2,_⟩:=h.mr j u e
     show u.1≤s.q.nx*128+n
     omega
  ·obtain⟨u,e1,e2,e3⟩:=h.nw y hy
   refine⟨u,?_,e2,λj x e ex=>?_⟩
   ·rw[gpg,kB λz=>by rw[z,npn]at e1;cases e1]
    exact e1
   ·rw[gpg]at e
    split at e
    ·cases e
     have ex:(s.q.nx*128+n)%128=y.1:=ex
     exact absurd (show y.1=n by omega) ne
    ·exact e3 j x e ex
 ·by_cases z:n=64
  ·exact⟨_,yW.mpr (.inl (by rw[z]))⟩
  ·rw[gpg]at e
   split at e
   ·cases e
    have e6:(s.q.nx*128+n)%128=64:=e6
    omega
   ·obtain⟨p,hp⟩:=h.rl ⟨i,u,e,e6⟩
    exact⟨p,yW.mpr (.inr ⟨hp,λy=>z y.symm⟩)⟩
 ·have hc:c<s.q.B:=hc
  have lo:=w.qs.ok.lo
  have ebo:(s.put n v).q.bo=if s.q.fi.getD s.pb 0=0 then s.q.bo.set s.pb s.q.nx else s.q.bo:=rfl
  rw[gfi]
  show(_→(s.put n v).q.bo.getD c 0=0)∧(_→∃u,(s.put n v).pg (c*s.q.P)=some u∧(s.put n v).q.bo.getD c 0=_)
  obtain⟨b1,b2⟩:=h.bn c hc
  by_cases z:s.pb=c
  ·rw[kF z]
   refine⟨λe=>by omega,λ_=>?_⟩
   rw[gpg,ebo]
   by_cases y:s.q.fi.getD s.pb 0=0
   ·have pf0:s.pf=0:=by rw[ef]at y;omega
    rw[kF (by unfold XS.np;rw[z,pf0];rfl),kF y]
    refine⟨_,rfl,?_⟩
    rw[jA,kF ⟨z,by rw[lo];exact hb⟩]
    show s.q.nx=(s.q.nx*128+n) / 128
    omega
   ·rw[kB λq=>y (by
     have:=(ene (c:=c) (f:=0) (by omega) (by rw[cT];exact q)).2
     rw[ef,←this];rfl),kB y]
    exact b2 (by rw[←z];rw[ef]at y ⊢;omega)
  ·rw[kB z]
   have nz:¬c*s.q.P=s.np:=λq=>z (ene (c:=c) (f:=0) (by omega) (by rw[cT];exact q)).1.symm
   have eb:(s.put n v).q.bo.getD c 0=s.q.bo.getD c 0:=by
    rw[ebo]
    split
    ·rw[jA,kB λq=>z q.1]
    ·rfl
   rw[eb,gpg,kB nz]
   exact⟨b1,b2⟩
theorem Pgs.wip(h:Pgs s)(w:WX k s)(hb:b<s.q.B)(nl:∀y∈s.q.V,¬y.2 / (s.q.P:Int)=(b:Int)):Pgs (s.wip b):=by
 have p1:=w.qs.ok.p1
 have gfi:∀c,(s.wip b).q.fi.getD c 0=if b=c then 0 else s.q.fi.getD c 0:=λc=>by
  show(s.q.fi.set b 0).getD c 0=_
  rw[jA,w.qs.ok.lf]
  by_cases e:b=c
  ·rw[kF ⟨e,hb⟩,kF e]
  ·rw[kB (λz=>e z.1),kB e]
 have gbo:∀c,(s.wip b).q.bo.getD c 0=if b=c then 0 else s.q.bo.getD c 0:=λc=>by
  show(s.q.bo.set b 0).getD c 0=_
  rw[jA,w.qs.ok.lo]
  by_cases e:b=c
  ·rw[kF ⟨e,hb⟩,kF e]
  ·rw[kB (λz=>e z.1),kB e]
 have gpg:∀i,(s.wip b).pg i=if i / s.q.P=b then none else s.pg i:=λi=>rfl
 have old:∀{i u},(s.wip b).pg i=some u→s.pg i=some u:=fun {i u} e=>by
  rw[gpg]at e
  split at e
  ·cases e
  ·exact e
 have dv:∀{c f:Nat},f<s.q.P→(c*s.q.P+f) / s.q.P=c:=λhf=>yE hf
 refine⟨λc f hc hf lt=>?_,λi u e=>h.mr i u (old e),λi j a c ea ec=>h.one i j a c (old ea) (old ec),λy hy=>?_,λ⟨i,u,e,e6⟩=>h.rl ⟨i,u,old e,e6⟩,λc hc=>?_⟩
 ·have hf:f<s.q.P:=hf
  rw[gfi]at lt
  show ∃u,(s.wip b).pg (c*s.q.P+f)=some u
  rw[gpg,dv hf]
  by_cases z:b=c
  ·rw[kF z]at lt
   omega
  ·rw[kB z]at lt
   rw[kB (λq=>z q.symm)]
   exact h.wr c f hc hf lt
 ·obtain⟨u,e1,e2,e3⟩:=h.nw y hy
  refine⟨u,?_,e2,λj x e=>e3 j x (old e)⟩
  obtain⟨c,f,_,_,hf,e,_⟩:=w.vl y hy
  rw[gpg,kB λq=>nl y hy (by
   rw[e,kY]at q
   rw[e,←dQ,q])]
  exact e1
 ·rw[gfi,gbo]
  show _∧(_→∃u,(s.wip b).pg (c*s.q.P)=some u∧_)
  obtain⟨b1,b2⟩:=h.bn c hc
  by_cases z:b=c
  ·rw[kF z,kF z]
   exact⟨λ_=>rfl,λq=>by omega⟩
  ·rw[kB z,kB z,gpg,kB λq=>z (by
    have:=dv (c:=c) (f:=0) (by omega)
    rw[cT]at this
    rw[←q,this])]
   exact⟨b1,b2⟩
theorem Pgs.forg(h:Pgs s){m:Int}(ne:m≠64):Pgs (s.forg m):=⟨h.wr,h.mr,h.one,λy hy=>h.nw y (j9.mp hy).1,λz=>let⟨p,hp⟩:=h.rl z;⟨p,j9.mpr ⟨hp,λy=>ne y.symm⟩⟩,h.bn⟩
theorem Pgs.forgs:∀{g:List Int} {s:XS},Pgs s→(∀m∈g,m≠64)→Pgs (s.forgs g)
 | [],_,h,_=>h
 |m::g,s,h,ne=>Pgs.forgs (g:=g) (h.forg (ne m kW)) λx hx=>ne x (hU _ hx)
end
theorem qF2{B P:Nat}:Pgs (newX B P):=by
 have r0:∀n i:Nat,(List.replicate n (0:Int)).getD i 0=0:=λn i=>rep8
 refine⟨λb f _ _ lt=>?_,λi v e=>(by cases e),λi j a b e=>(by cases e),λy hy=>absurd (show y∈([]:Mp)from hy) (by simp),λ⟨_,_,e,_⟩=>(by cases e),λb _=>⟨λ_=>r0 _ _,λlt=>?_⟩⟩
 ·rw[show(newX B P).q.fi=List.replicate B 0 from rfl,r0]at lt
  omega
 ·rw[show(newX B P).q.fi=List.replicate B 0 from rfl,r0]at lt
  omega
section
variable{F:V→Int→Prop}{kvs:List (Key×V)}{W:Mp}
noncomputable def KvP(F:V→Int→Prop)(kv:Key×V)(x:Int×Int):Prop:=kv.1=Sum.inl x.1∧F kv.2 x.2
theorem q9Q:∀{kvs:List (Key×V)} {W:Mp},Paired (KvP F) kvs W→kvs.map (·.1)=(W.map (·.1)).map Sum.inl
 |_,_,.nil=>rfl
 |_,_,.cons h r=>by rw[mG,mG,mG,h.1,q9Q r]
theorem qBU{n:Int}:∀{kvs:List (Key×V)} {W:Mp},Paired (KvP F) kvs W→(kvs.any λkv=>decide (kv.1=(Sum.inl n:Key)))=W.any λx=>decide (x.1=n)
 |_,_,.nil=>rfl
 |_,_,.cons (a:=a) (b:=b) h r=>by
  rw[r9,r9,qBU r,h.1]
  congr 1
  by_cases z:b.1=n
  ·rw[z,hC rfl,hC rfl]
  ·rw[hG z,hG (λy=>z (rV y))]
theorem qBV{n p:Int}{v:V}(hv:F v p):∀{kvs:List (Key×V)} {W:Mp},Paired (KvP F) kvs W→Paired (KvP F) (kvs.map λkv=>if kv.1=(Sum.inl n:Key)then(kv.1,v)else kv) (W.map λx=>if x.1=n then(x.1,p)else x)
 |_,_,.nil=>.nil
 |_,_,.cons (a:=a) (b:=b) h r=>by
  rw[mG,mG]
  refine .cons ?_ (qBV hv r)
  by_cases z:b.1=n
  ·rw[kF z,kF (by rw[h.1,z])]
   exact⟨h.1,hv⟩
  ·rw[kB z,kB (λy=>z (rV (h.1.symm.trans y)))]
   exact h
theorem qGU{n p:Int}{v:V}(h:Paired (KvP F) kvs W)(hv:F v p):Paired (KvP F) (putK kvs (Sum.inl n:Key) v) (putW W n p):=by
 unfold putK putW
 rw[qBU h]
 split
 ·exact qBV hv h
 ·exact L2.Paired.snoc h ⟨rfl,hv⟩
theorem qBW{n p:Int}:∀{kvs:List (Key×V)} {W:Mp},Paired (KvP F) kvs W→(W.map (·.1)).Nodup→(n,p)∈W→∃v,valV kvs (Sum.inl n:Key)=some v∧F v p
 |_,_,.nil,_,h=>absurd h (by simp)
 |_,_,.cons (a:=a) (b:=b) h r,nd,hm=>by
  rw[mG]at nd
  obtain⟨n1,n2⟩:=gB.mp nd
  rcases kL.mp hm with e|hm
  ·subst e
   exact⟨a.2,q08 h.1,h.2⟩
  ·obtain⟨v,a1,a2⟩:=qBW r n2 hm
   refine⟨v,?_,a2⟩
   rw[vF]
   ·exact a1
   ·rw[h.1]
    intro z
    exact n1 (kO.mpr ⟨_,hm,(rV z).symm⟩)
theorem qF3{n:Int}:∀{kvs:List (Key×V)} {W:Mp},Paired (KvP F) kvs W→n∉W.map (·.1)→valV kvs (Sum.inl n:Key)=none
 |_,_,.nil,_=>rfl
 |_,_,.cons (a:=a) (b:=b) h r,hn=>by
  rw[mG]at hn
  rw[vF]
  ·exact qF3 r λz=>hn (hU _ z)
  ·rw[h.1]
   intro z
   exact hn (by rw[rV z];simp)
end
end W1
namespace L2
open PySem
theorem qGV{a:Addr}{o:Obj}{kvs:List (Key×V)}{D:Addr}{H2:Hp}{g:TG}{tc:TT}{te:TE}{σ0:St}{R:Hp→Prop}(Pv:Nat→Hp→Prop)(h0:Pv 0 H2)(hl:∀i H,Pv i H→H a=some (.frz o (.dK kvs)))
 (hs:∀(i:Nat) kv H,kvs[i]?=some kv→Pv i H→g kv.2 σ0 H λσ5 H5=>tc σ5 H5 λb H6=>if b=true then te σ5 H6 (λv H7=>∃vs,H7 D=some (.lst vs)∧vs.length<sizeLine∧Pv (i+1) (upd H7 D (.lst (vs++[v]))))else Pv (i+1) H6) (hd:∀H,Pv kvs.length H→R H):
 ∃W:Nat→Nat→Hp→Prop,(∃m,W 0 m H2)∧∀i m H3,W i m H3→((Itv a o kvs).stop i H3∧R H3)∨
  ((Itv a o kvs).go i H3∧∃N:Hp→Prop,(∀H',N H'→∃m',m'<m∧W (i+1) m' H')∧∀x H4,(Itv a o kvs).yld i H3 x H4→g x σ0 H4 λσ5 H5=>tc σ5 H5 λb H6=>
   if b=true then te σ5 H6 (λv H7=>∃vs,H7 D=some (.lst vs)∧vs.length<sizeLine∧N (upd H7 D (.lst (vs++[v]))))else N H6):=by
 refine⟨λi m H=>m=kvs.length-i∧i≤kvs.length∧Pv i H,⟨kvs.length,by simp,m8 _,h0⟩,?_⟩
 rintro i m H ⟨rfl,hi,p⟩
 have q:=hl i H p
 by_cases hlt:i<kvs.length
 ·refine .inr ⟨⟨q,hlt⟩,Pv (i+1),λH' z=>⟨kvs.length-(i+1),by omega,rfl,by omega,z⟩,?_⟩
  rintro v H' ⟨rfl,kv,hk,rfl⟩
  exact hs i kv _ hk p
 ·obtain rfl:i=kvs.length:=by omega
  exact .inl ⟨⟨q,kN _⟩,hd _ p⟩
end L2
namespace W1
open PySem L2
noncomputable def wpS(cs:List Int)(d:Str×Int×Bool):List Int:=if d.1=Str.ofString "wipe" then cs.set d.2.1.toNat (cs.getD d.2.1.toNat 0+1)else cs
structure Wp(s:XS):Prop where
 e:s.rc.foldl wpS (List.replicate s.q.B 0)=s.cl
 r:∀d∈s.rc,d.1=Str.ofString "wipe"→∃b:Nat,d.2.1=(b:Int)∧b<s.q.B
 bd:∀i v,s.pg i=some v→i<s.q.B*s.q.P
theorem Wp.put{k:Tm}{s:XS}{n v:Int}(h:Wp s)(w:WX k s)(hr:0<s.rmX):Wp (s.put n v):=by
 refine⟨?_,λd hd e=>?_,λi u e=>?_⟩
 ·show(s.rc++[(Str.ofString "put",(s.np:Int),true)]).foldl wpS (List.replicate s.q.B 0)=s.cl
  rw[wU,h.e]
  rw[sT,pX]
  unfold wpS
  exact kB (show ¬Str.ofString "put"=Str.ofString "wipe" by decide)
 ·rcases gM.mp hd with hd|hd
  ·exact h.r d hd e
  ·rw[kI.mp hd]at e
   exact absurd (show Str.ofString "put"=Str.ofString "wipe" from e) (by decide)
 ·have e:(if i=s.np then some (s.q.nx*128+n,v)else s.pg i)=some u:=e
  split at e
  ·rename_i z
   obtain⟨hb,hf,_⟩:=w.spot hr
   rw[z]
   exact qEE hb hf
  ·exact h.bd i u e
theorem Wp.wip{s:XS}{b:Nat}(h:Wp s)(hb:b<s.q.B):Wp (s.wip b):=by
 refine⟨?_,λd hd e=>?_,λi u e=>?_⟩
 ·show(s.rc++[(Str.ofString "wipe",(b:Int),true)]).foldl wpS (List.replicate s.q.B 0)=s.cl.set b (s.cl.getD b 0+1)
  rw[wU,h.e]
  rw[sT,pX]
  unfold wpS
  rw[kF rfl]
  show s.cl.set (b:Int).toNat (s.cl.getD (b:Int).toNat 0+1)=_
  rw[kY]
 ·rcases gM.mp hd with hd|hd
  ·exact h.r d hd e
  ·rw[kI.mp hd]
   exact⟨b,rfl,hb⟩
 ·have e:(if i / s.q.P=b then none else s.pg i)=some u:=e
  split at e
  ·cases e
  ·exact h.bd i u e
theorem Wp.forgs{k:Tm}{s:XS}(x:Ix k s)(h:Wp s)(g:List Int):Wp (s.forgs g):=by
 obtain⟨_,_,e1,e2,_,e3,e4,_⟩:=q34 x g
 have ep:∀(g:List Int) (s:XS),(s.forgs g).pg=s.pg:=λg=>by
  induction g with
  |nil=>exact λ_=>rfl
  |cons m g ih=>exact λs=>ih (s.forg m)
 exact⟨by rw[e1,e2,e3];exact h.e,by rw[e1,e3];exact h.r,by rw[ep,e3,e4];exact h.bd⟩
structure Kpr(k:Tm)(R:XS→Prop):Prop where
 p:∀s n v,WX k s→0<s.rmX→0≤n→n≤64→R s→R (s.put n v)
 w:∀s b,WX k s→b<s.q.B→(∀y∈s.q.V,¬y.2 / (s.q.P:Int)=(b:Int))→R s→R (s.wip b)
section
variable{k:Tm}{R:XS→Prop}
theorem Kpr.room(K:Kpr k R){X Y:Sx}{r:Except Rf Pa}(w:WX k X.s)(ok:X.g.Ok)(h:X.room k=(Y,r))(p:R X.s):R Y.s:=by
 unfold Sx.room at h
 cases htk:X.s.tk k X.g with
 |none=>rw[htk]at h;cases h;exact p
 |some ybg=>
  obtain⟨y,b,g'⟩:=ybg
  rw[htk]at h
  dsimp only at h
  have f:=q3Y ok htk
  obtain⟨s',n,ms,md,lm,pg,hh⟩:=q8C (λs' _=>R s') w f p (λs' ms n q w' kp ec fb hnp hpb hr dk pg=>K.p s' n _ w' (by omega) (w'.qs.ok.nm _ hnp).1 (w'.qs.ok.nm _ hnp).2 pg)
  rcases hh with⟨e,_,_⟩|⟨e,_,nl⟩
  ·rw[e]at h
   cases h
   exact pg
  ·rw[e]at h
   dsimp only at h
   split at h
   ·cases h;exact pg
   ·cases h
    exact K.w s' b md.w (by rw[md.eB];exact f.b) nl pg
theorem Kpr.rooms(K:Kpr k R):∀{i:Nat} {X Y:Sx} {r:Except Rf Unit},WX k X.s→X.g.Ok→X.rooms k i=some (Y,r)→R X.s→R Y.s
 |0,X,Y,r,w,ok,h,p=>by
  unfold Sx.rooms at h
  split at h
  ·cases h;exact p
  ·cases h
 |i+1,X,Y,r,w,ok,h,p=>by
  unfold Sx.rooms at h
  split at h
  ·cases h;exact p
  ·cases e:X.room k with
   |mk W o=>
    obtain⟨w',ok',_⟩:=qBQ w ok e
    have p':=K.room w ok e p
    rw[e]at h
    cases o with
    |error q=>cases h;exact p'
    |ok q=>exact Kpr.rooms K w' ok' h p'
theorem Kpr.ask(K:Kpr k R){i:Nat}{X Y:Sx}{n v:Int}{r:Except Rf Nat}(w:WX k X.s)(ok:X.g.Ok)(n0:0≤n)(n1:n≤64)(h:X.ask k i n v=some (Y,r))(p:R X.s):R Y.s:=by
 unfold Sx.ask at h
 cases e:X.rooms k i with
 |none=>rw[e]at h;cases h
 |some Zr=>
  obtain⟨Z,o⟩:=Zr
  obtain⟨w',_,_,_,_,rd⟩:=q0F w ok e
  have p':=K.rooms w ok e p
  rw[e]at h
  cases o with
  |error q=>cases h;exact p'
  |ok u=>
   dsimp only at h
   split at h
   ·cases h;exact p'
   ·cases h
    exact K.p _ n v w' (by have:=mL (rd rfl);omega) n0 n1 p'
end
noncomputable def Pw(s:XS):Prop:=Pgs s∧Wp s
theorem q8E{k:Tm}:Kpr k Pw:=⟨λs n v w hr n0 n1 h=>⟨h.1.put w hr n0 n1,h.2.put w hr⟩,λs b w hb nl h=>⟨h.1.wip w hb nl,h.2.wip hb⟩⟩
structure Lat(pg:Nat→Option (Int×Int))(ok:Int→Prop)(j:Nat)(W:Mp):Prop where
 nd:(W.map (·.1)).Nodup
 fr:∀d∈W,ok d.1∧∃i v,i<j∧d.2=((i:Nat):Int)∧pg i=some v∧v.1%128=d.1∧∀i' w,i'<j→pg i'=some w→w.1%128=d.1→w.1 / 128≤v.1 / 128
 al:∀i w,i<j→pg i=some w→ok (w.1%128)→w.1%128∈W.map (·.1)
theorem Lat.zero{pg:Nat→Option (Int×Int)}{ok:Int→Prop}:Lat pg ok 0 []:=⟨List.nodup_nil,λd hd=>(by cases hd),λi w hi=>absurd hi (pH _)⟩
section
variable{pg:Nat→Option (Int×Int)}{ok:Int→Prop}{j:Nat}{W:Mp}{v:Int×Int}
theorem qGW{W:Mp}{n p:Int}(h:(W.map (·.1)).Nodup):((putW W n p).map (·.1)).Nodup:=by
 unfold putW
 split
 ·rw[rA,dG (g:=(·.1)) λx _=>by
   show(if x.1=n then(x.1,p)else x).1=x.1
   split<;>rfl]
  exact h
 ·rename_i z
  rw[mV]
  refine rZ.mpr ⟨h,by simp,λa ha c hc=>?_⟩
  rw[show c=n by simpa using hc]
  intro e
  obtain⟨x,hx,ex⟩:=kO.mp ha
  exact z (wF.mpr ⟨x,hx,hC (ex.trans e)⟩)
theorem Lat.skip(h:Lat pg ok j W)(no:∀v,pg j=some v→ok (v.1%128)→∃p u,(v.1%128,p)∈W∧pg p.toNat=some u∧v.1 / 128≤u.1 / 128):Lat pg ok (j+1) W:=by
 refine⟨h.nd,λd hd=>?_,λi w hi e o=>?_⟩
 ·obtain⟨o,i,u,hi,e1,e2,e3,e4⟩:=h.fr d hd
  refine⟨o,i,u,by omega,e1,e2,e3,λi' w hi' e em=>?_⟩
  by_cases z:i'=j
  ·subst z
   obtain⟨p,u',hp,e',le⟩:=no w e (by rw[em];exact o)
   rw[em]at hp
   have:p=d.2:=q8A h.nd hp hd
   rw[this,e1,kY,e2]at e'
   cases e'
   exact le
  ·exact e4 i' w (by omega) e em
 ·by_cases z:i=j
  ·subst z
   obtain⟨p,_,hp,_⟩:=no w e o
   exact kO.mpr ⟨_,hp,rfl⟩
  ·exact h.al i w (by omega) e o
theorem Lat.take(h:Lat pg ok j W)(e:pg j=some v)(o:ok (v.1%128))(nw:∀p u,(v.1%128,p)∈W→pg p.toNat=some u→u.1 / 128<v.1 / 128):Lat pg ok (j+1) (putW W (v.1%128) (j:Int)):=by
 refine⟨qGW h.nd,λd hd=>?_,λi w hi ew ow=>?_⟩
 ·rcases(q3V h.nd).mp hd with rfl|hd
  ·refine⟨o,j,v,dN _,rfl,e,rfl,λi' w hi' e' em=>?_⟩
   by_cases z:i'=j
   ·rw[z,e]at e'
    cases e'
    exact gL _
   ·have em:w.1%128=v.1%128:=em
    have hm:=h.al i' w (by omega) e' (by rw[em];exact o)
    rw[em]at hm
    obtain⟨d,hd,ed⟩:=kO.mp hm
    obtain⟨_,i,u,hi,e1,e2,e3,e4⟩:=h.fr d hd
    have:=e4 i' w (by omega) e' (by rw[em];exact ed.symm)
    have hd':(v.1%128,d.2)∈W:=by rw[←ed];exact hd
    have:=nw d.2 u hd' (by rw[e1,kY];exact e2)
    omega
  ·obtain⟨hd,ne⟩:=j9.mp hd
   obtain⟨o',i,u,hi,e1,e2,e3,e4⟩:=h.fr d hd
   refine⟨o',i,u,by omega,e1,e2,e3,λi' w hi' e' em=>?_⟩
   by_cases z:i'=j
   ·rw[z,e]at e'
    cases e'
    exact absurd em.symm ne
   ·exact e4 i' w (by omega) e' em
 ·have key:∀n,n∈W.map (·.1)∨n=v.1%128→n∈(putW W (v.1%128) (j:Int)).map (·.1):=λn hn=>by
   by_cases z:n=v.1%128
   ·exact kO.mpr ⟨_,(q3V h.nd).mpr (.inl rfl),z.symm⟩
   ·rcases hn with hn|hn
    ·obtain⟨d,hd,ed⟩:=kO.mp hn
     exact kO.mpr ⟨d,(q3V h.nd).mpr (.inr (j9.mpr ⟨hd,λy=>z (ed.symm.trans y)⟩)),ed⟩
    ·exact absurd hn z
  by_cases z:i=j
  ·rw[z,e]at ew
   cases ew
   exact key _ (.inr rfl)
  ·exact key _ (.inl (h.al i w (by omega) ew ow))
end
theorem Lat.live{s:XS}{ok:Int→Prop}{N:Nat}{W:Mp}(h:Lat s.pg ok N W)(p:Pgs s)(ov:∀n,ok n↔n=64∨∃q,(n,q)∈s.q.V)(vn:∀y∈s.q.V,0≤y.2∧y.2.toNat<N)(q:Int):q∈W.map (·.2)↔∃n,(n,q)∈s.q.V:=by
 have key:∀d∈W,∀q',(d.1,q')∈s.q.V→d.2=q':=λd hd q' hq'=>by
  obtain⟨_,i,v,hi,e,epg,en,mx⟩:=h.fr d hd
  obtain⟨u,u1,u2,u3⟩:=p.nw _ hq'
  have u1:s.pg q'.toNat=some u:=u1
  have u2:u.1%128=d.1:=u2
  obtain⟨q0,qN⟩:=vn _ hq'
  have m1:=mx q'.toNat u qN u1 u2
  have m2:=u3 i _ epg en
  have:i=q'.toNat:=p.one i q'.toNat _ _ epg u1 (by omega)
  have q0:0≤q':=q0
  rw[e,this]
  omega
 constructor
 ·intro hq
  obtain⟨d,hd,rfl⟩:=kO.mp hq
  obtain⟨o,i,v,hi,e,epg,en,mx⟩:=h.fr d hd
  have:∃q',(d.1,q')∈s.q.V:=by
   rcases(ov d.1).mp o with z|z
   ·obtain⟨q',hq'⟩:=p.rl ⟨i,_,epg,en.trans z⟩
    exact⟨q',by rw[z];exact hq'⟩
   ·exact z
  obtain⟨q',hq'⟩:=this
  rw[key d hd q' hq']
  exact⟨_,hq'⟩
 ·rintro⟨n,hn⟩
  obtain⟨u,u1,u2,u3⟩:=p.nw _ hn
  have u2:u.1%128=n:=u2
  obtain⟨d,hd,ed⟩:=kO.mp (h.al _ u (vn _ hn).2 u1 (by rw[u2];exact(ov n).mpr (.inr ⟨q,hn⟩)))
  exact kO.mpr ⟨d,hd,key d hd q (by rw[show d.1=n from ed.trans u2];exact hn)⟩
noncomputable def rowT(s:XS)(b:Nat):List Int:=[(b:Int),s.q.lv.getD b 0,s.cl.getD b 0,s.q.bo.getD b 0,s.q.fi.getD b 0]
section
variable{k:Tm}{s:XS}{b f:Nat}
theorem qF4(w:WX k s)(hb:b<s.q.B)(ef:s.q.fi.getD b 0=(f:Int))(fP:f≤s.q.P){ls:List Int}(hl:∀q,q∈ls↔∃n,(n,q)∈s.q.V):((((List.range f).map λi=>((b*s.q.P+i:Nat):Int)).filter λq=>decide (q∈ls)).length:Int)=s.q.lv.getD b 0:=by
 rw[←q2L w.qs w.pd hb,rT,hI,←d5]
 unfold lvP
 rw[List.length_filterMap_eq_countP]
 obtain⟨r,er⟩:∃r,s.q.P=f+r:=⟨s.q.P-f,by omega⟩
 have e1:∀i,i<s.q.P→((s.q.V.find? λy=>decide (y.2=((b*s.q.P+i:Nat):Int))).map λy=>[y.2,y.1]).isSome=decide (((b*s.q.P+i:Nat):Int)∈ls):=λi hi=>by
  by_cases z:((b*s.q.P+i:Nat):Int)∈ls
  ·obtain⟨n,hn⟩:=(hl _).mp z
   rw[hC z,cR,List.find?_isSome]
   exact⟨_,hn,hC rfl⟩
  ·rw[hG z,cR]
   cases e:s.q.V.find? λy=>decide (y.2=((b*s.q.P+i:Nat):Int))with
   |none=>rfl
   |some y=>
    have h1:y.2=((b*s.q.P+i:Nat):Int):=by
     have:=dJ e
     simpa using this
    exact absurd ((hl _).mpr ⟨y.1,by rw[←h1];exact dL e⟩) z
 have e2:List.countP (λi=>decide (((b*s.q.P+i:Nat):Int)∈ls)) (List.range s.q.P)=List.countP (λi=>decide (((b*s.q.P+i:Nat):Int)∈ls)) (List.range f):=by
  rw[er,List.range_add,List.countP_append,←er]
  have:List.countP (λi=>decide (((b*s.q.P+i:Nat):Int)∈ls)) ((List.range r).map (f + ·))=0:=by
   rw[List.countP_eq_zero]
   intro i hi hm
   obtain⟨j,hj,rfl⟩:=kO.mp hi
   have hj:=mP.mp hj
   obtain⟨n,hn⟩:=(hl _).mp (mL hm)
   obtain⟨c,g,_,_,hg,e,lt,_⟩:=w.vl _ hn
   have e:((b*s.q.P+(f+j):Nat):Int)=((c*s.q.P+g:Nat):Int):=e
   obtain⟨rfl,rfl⟩:=q4L (by omega) hg (Int.ofNat.inj e)
   rw[ef]at lt
   omega
  rw[this]
  rfl
 have e3:List.countP (λa=>((s.q.V.find? λy=>decide (y.2=((b*s.q.P+a:Nat):Int))).map λy=>[y.2,y.1]).isSome) (List.range s.q.P)=List.countP (λi=>decide (((b*s.q.P+i:Nat):Int)∈ls)) (List.range s.q.P):=by
  refine List.countP_congr λi hi=>?_
  rw[e1 i (mP.mp hi)]
 rw[e3,e2]
 rfl
theorem q9R{l:List Nat}(hl:FreeIs s.q.B (noB s.q.B) s.cl s.q.fi l):l.length=((List.range s.q.B).filter λb=>decide (s.q.fi.getD b 0=0)).length:=by
 rw[hl.pm.length_eq]
 unfold yR
 rw[jT]
theorem qGX(hb:b<s.q.B)(p:jJ s.q.P s.q.fi b=true)(no:∀c,c<b→jJ s.q.P s.q.fi c=false):jG s.q.B s.q.P (noB s.q.B) s.q.fi=some b:=by
 unfold jG
 rw[jT,List.find?_eq_some_iff_append]
 obtain⟨r,er⟩:∃r,s.q.B=b+(r+1):=⟨s.q.B-b-1,by omega⟩
 refine⟨p,List.range b,(List.range r).map (b+1 + ·),?_,λa ha=>?_⟩
 ·rw[er,List.range_add,List.range_succ_eq_map,mG,rA]
  congr 1
  rw[cT]
  congr 1
  refine dG λj _=>?_
  show b+(j+1)=b+1+j
  omega
 ·rw[no a (mP.mp ha)]
  rfl
theorem qGY(no:∀c,c<s.q.B→jJ s.q.P s.q.fi c=false):jG s.q.B s.q.P (noB s.q.B) s.q.fi=none:=by
 unfold jG
 rw[jT,rL]
 intro c hc
 rw[no c (mP.mp hc)]
 decide
end
noncomputable def newH(B P:Nat)(cl:List Int)(rc:List (Str×Int×Bool)):XS:=⟨(newX B P).q,cl,λ_=>none,none,rc⟩
section
variable{k:Tm}{B P:Nat}{cl:List Int}{rc:List (Str×Int×Bool)}
theorem qGZ(b2:B≤16)(p1:1≤P)(p2:P≤16)(hk:1+k.ie<B)(s1:1≤k.sp)(ev:k.ev=false)(lc:cl.length=B)(c0:∀b,0≤cl.getD b 0∧cl.getD b 0≤(rc.length:Int)):Ix k (newH B P cl rc)∧(1+k.ie)*P≤(newH B P cl rc).rmX:=by
 obtain⟨x,ge⟩:=qGS b2 p1 p2 hk s1
 have w:=x.w
 exact⟨⟨⟨w.qs,w.on,lc,w.cr,w.vl,w.pd,c0,w.bo,w.nx,w.sl,w.l6,w.l0⟩,x.sh,s1,λz=>(by rw[ev]at z;cases z),λz=>(by rw[ev]at z;cases z)⟩,ge⟩
structure Cw(B:Nat)(cl:List Int)(rc:List (Str×Int×Bool)):Prop where
 lc:cl.length=B
 c0:∀b,0≤cl.getD b 0∧cl.getD b 0≤(rc.length:Int)
 e:rc.foldl wpS (List.replicate B 0)=cl
 r:∀d∈rc,d.1=Str.ofString "wipe"→∃b:Nat,d.2.1=(b:Int)∧b<B
theorem Cw.zero:Cw B (List.replicate B 0) []:=⟨gG,λb=>(by rw[show(List.replicate B (0:Int)).getD b 0=0 from rep8];exact⟨gL _,gL _⟩),rfl,λd hd=>(by cases hd)⟩
theorem Cw.wip(h:Cw B cl rc){b:Nat}{z:Bool}(hb:b<B):Cw B (cl.set b (cl.getD b 0+1)) (rc++[(Str.ofString "wipe",(b:Int),z)]):=by
 refine⟨by rw[gF];exact h.lc,λc=>?_,?_,λd hd e=>?_⟩
 ·have h0:=h.c0 c
  have hl:(rc++[(Str.ofString "wipe",(b:Int),z)]).length=rc.length+1:=by simp
  rw[hl]
  by_cases e:c=b
  ·subst e
   have:=h.lc
   rw[kJ,cL (by omega)]
   show 0≤cl.getD c 0+1∧cl.getD c 0+1≤_
   omega
  ·rw[kJ,rW (λz=>e z.symm),←kJ]
   omega
 ·rw[wU,h.e]
  show(if Str.ofString "wipe"=Str.ofString "wipe" then cl.set (b:Int).toNat (cl.getD (b:Int).toNat 0+1)else cl)=_
  rw[kF rfl,kY]
 ·rcases gM.mp hd with hd|hd
  ·exact h.r d hd e
  ·rw[kI.mp hd]
   exact⟨b,rfl,hb⟩
theorem qH0(h:Cw B cl rc):Pw (newH B P cl rc):=by
 have p:=qF2 (B:=B) (P:=P)
 exact⟨⟨p.1,p.2,p.3,p.4,p.5,p.6⟩,⟨h.e,h.r,λi v e=>(by cases e)⟩⟩
end
end W1
namespace L2
open PySem
theorem qCT{K:PySem.W.Frag}{a:Addr}{xs:List V}{g:TG}{tb:TS}{D:Ends}{σ:St}{H:Hp}(Pv:Nat→St→Hp→Prop)(h0:Pv 0 σ H)(hl:∀i σ H,i≤xs.length→Pv i σ H→SqL K H a xs)
 (hs:∀i x σ H (D':Ends),(∀σ' H',Pv (i+1) σ' H'→D'.nx σ' H')→xs[i]?=some x→Pv i σ H→g x σ H λσ2 H2=>tb D' σ2 H2) (hd:∀σ H,Pv xs.length σ H→D.nx σ H):
 ∃W:Nat→Nat→St→Hp→Prop,(∃m,W 0 m σ H)∧∀i m σ H,W i m σ H→
  ((Itl K a).stop i H∧D.nx σ H)∨((Itl K a).go i H∧∃N:St→Hp→Prop,(∀σ' H',N σ' H'→∃m',m'<m∧W (i+1) m' σ' H')∧∀x H',(Itl K a).yld i H x H'→g x σ H' λσ2 H2=>tb { D with nx:=N,ct:=N,bk:=D.nx } σ2 H2):=
 uD Pv h0 hl (λi x σ H hx p=>hs i x σ H _ (λ_ _ q=>q) hx p) hd
theorem q0U{lo:Int}{n:Nat}{g:TG}{tb:TS}{D:Ends}{σ:St}{H:Hp}(Pv:Nat→St→Hp→Prop)(h0:Pv 0 σ H)
 (hs:∀i σ H (D':Ends),(∀σ' H',Pv (i+1) σ' H'→D'.nx σ' H')→i<n→Pv i σ H→g (.int (lo+i)) σ H λσ2 H2=>tb D' σ2 H2) (hd:∀σ H,Pv n σ H→D.nx σ H):
 ∃W:Nat→Nat→St→Hp→Prop,(∃m,W 0 m σ H)∧∀i m σ H,W i m σ H→
  ((Itr lo n).stop i H∧D.nx σ H)∨((Itr lo n).go i H∧∃N:St→Hp→Prop,(∀σ' H',N σ' H'→∃m',m'<m∧W (i+1) m' σ' H')∧∀x H',(Itr lo n).yld i H x H'→g x σ H' λσ2 H2=>tb { D with nx:=N,ct:=N,bk:=D.nx } σ2 H2):=
 q7C Pv h0 (λi σ H hx p=>hs i σ H _ (λ_ _ q=>q) hx p) hd
theorem iV{σ:St}{i:Nat}{v:V}{Q:V→Prop}(e:σ[i]?=some (some v))(q:Q v):∃v,σ[i]?=some (some v)∧Q v:=⟨v,e,q⟩
theorem iF{K:PySem.W.Frag}{H:Hp}{f:Str}{a C d:Addr}{fs:List (Str×V)}{v:V}{Q:V→Prop}(o:H a=some (.ins C d fs))(cl:Cls K C)(na:qP K C f)(lk:fs.lookup f=some v)(q:Q v):
 ∃a' C dx fs v,V.ref a=.ref a'∧H a'=some (.ins C dx fs)∧Cls K C∧qP K C f∧fs.lookup f=some v∧Q v:=⟨a,C,d,fs,v,rfl,o,cl,na,lk,q⟩
theorem iM{H:Hp}{m:Str}{a C d:Addr}{fs:List (Str×V)}{q:Prop}(o:H a=some (.ins C d fs))(lk:fs.lookup m=none)(k:q):
 ∃a' dx fs,V.ref a=.ref a'∧H a'=some (.ins C dx fs)∧fs.lookup m=none∧q:=⟨a,d,fs,rfl,o,lk,k⟩
theorem iI{i j:Int}{Q:Int→Int→Prop}(q:Q i j):∃i' j',V.int i=.int i'∧V.int j=.int j'∧Q i' j':=⟨i,j,rfl,rfl,q⟩
theorem iL{K:PySem.W.Frag}{H:Hp}{p:Addr}{xs:List V}{k:Int}{v:V}{Q:V→Prop}(h:SqL K H p xs)(e:atI xs k=some v)(q:Q v):∃p' xs k' v,V.ref p=.ref p'∧V.int k=.int k'∧SqL K H p' xs∧atI xs k'=some v∧Q v:=⟨p,xs,k,v,rfl,rfl,h,e,q⟩
theorem iT{K:PySem.W.Frag}{H:Hp}{p:Addr}{xs:List V}{k:Int}{v:V}{Q:V→Prop}(h:SqT K H p xs)(e:atI xs k=some v)(q:Q v):∃p' xs k' v,V.ref p=.ref p'∧V.int k=.int k'∧SqT K H p' xs∧atI xs k'=some v∧Q v:=⟨p,xs,k,v,rfl,rfl,h,e,q⟩
end L2
namespace L2
open PySem PySem.Spec PyProof.Rows
structure Fn1(K:PySem.W.Frag)(x q:Str)(st:Stmt)(f:Addr)(ps:List Str) where
 fd:FuncData
 F:FunD K x q st .none f fd
 b:yG K fd ps []
noncomputable abbrev Fn1.Ok0{K:PySem.W.Frag}{x q:Str}{st:Stmt}{f:Addr}{ps:List Str}(F:Fn1 K x q st f ps)(P:Program)(w:World)(mg:Str→Option Value)(base:Heap)(k:Nat)(sp:Sp):Prop:=FnOk P w K mg base CX0 k f F.fd ps sp
noncomputable abbrev Fn1.OkE{K:PySem.W.Frag}{x q:Str}{st:Stmt}{f:Addr}{ps:List Str}(F:Fn1 K x q st f ps)(P:Program)(w:World)(mg:Str→Option Value)(base:Heap)(k:Nat)(sp:Sp):Prop:=FnOk P w K mg base (CXe P w) k f F.fd ps sp
noncomputable abbrev FnX(K:PySem.W.Frag)(x q:Str)(st:Stmt)(f:Addr):Prop:=∃fd,FunD K x q st .none f fd
section
variable{K:PySem.W.Frag}{x q:Str}{st:Stmt}{f:Addr}{ps:List Str}
noncomputable def BnX(x q:Str)(st:Stmt)(ps:List Str):Prop:=∀(kV doc pm:Value) (an:Option Addr) (cdv ct:Value) (us:List Value),us.length=ps.length→bindArgs (PySem.W.fnOf x q (yJ st) (yB st) (qH st) .none kV doc pm an cdv ct) ⟨us,[]⟩=pure (ps.zip us)
theorem fn1b(h:BnX x q st ps){fd:FuncData}(F:FunD K x q st .none f fd):yG K fd ps []:=by
 obtain⟨oc,od,kV,doc,pm,an,cdv,ct,osl,rfl,lk,hcd⟩:=F.ex
 exact yG.all λus hl=>h kV doc pm an cdv ct us hl
theorem lnx{us:List Value}{n:Nat}(h:us.length=n):us=(List.range n).map (us.getD · .none):=by
 subst h
 refine cA (by simp) λi h1 h2=>?_
 simp[hV h1]
theorem bnx(h:∀kV doc pm an cdv ct (g:Nat→Value),bindArgs (PySem.W.fnOf x q (yJ st) (yB st) (qH st) .none kV doc pm an cdv ct) ⟨(List.range ps.length).map g,[]⟩=pure (ps.zip ((List.range ps.length).map g))):BnX x q st ps:=λkV doc pm an cdv ct us hl=>by
 rw[lnx hl]
 exact h ..
noncomputable def fn1 (l:FnX K x q st f) (h:∀kV doc pm an cdv ct (g:Nat→Value),bindArgs (PySem.W.fnOf x q (yJ st) (yB st) (qH st) .none kV doc pm an cdv ct) ⟨(List.range ps.length).map g,[]⟩=pure (ps.zip ((List.range ps.length).map g)):=by intros;rfl):Fn1 K x q st f ps:=⟨l.choose,l.choose_spec,fn1b (bnx h) l.choose_spec⟩
theorem FnX.bind1{a:Str}{fd:FuncData}(h:∀kV doc pm an cdv ct u,bindArgs (PySem.W.fnOf x q (yJ st) (yB st) (qH st) .none kV doc pm an cdv ct) ⟨[u],[]⟩=pure [(a,u)])(F:FunD K x q st .none f fd)(s:Shared)(v:Value):BindsTo s fd ⟨[v],[]⟩ [(a,v)]:=by
 obtain⟨oc,od,kV,doc,pm,an,cdv,ct,osl,rfl,lk,hcd⟩:=F.ex
 exact .of_eq (h kV doc pm an cdv ct v)
theorem FnX.of{oc:Value}{od an:Option Addr}{osl:Array (Option Value)}{kV doc pm cdv ct:Value}(l:K.lookup f=some ⟨oc,od,.func (PySem.W.fnOf x q (yJ st) (yB st) (qH st) .none kV doc pm an cdv ct),osl⟩)(c:PySem.W.codeIn K cdv q=true):FnX K x q st f:=⟨_,FunD.mk' l c⟩
theorem qT{N P:List Str}{sc:Scope}(h:(sc.kind=.function∧sc.isCoroutine=false∧sc.isGenerator=false)∧N.Nodup∧N.take P.length=P∧(∀x∈P,sc.names.lookup x=some .local∨sc.names.lookup x=some .cell)∧∀y∈sc.names,y.2≠ .free):FnScope N P sc:=⟨h.1.1,h.1.2.1,h.1.2.2,h.2.1,h.2.2.1,h.2.2.2.1,h.2.2.2.2⟩
end
noncomputable abbrev GFn(K:PySem.W.Frag)(n:Str)(f:Addr):Prop:=PySem.W.nsIn K mainGlobals n=some (some (.ref f))∧PySem.W.keepIn K (.ref f)=true
theorem sz0:0≤sizeLine:=by decide
theorem sz1:1≤sizeLine:=by decide
theorem sz2:2≤sizeLine:=by decide
theorem sz3:3≤sizeLine:=by decide
theorem sz4:4≤sizeLine:=by decide
theorem sz5:5≤sizeLine:=by decide
end L2
namespace W1
open PySem L2
noncomputable def top(i:Nat):Stmt:=PySem.Challenge.pw_wornpages_k32_options.main.body.getD i (.Pass ⟨0,0,0,0⟩)
noncomputable abbrev q35:Stmt:=(top 15)
noncomputable abbrev q1O:Stmt:=(top 16)
noncomputable abbrev q36:Stmt:=(top 17)
noncomputable abbrev q37:Stmt:=(top 18)
noncomputable abbrev q4N:Stmt:=(top 22)
noncomputable abbrev q4O:Stmt:=(top 23)
noncomputable abbrev q1P:Stmt:=(qM (top 25) 0)
noncomputable abbrev q1Q:Stmt:=(qM (top 25) 1)
noncomputable abbrev q1R:Stmt:=(qM (top 25) 2)
noncomputable abbrev zP:Stmt:=(qM (top 25) 3)
noncomputable abbrev zA:Stmt:=(qM (top 25) 4)
noncomputable abbrev uT:Stmt:=(qM (top 25) 6)
noncomputable abbrev q1S:Stmt:=(qM (top 25) 7)
noncomputable abbrev q0V:Stmt:=(qM (top 27) 0)
noncomputable abbrev q0W:Stmt:=(qM (top 27) 1)
noncomputable abbrev jU:Stmt:=(qM (top 27) 2)
noncomputable abbrev q0X:Stmt:=(qM (top 27) 3)
noncomputable abbrev q0Y:Stmt:=(qM (top 27) 4)
noncomputable abbrev zQ:Stmt:=(qM (top 27) 6)
noncomputable abbrev v8:Stmt:=(qM (top 27) 8)
noncomputable abbrev q1T:Stmt:=(qM (top 27) 9)
noncomputable abbrev zR:Stmt:=(qM (top 27) 10)
noncomputable abbrev vK:Stmt:=(qM (top 27) 11)
noncomputable abbrev q0Z:Stmt:=(qM (top 27) 13)
noncomputable abbrev u8:Stmt:=(qM (top 27) 14)
noncomputable abbrev u9:Stmt:=(qM (top 27) 15)
noncomputable abbrev q38:Stmt:=(top 29)
noncomputable abbrev q10:Stmt:=(qM (top 30) 0)
noncomputable abbrev vL:Stmt:=(qM (top 30) 2)
noncomputable abbrev zS:Stmt:=(qM (top 30) 3)
noncomputable abbrev zT:Stmt:=(qM (top 30) 4)
noncomputable abbrev uU:Stmt:=(qM (top 30) 5)
noncomputable abbrev yM:Stmt:=(qM (top 30) 6)
noncomputable abbrev vM:Stmt:=(qM (top 30) 7)
noncomputable abbrev zB:Stmt:=(qM (top 30) 8)
noncomputable abbrev yN:Stmt:=(qM (top 30) 9)
noncomputable abbrev zU:Stmt:=(qM (top 30) 10)
noncomputable abbrev yS:Stmt:=(qM (top 30) 11)
noncomputable abbrev zV:Stmt:=(qM (top 30) 12)
noncomputable abbrev uV:Stmt:=(qM (top 30) 13)
noncomputable abbrev uW:Stmt:=(qM (top 30) 14)
noncomputable abbrev uJ:Stmt:=(qM (top 30) 15)
noncomputable abbrev uK:Stmt:=(qM (top 30) 16)
noncomputable abbrev q1U:Stmt:=(top 32)
noncomputable abbrev uO:Stmt:=(qM (top 33) 0)
noncomputable abbrev q39:Stmt:=(qM (top 33) 1)
noncomputable abbrev q1V:Stmt:=(qM (top 33) 2)
noncomputable abbrev q1W:Stmt:=(qM (top 33) 3)
noncomputable abbrev v9:Stmt:=(qM (top 33) 4)
noncomputable abbrev vO:Stmt:=(qM (top 33) 5)
noncomputable abbrev zC:Stmt:=(qM (top 33) 6)
noncomputable abbrev zD:Stmt:=(qM (top 33) 7)
noncomputable abbrev zW:Stmt:=(qM (top 33) 8)
noncomputable abbrev q11:Stmt:=(qM (top 33) 9)
noncomputable abbrev uX:Stmt:=(qM (top 33) 10)
noncomputable abbrev uL:Stmt:=(qM (top 33) 11)
noncomputable abbrev uM:Stmt:=(qM (top 33) 12)
noncomputable abbrev uY:Stmt:=(qM (top 33) 13)
noncomputable abbrev vP:Stmt:=(qM (top 33) 14)
noncomputable abbrev zE:Stmt:=(qM (top 33) 15)
noncomputable abbrev zX:Stmt:=(top 35)
noncomputable abbrev vA:Stmt:=(top 36)
noncomputable abbrev zY:Stmt:=(qM (top 37) 1)
noncomputable abbrev uA:Stmt:=(qM (top 38) 0)
noncomputable abbrev uB:Stmt:=(qM (top 39) 0)
noncomputable abbrev u6:Stmt:=(qM (top 41) 0)
noncomputable abbrev zF:Stmt:=(qM (top 41) 1)
noncomputable abbrev zZ:Stmt:=(top 43)
noncomputable abbrev q1X:Stmt:=(top 44)
noncomputable abbrev q1Y:Stmt:=(top 45)
noncomputable abbrev q1Z:Stmt:=(top 46)
noncomputable abbrev q4P:Stmt:=(top 47)
noncomputable abbrev q20:Stmt:=(top 48)
noncomputable abbrev q00:Stmt:=(top 49)
noncomputable abbrev zG:Stmt:=(top 50)
noncomputable abbrev q3A:Stmt:=(top 51)
noncomputable abbrev q21:Stmt:=(top 52)
noncomputable abbrev qF5:Stmt:=(top 53)
set_option genInjectivity false in
structure Adr where
 (f_is_whole f_is_within f_is_shape f_is_value f_mark_of f_bits_of f_Book_init f_Book_mark f_Book_note f_Book_forget f_Book_emptied f_Book_live_pages f_Book_held f_Plain_init f_Plain_good f_Plain_free f_Plain_part f_Plain_spot f_Plain_ready f_Plain_set_down f_Plain_lay f_Plain_write f_Plain_give_up f_Plain_held f_Plain_check_sheet f_Plain_check_share f_paper_of f_Store_init f_Store_reserve f_Store_tally f_Store_space f_Store_full_ones f_Store_with_dead_page f_Store_options f_Store_choice f_Store_choice_by_rule f_Store_moved f_Store_value_to_move f_Store_wiped f_Store_clear_out f_Store_make_room f_Store_make_ready f_Store_make_rooms f_limits_of f_Chip_init f_Chip_put f_Chip_wipe f_Chip_read f_Chip_cut_after f_Chip_power_on f_Chip_is_dark f_Chip_cleared f_Chip_failed f_Chip_deeds f_Chip_check_page f_Chip_check_block f_Chip_check_power f_Chip_check_deed f_Chip_is_spent f_Chip_do_deed f_is_unbeaten f_first_unbeaten f_Rule_choose f_Fewest_goes_ahead f_Eldest_goes_ahead f_Terms_init f_Terms_closed f_law_cell_at f_law_whole f_law_shape f_law_sheet f_law_ask f_law_lives f_law_tallies f_law_room_due f_law_rows f_law_right f_law C_Book C_Plain C_Store C_Chip C_Fewest C_Eldest C_Terms C_PowerGone C_NoRoom:Addr)
 tk_MOST_TOLD:Tok
 tk_ROLL:Tok
 tk_NAMES:Tok
 c_Plain_free:Addr
 T_Plain_free:Addr
structure Txt(K:W.Frag)(mg:Str→Option Value)(t:Adr):Prop where
 mg_Book:mg "Book"=some (.ref t.C_Book)
 cl_Book:Cls K t.C_Book
 na_Book_blocks:qP K t.C_Book "blocks"
 na_Book_pages:qP K t.C_Book "pages"
 na_Book_stamp:qP K t.C_Book "stamp"
 na_Book_where:qP K t.C_Book "where"
 na_Book_live:qP K t.C_Book "live"
 na_Book_filled:qP K t.C_Book "filled"
 na_Book_born:qP K t.C_Book "born"
 m_Book_mark:Meth K t.C_Book "mark" t.f_Book_mark
 m_Book_note:Meth K t.C_Book "note" t.f_Book_note
 m_Book_forget:Meth K t.C_Book "forget" t.f_Book_forget
 m_Book_emptied:Meth K t.C_Book "emptied" t.f_Book_emptied
 m_Book_live_pages:Meth K t.C_Book "live_pages" t.f_Book_live_pages
 m_Book_held:Meth K t.C_Book "held" t.f_Book_held
 mk_Book:Mk K t.C_Book t.f_Book_init
 mg_Plain:mg "Plain"=some (.ref t.C_Plain)
 mg_Store:mg "Store"=some (.ref t.C_Store)
 cl_Store:Cls K t.C_Store
 na_Store_chip:qP K t.C_Store "chip"
 na_Store_terms:qP K t.C_Store "terms"
 na_Store_book:qP K t.C_Store "book"
 na_Store_rule:qP K t.C_Store "rule"
 na_Store_papers:qP K t.C_Store "papers"
 m_Store_reserve:Meth K t.C_Store "reserve" t.f_Store_reserve
 m_Store_tally:Meth K t.C_Store "tally" t.f_Store_tally
 m_Store_space:Meth K t.C_Store "space" t.f_Store_space
 m_Store_full_ones:Meth K t.C_Store "full_ones" t.f_Store_full_ones
 m_Store_with_dead_page:Meth K t.C_Store "with_dead_page" t.f_Store_with_dead_page
 m_Store_options:Meth K t.C_Store "options" t.f_Store_options
 m_Store_choice:Meth K t.C_Store "choice" t.f_Store_choice
 m_Store_choice_by_rule:Meth K t.C_Store "choice_by_rule" t.f_Store_choice_by_rule
 m_Store_moved:Meth K t.C_Store "moved" t.f_Store_moved
 m_Store_value_to_move:Meth K t.C_Store "value_to_move" t.f_Store_value_to_move
 m_Store_wiped:Meth K t.C_Store "wiped" t.f_Store_wiped
 m_Store_clear_out:Meth K t.C_Store "clear_out" t.f_Store_clear_out
 m_Store_make_room:Meth K t.C_Store "make_room" t.f_Store_make_room
 m_Store_make_ready:Meth K t.C_Store "make_ready" t.f_Store_make_ready
 m_Store_make_rooms:Meth K t.C_Store "make_rooms" t.f_Store_make_rooms
 m_Store_good:Meth K t.C_Store "good" t.f_Plain_good
 m_Store_free:Meth K t.C_Store "free" t.f_Plain_free
 m_Store_part:Meth K t.C_Store "part" t.f_Plain_part
 m_Store_spot:Meth K t.C_Store "spot" t.f_Plain_spot
 m_Store_ready:Meth K t.C_Store "ready" t.f_Plain_ready
 m_Store_set_down:Meth K t.C_Store "set_down" t.f_Plain_set_down
 m_Store_lay:Meth K t.C_Store "lay" t.f_Plain_lay
 m_Store_write:Meth K t.C_Store "write" t.f_Plain_write
 m_Store_give_up:Meth K t.C_Store "give_up" t.f_Plain_give_up
 m_Store_held:Meth K t.C_Store "held" t.f_Plain_held
 m_Store_check_sheet:Meth K t.C_Store "check_sheet" t.f_Plain_check_sheet
 m_Store_check_share:Meth K t.C_Store "check_share" t.f_Plain_check_share
 mk_Store:Mk K t.C_Store t.f_Store_init
 mg_Chip:mg "Chip"=some (.ref t.C_Chip)
 cl_Chip:Cls K t.C_Chip
 na_Chip_blocks:qP K t.C_Chip "blocks"
 na_Chip_pages:qP K t.C_Chip "pages"
 na_Chip_most:qP K t.C_Chip "most"
 na_Chip_limits:qP K t.C_Chip "limits"
 na_Chip_borne:qP K t.C_Chip "borne"
 na_Chip_clearings:qP K t.C_Chip "clearings"
 na_Chip_deed_counts:qP K t.C_Chip "deed_counts"
 na_Chip_broken:qP K t.C_Chip "broken"
 na_Chip_deeds_left:qP K t.C_Chip "deeds_left"
 na_Chip_record:qP K t.C_Chip "record"
 m_Chip_put:Meth K t.C_Chip "put" t.f_Chip_put
 m_Chip_wipe:Meth K t.C_Chip "wipe" t.f_Chip_wipe
 m_Chip_read:Meth K t.C_Chip "read" t.f_Chip_read
 m_Chip_cut_after:Meth K t.C_Chip "cut_after" t.f_Chip_cut_after
 m_Chip_power_on:Meth K t.C_Chip "power_on" t.f_Chip_power_on
 m_Chip_is_dark:Meth K t.C_Chip "is_dark" t.f_Chip_is_dark
 m_Chip_cleared:Meth K t.C_Chip "cleared" t.f_Chip_cleared
 m_Chip_failed:Meth K t.C_Chip "failed" t.f_Chip_failed
 m_Chip_deeds:Meth K t.C_Chip "deeds" t.f_Chip_deeds
 m_Chip_check_page:Meth K t.C_Chip "check_page" t.f_Chip_check_page
 m_Chip_check_block:Meth K t.C_Chip "check_block" t.f_Chip_check_block
 m_Chip_check_power:Meth K t.C_Chip "check_power" t.f_Chip_check_power
 m_Chip_check_deed:Meth K t.C_Chip "check_deed" t.f_Chip_check_deed
 m_Chip_is_spent:Meth K t.C_Chip "is_spent" t.f_Chip_is_spent
 m_Chip_do_deed:Meth K t.C_Chip "do_deed" t.f_Chip_do_deed
 mk_Chip:Mk K t.C_Chip t.f_Chip_init
 mg_Fewest:mg "Fewest"=some (.ref t.C_Fewest)
 cl_Fewest:Cls K t.C_Fewest
 m_Fewest_goes_ahead:Meth K t.C_Fewest "goes_ahead" t.f_Fewest_goes_ahead
 m_Fewest_choose:Meth K t.C_Fewest "choose" t.f_Rule_choose
 mk0_Fewest:Mk0 K t.C_Fewest
 mg_Eldest:mg "Eldest"=some (.ref t.C_Eldest)
 cl_Eldest:Cls K t.C_Eldest
 m_Eldest_goes_ahead:Meth K t.C_Eldest "goes_ahead" t.f_Eldest_goes_ahead
 m_Eldest_choose:Meth K t.C_Eldest "choose" t.f_Rule_choose
 mk0_Eldest:Mk0 K t.C_Eldest
 mg_Terms:mg "Terms"=some (.ref t.C_Terms)
 cl_Terms:Cls K t.C_Terms
 na_Terms_blocks:qP K t.C_Terms "blocks"
 na_Terms_pages:qP K t.C_Terms "pages"
 na_Terms_sheets:qP K t.C_Terms "sheets"
 na_Terms_share:qP K t.C_Terms "share"
 na_Terms_ill:qP K t.C_Terms "ill"
 na_Terms_spread:qP K t.C_Terms "spread"
 m_Terms_closed:Meth K t.C_Terms "closed" t.f_Terms_closed
 mk_Terms:Mk K t.C_Terms t.f_Terms_init
 mg_PowerGone:mg "PowerGone"=some (.ref t.C_PowerGone)
 x_PowerGone:XCls K t.C_PowerGone
 mg_NoRoom:mg "NoRoom"=some (.ref t.C_NoRoom)
 x_NoRoom:XCls K t.C_NoRoom
 ci_Plain:ClM K t.C_Plain "__init__" t.f_Plain_init
 xm_PowerGone_PowerGone:W.exmOne K (.ref t.C_PowerGone) (.ref t.C_PowerGone)=some true
 cd_Plain_free:W.codeHdIn K t.c_Plain_free t.T_Plain_free=true
 mg_is_whole:mg "is_whole"=some (.ref t.f_is_whole)
 kp_is_whole:W.keepIn K (.ref t.f_is_whole)=true
 mg_is_within:mg "is_within"=some (.ref t.f_is_within)
 kp_is_within:W.keepIn K (.ref t.f_is_within)=true
 mg_is_shape:mg "is_shape"=some (.ref t.f_is_shape)
 kp_is_shape:W.keepIn K (.ref t.f_is_shape)=true
 mg_is_value:mg "is_value"=some (.ref t.f_is_value)
 kp_is_value:W.keepIn K (.ref t.f_is_value)=true
 mg_mark_of:mg "mark_of"=some (.ref t.f_mark_of)
 kp_mark_of:W.keepIn K (.ref t.f_mark_of)=true
 mg_bits_of:mg "bits_of"=some (.ref t.f_bits_of)
 kp_bits_of:W.keepIn K (.ref t.f_bits_of)=true
 mg_paper_of:mg "paper_of"=some (.ref t.f_paper_of)
 kp_paper_of:W.keepIn K (.ref t.f_paper_of)=true
 mg_limits_of:mg "limits_of"=some (.ref t.f_limits_of)
 kp_limits_of:W.keepIn K (.ref t.f_limits_of)=true
 mg_is_unbeaten:mg "is_unbeaten"=some (.ref t.f_is_unbeaten)
 kp_is_unbeaten:W.keepIn K (.ref t.f_is_unbeaten)=true
 mg_first_unbeaten:mg "first_unbeaten"=some (.ref t.f_first_unbeaten)
 kp_first_unbeaten:W.keepIn K (.ref t.f_first_unbeaten)=true
 mg_law_cell_at:mg "_law_cell_at"=some (.ref t.f_law_cell_at)
 kp_law_cell_at:W.keepIn K (.ref t.f_law_cell_at)=true
 mg_law_whole:mg "_law_whole"=some (.ref t.f_law_whole)
 kp_law_whole:W.keepIn K (.ref t.f_law_whole)=true
 mg_law_shape:mg "_law_shape"=some (.ref t.f_law_shape)
 kp_law_shape:W.keepIn K (.ref t.f_law_shape)=true
 mg_law_sheet:mg "_law_sheet"=some (.ref t.f_law_sheet)
 kp_law_sheet:W.keepIn K (.ref t.f_law_sheet)=true
 mg_law_ask:mg "_law_ask"=some (.ref t.f_law_ask)
 kp_law_ask:W.keepIn K (.ref t.f_law_ask)=true
 mg_law_lives:mg "_law_lives"=some (.ref t.f_law_lives)
 kp_law_lives:W.keepIn K (.ref t.f_law_lives)=true
 mg_law_tallies:mg "_law_tallies"=some (.ref t.f_law_tallies)
 kp_law_tallies:W.keepIn K (.ref t.f_law_tallies)=true
 mg_law_room_due:mg "_law_room_due"=some (.ref t.f_law_room_due)
 kp_law_room_due:W.keepIn K (.ref t.f_law_room_due)=true
 mg_law_rows:mg "_law_rows"=some (.ref t.f_law_rows)
 kp_law_rows:W.keepIn K (.ref t.f_law_rows)=true
 mg_law_right:mg "_law_right"=some (.ref t.f_law_right)
 kp_law_right:W.keepIn K (.ref t.f_law_right)=true
 mg_MOST_TOLD:mg "MOST_TOLD"=some (.int 1000000 t.tk_MOST_TOLD)
 mg_ROLL:mg "ROLL"=some (.int 64 t.tk_ROLL)
 mg_NAMES:mg "NAMES"=some (.int 128 t.tk_NAMES)
 b_bool:mg "bool"=none
 b_divmod:mg "divmod"=none
 b_int:mg "int"=none
 b_isinstance:mg "isinstance"=none
 b_len:mg "len"=none
 b_list:mg "list"=none
 b_min:mg "min"=none
 b_range:mg "range"=none
 b_sorted:mg "sorted"=none
 b_tuple:mg "tuple"=none
set_option genInjectivity false
structure Fns(K:W.Frag)(t:Adr) where
 is_whole:Fn1 K "is_whole" "is_whole" q35 t.f_is_whole ["thing"]
 is_within:Fn1 K "is_within" "is_within" q1O t.f_is_within ["thing","low","high"]
 is_shape:Fn1 K "is_shape" "is_shape" q36 t.f_is_shape ["blocks","pages"]
 is_value:Fn1 K "is_value" "is_value" q37 t.f_is_value ["thing"]
 mark_of:Fn1 K "mark_of" "mark_of" q4N t.f_mark_of ["stamp","name"]
 bits_of:Fn1 K "bits_of" "bits_of" q4O t.f_bits_of ["sheets"]
 Book_init:Fn1 K "__init__" "Book.__init__" q1P t.f_Book_init ["self","blocks","pages"]
 Book_mark:Fn1 K "mark" "Book.mark" q1Q t.f_Book_mark ["self","name"]
 Book_note:Fn1 K "note" "Book.note" q1R t.f_Book_note ["self","page","name"]
 Book_forget:Fn1 K "forget" "Book.forget" zP t.f_Book_forget ["self","name"]
 Book_emptied:Fn1 K "emptied" "Book.emptied" zA t.f_Book_emptied ["self","block"]
 Book_live_pages:Fn1 K "live_pages" "Book.live_pages" uT t.f_Book_live_pages ["self","block"]
 Book_held:Fn1 K "held" "Book.held" q1S t.f_Book_held ["self"]
 Plain_init:Fn1 K "__init__" "Plain.__init__" q0V t.f_Plain_init ["self","chip","terms"]
 Plain_good:Fn1 K "good" "Plain.good" q0W t.f_Plain_good ["self"]
 fd_Plain_free:FuncData
 F_Plain_free:FunT K "free" "Plain.free" jU t.c_Plain_free t.f_Plain_free fd_Plain_free
 b_Plain_free:yG K fd_Plain_free ["self"] []
 Plain_part:Fn1 K "part" "Plain.part" q0X t.f_Plain_part ["self"]
 Plain_spot:Fn1 K "spot" "Plain.spot" q0Y t.f_Plain_spot ["self"]
 Plain_ready:Fn1 K "ready" "Plain.ready" zQ t.f_Plain_ready ["self"]
 Plain_set_down:Fn1 K "set_down" "Plain.set_down" v8 t.f_Plain_set_down ["self","name","value"]
 Plain_lay:Fn1 K "lay" "Plain.lay" q1T t.f_Plain_lay ["self","name","value"]
 Plain_write:Fn1 K "write" "Plain.write" zR t.f_Plain_write ["self","sheet","value"]
 Plain_give_up:Fn1 K "give_up" "Plain.give_up" vK t.f_Plain_give_up ["self","sheets"]
 Plain_held:Fn1 K "held" "Plain.held" q0Z t.f_Plain_held ["self"]
 Plain_check_sheet:Fn1 K "check_sheet" "Plain.check_sheet" u8 t.f_Plain_check_sheet ["self","sheet"]
 Plain_check_share:Fn1 K "check_share" "Plain.check_share" u9 t.f_Plain_check_share ["self","sheet"]
 paper_of:Fn1 K "paper_of" "paper_of" q38 t.f_paper_of ["why","options","block","moved","wiped"]
 Store_init:Fn1 K "__init__" "Store.__init__" q10 t.f_Store_init ["self","chip","terms","rule"]
 Store_reserve:Fn1 K "reserve" "Store.reserve" vL t.f_Store_reserve ["self"]
 Store_tally:Fn1 K "tally" "Store.tally" zS t.f_Store_tally ["self","block"]
 Store_space:Fn1 K "space" "Store.space" zT t.f_Store_space ["self"]
 Store_full_ones:Fn1 K "full_ones" "Store.full_ones" uU t.f_Store_full_ones ["self"]
 Store_with_dead_page:Fn1 K "with_dead_page" "Store.with_dead_page" yM t.f_Store_with_dead_page ["self"]
 Store_options:Fn1 K "options" "Store.options" vM t.f_Store_options ["self"]
 Store_choice:Fn1 K "choice" "Store.choice" zB t.f_Store_choice ["self"]
 Store_choice_by_rule:Fn1 K "choice_by_rule" "Store.choice_by_rule" yN t.f_Store_choice_by_rule ["self","options"]
 Store_moved:Fn1 K "moved" "Store.moved" zU t.f_Store_moved ["self","block"]
 Store_value_to_move:Fn1 K "value_to_move" "Store.value_to_move" yS t.f_Store_value_to_move ["self","page","name"]
 Store_wiped:Fn1 K "wiped" "Store.wiped" zV t.f_Store_wiped ["self","block"]
 Store_clear_out:Fn1 K "clear_out" "Store.clear_out" uV t.f_Store_clear_out ["self","block"]
 Store_make_room:Fn1 K "make_room" "Store.make_room" uW t.f_Store_make_room ["self"]
 Store_make_ready:Fn1 K "make_ready" "Store.make_ready" uJ t.f_Store_make_ready ["self"]
 Store_make_rooms:Fn1 K "make_rooms" "Store.make_rooms" uK t.f_Store_make_rooms ["self"]
 limits_of:Fn1 K "limits_of" "limits_of" q1U t.f_limits_of ["ills","blocks"]
 fd_Chip_init:FuncData
 dv_Chip_init:Value
 F_Chip_init:FunD K "__init__" "Chip.__init__" uO dv_Chip_init t.f_Chip_init fd_Chip_init
 b_Chip_init:yG K fd_Chip_init ["self","blocks","pages","most","ills"] []
 ds_Chip_init_1:List Value
 b_Chip_init_1:yG K fd_Chip_init ["self","blocks","pages","most","ills"] ds_Chip_init_1
 v_Chip_init_1:Vals [.non] ds_Chip_init_1
 ds_Chip_init_2:List Value
 b_Chip_init_2:yG K fd_Chip_init ["self","blocks","pages","most","ills"] ds_Chip_init_2
 v_Chip_init_2:Vals [.int 1000000,.non] ds_Chip_init_2
 Chip_put:Fn1 K "put" "Chip.put" q39 t.f_Chip_put ["self","page","stuff"]
 Chip_wipe:Fn1 K "wipe" "Chip.wipe" q1V t.f_Chip_wipe ["self","block"]
 Chip_read:Fn1 K "read" "Chip.read" q1W t.f_Chip_read ["self","page"]
 Chip_cut_after:Fn1 K "cut_after" "Chip.cut_after" v9 t.f_Chip_cut_after ["self","deeds"]
 Chip_power_on:Fn1 K "power_on" "Chip.power_on" vO t.f_Chip_power_on ["self"]
 Chip_is_dark:Fn1 K "is_dark" "Chip.is_dark" zC t.f_Chip_is_dark ["self"]
 Chip_cleared:Fn1 K "cleared" "Chip.cleared" zD t.f_Chip_cleared ["self","block"]
 Chip_failed:Fn1 K "failed" "Chip.failed" zW t.f_Chip_failed ["self","block"]
 Chip_deeds:Fn1 K "deeds" "Chip.deeds" q11 t.f_Chip_deeds ["self"]
 Chip_check_page:Fn1 K "check_page" "Chip.check_page" uX t.f_Chip_check_page ["self","page"]
 Chip_check_block:Fn1 K "check_block" "Chip.check_block" uL t.f_Chip_check_block ["self","block"]
 Chip_check_power:Fn1 K "check_power" "Chip.check_power" uM t.f_Chip_check_power ["self"]
 Chip_check_deed:Fn1 K "check_deed" "Chip.check_deed" uY t.f_Chip_check_deed ["self","block"]
 Chip_is_spent:Fn1 K "is_spent" "Chip.is_spent" vP t.f_Chip_is_spent ["self","block"]
 Chip_do_deed:Fn1 K "do_deed" "Chip.do_deed" zE t.f_Chip_do_deed ["self","word","place","block","fails"]
 is_unbeaten:Fn1 K "is_unbeaten" "is_unbeaten" zX t.f_is_unbeaten ["rule","tally","tallies","pages","now"]
 first_unbeaten:Fn1 K "first_unbeaten" "first_unbeaten" vA t.f_first_unbeaten ["rule","tallies","pages","now"]
 Rule_choose:Fn1 K "choose" "Rule.choose" zY t.f_Rule_choose ["self","tallies","pages","now"]
 Fewest_goes_ahead:Fn1 K "goes_ahead" "Fewest.goes_ahead" uA t.f_Fewest_goes_ahead ["self","one","other","pages","now"]
 Eldest_goes_ahead:Fn1 K "goes_ahead" "Eldest.goes_ahead" uB t.f_Eldest_goes_ahead ["self","one","other","pages","now"]
 fd_Terms_init:FuncData
 dv_Terms_init:Value
 F_Terms_init:FunD K "__init__" "Terms.__init__" u6 dv_Terms_init t.f_Terms_init fd_Terms_init
 b_Terms_init:yG K fd_Terms_init ["self","blocks","pages","sheets","share","ill","spread"] []
 ds_Terms_init_1:List Value
 b_Terms_init_1:yG K fd_Terms_init ["self","blocks","pages","sheets","share","ill","spread"] ds_Terms_init_1
 v_Terms_init_1:Vals [.int 1000000] ds_Terms_init_1
 ds_Terms_init_2:List Value
 b_Terms_init_2:yG K fd_Terms_init ["self","blocks","pages","sheets","share","ill","spread"] ds_Terms_init_2
 v_Terms_init_2:Vals [.int 0,.int 1000000] ds_Terms_init_2
 Terms_closed:Fn1 K "closed" "Terms.closed" zF t.f_Terms_closed ["self"]
 law_cell_at:Fn1 K "_law_cell_at" "_law_cell_at" zZ t.f_law_cell_at ["_law_script","_law_k"]
 law_whole:Fn1 K "_law_whole" "_law_whole" q1X t.f_law_whole ["_law_found"]
 law_shape:Fn1 K "_law_shape" "_law_shape" q1Y t.f_law_shape ["_law_script"]
 law_sheet:Fn1 K "_law_sheet" "_law_sheet" q1Z t.f_law_sheet ["_law_cell","_law_kept","_law_sheets","_law_share"]
 law_ask:Fn1 K "_law_ask" "_law_ask" q4P t.f_law_ask ["_law_store","_law_kept","_law_way","_law_sheet_here","_law_number"]
 law_lives:Fn1 K "_law_lives" "_law_lives" q20 t.f_law_lives ["_law_stuff","_law_kept"]
 law_tallies:Fn1 K "_law_tallies" "_law_tallies" q00 t.f_law_tallies ["_law_chip","_law_blocks","_law_pages","_law_kept"]
 law_room_due:Fn1 K "_law_room_due" "_law_room_due" zG t.f_law_room_due ["_law_rows_here","_law_pages","_law_ill"]
 law_rows:Fn1 K "_law_rows" "_law_rows" q3A t.f_law_rows ["_law_found","_law_due"]
 law_right:Fn1 K "_law_right" "_law_right" q21 t.f_law_right ["_law_store","_law_chip","_law_shape_here","_law_kept"]
 law:Fn1 K "law" "law" qF5 t.f_law ["_law_script"]
structure HkE where
 P:Program
 w:World
 K:W.Frag
 mg:Str→Option Value
 t:Adr
noncomputable def hkB(e:HkE):Prop:=∃(S:Fns e.K e.t) (base:Heap),Txt e.K e.mg e.t∧BmIn base e.mg∧¬S.law.Ok0 e.P e.w e.mg base 19 (q4K e.K [e.t.T_Plain_free])
instance:Nonempty HkE:=⟨⟨PySem.Challenge.pw_wornpages_k32_options,⟨λ_ _=>0,{ strHash:=λ_=>0,shareClass:=λ_=>0,mergeTok:=id,idOf:=λ_=>0,idOfShared:=λ_ _=>0,followText:=λ_=>false,idOfImm:=λ_=>0 }⟩,[],λ_=>none,by constructor<;>exact(0:Nat)⟩⟩
@[irreducible] noncomputable def hkE:HkE:=Classical.epsilon hkB
noncomputable def P:Program:=hkE.P
noncomputable def w:World:=hkE.w
noncomputable def K:W.Frag:=hkE.K
noncomputable def mg:Str→Option Value:=hkE.mg
noncomputable def t:Adr:=hkE.t
section
variable{base:Heap}
theorem q9S:FnScope ["thing"] ["thing"] (qH q35):=qT (by decide+kernel)
theorem q8F:FnScope ["thing","low","high"] ["thing","low","high"] (qH q1O):=qT (by decide+kernel)
theorem q9T:FnScope ["blocks","pages"] ["blocks","pages"] (qH q36):=qT (by decide+kernel)
theorem q9U:FnScope ["thing"] ["thing"] (qH q37):=qT (by decide+kernel)
theorem qAU:FnScope ["stamp","name"] ["stamp","name"] (qH q4N):=qT (by decide+kernel)
theorem q12:FnScope ["sheets","bits","sheet"] ["sheets"] (qH q4O):=qT (by decide+kernel)
theorem q8G:FnScope ["self","blocks","pages"] ["self","blocks","pages"] (qH q1P):=qT (by decide+kernel)
theorem q8H:FnScope ["self","name"] ["self","name"] (qH q1Q):=qT (by decide+kernel)
theorem q3Z:FnScope ["self","page","name","block"] ["self","page","name"] (qH q1R):=qT (by decide+kernel)
theorem q22:FnScope ["self","name","page"] ["self","name"] (qH zP):=qT (by decide+kernel)
theorem q58:FnScope ["self","block"] ["self","block"] (qH zA):=qT (by decide+kernel)
theorem q3B:FnScope ["self","block"] ["self","block"] (qH uT):=qT (by decide+kernel)
theorem q8I:FnScope ["self"] ["self"] (qH q1S):=qT (by decide+kernel)
theorem q6Y:FnScope ["self","chip","terms"] ["self","chip","terms"] (qH q0V):=qT (by decide+kernel)
theorem q6Z:FnScope ["self"] ["self"] (qH q0W):=qT (by decide+kernel)
theorem q2X:FnScope ["self","clear"] ["self"] (qH jU):=qT (by decide+kernel)
theorem q2Y:FnScope ["self","block"] ["self"] (qH q0X):=qT (by decide+kernel)
theorem q01:FnScope ["self","part","free"] ["self"] (qH q0Y):=qT (by decide+kernel)
theorem q23:FnScope ["self","spare"] ["self"] (qH zQ):=qT (by decide+kernel)
theorem zN:FnScope ["self","name","value","page"] ["self","name","value"] (qH v8):=qT (by decide+kernel)
theorem q8J:FnScope ["self","name","value"] ["self","name","value"] (qH q1T):=qT (by decide+kernel)
theorem q6G:FnScope ["self","sheet","value"] ["self","sheet","value"] (qH zR):=qT (by decide+kernel)
theorem yI:FnScope ["self","sheets","sheet","held","gone"] ["self","sheets"] (qH vK):=qT (by decide+kernel)
theorem q70:FnScope ["self"] ["self"] (qH q0Z):=qT (by decide+kernel)
theorem q24:FnScope ["self","sheet"] ["self","sheet"] (qH u8):=qT (by decide+kernel)
theorem vH:FnScope ["self","sheet","held"] ["self","sheet"] (qH u9):=qT (by decide+kernel)
theorem q9V:FnScope ["why","options","block","moved","wiped"] ["why","options","block","moved","wiped"] (qH q38):=qT (by decide+kernel)
theorem q71:FnScope ["self","chip","terms","rule"] ["self","chip","terms","rule"] (qH q10):=qT (by decide+kernel)
theorem q4Q:FnScope ["self"] ["self"] (qH vL):=qT (by decide+kernel)
theorem q6H:FnScope ["self","block"] ["self","block"] (qH zS):=qT (by decide+kernel)
theorem q25:FnScope ["self","part"] ["self"] (qH zT):=qT (by decide+kernel)
theorem yO:FnScope ["self","space","full","tallies"] ["self"] (qH uU):=qT (by decide+kernel)
theorem q0G:FnScope ["self"] ["self"] (qH yM):=qT (by decide+kernel)
theorem q4R:FnScope ["self"] ["self"] (qH vM):=qT (by decide+kernel)
theorem q1A:FnScope ["self","options"] ["self"] (qH zB):=qT (by decide+kernel)
theorem q0H:FnScope ["self","options"] ["self","options"] (qH yN):=qT (by decide+kernel)
theorem uZ:FnScope ["self","block","moves","page","name"] ["self","block"] (qH zU):=qT (by decide+kernel)
theorem q13:FnScope ["self","page","name"] ["self","page","name"] (qH yS):=qT (by decide+kernel)
theorem q6I:FnScope ["self","block"] ["self","block"] (qH zV):=qT (by decide+kernel)
theorem q3C:FnScope ["self","block"] ["self","block"] (qH uV):=qT (by decide+kernel)
theorem yA:FnScope ["self","options","chosen","moved","wiped"] ["self"] (qH uW):=qT (by decide+kernel)
theorem q2O:FnScope ["self"] ["self"] (qH uJ):=qT (by decide+kernel)
theorem q2P:FnScope ["self"] ["self"] (qH uK):=qT (by decide+kernel)
theorem vT:FnScope ["ills","blocks","limits","block","deeds"] ["ills","blocks"] (qH q1U):=qT (by decide+kernel)
theorem q8K:FnScope ["self","blocks","pages","most","ills"] ["self","blocks","pages","most","ills"] (qH uO):=qT (by decide+kernel)
theorem q52:FnScope ["self","page","stuff","block"] ["self","page","stuff"] (qH q39):=qT (by decide+kernel)
theorem vU:FnScope ["self","block","fails","first","page"] ["self","block"] (qH q1V):=qT (by decide+kernel)
theorem q8L:FnScope ["self","page"] ["self","page"] (qH q1W):=qT (by decide+kernel)
theorem q40:FnScope ["self","deeds"] ["self","deeds"] (qH v9):=qT (by decide+kernel)
theorem q4S:FnScope ["self"] ["self"] (qH vO):=qT (by decide+kernel)
theorem q59:FnScope ["self"] ["self"] (qH zC):=qT (by decide+kernel)
theorem q5A:FnScope ["self","block"] ["self","block"] (qH zD):=qT (by decide+kernel)
theorem q6J:FnScope ["self","block"] ["self","block"] (qH zW):=qT (by decide+kernel)
theorem q72:FnScope ["self"] ["self"] (qH q11):=qT (by decide+kernel)
theorem q3D:FnScope ["self","page"] ["self","page"] (qH uX):=qT (by decide+kernel)
theorem q2Q:FnScope ["self","block"] ["self","block"] (qH uL):=qT (by decide+kernel)
theorem q2R:FnScope ["self"] ["self"] (qH uM):=qT (by decide+kernel)
theorem q3E:FnScope ["self","block"] ["self","block"] (qH uY):=qT (by decide+kernel)
theorem q4T:FnScope ["self","block"] ["self","block"] (qH vP):=qT (by decide+kernel)
theorem q5B:FnScope ["self","word","place","block","fails"] ["self","word","place","block","fails"] (qH zE):=qT (by decide+kernel)
theorem q26:FnScope ["rule","tally","tallies","pages","now","other"] ["rule","tally","tallies","pages","now"] (qH zX):=qT (by decide+kernel)
theorem v3:FnScope ["rule","tallies","pages","now","place"] ["rule","tallies","pages","now"] (qH vA):=qT (by decide+kernel)
theorem q6K:FnScope ["self","tallies","pages","now"] ["self","tallies","pages","now"] (qH zY):=qT (by decide+kernel)
theorem q27:FnScope ["self","one","other","pages","now"] ["self","one","other","pages","now"] (qH uA):=qT (by decide+kernel)
theorem q28:FnScope ["self","one","other","pages","now"] ["self","one","other","pages","now"] (qH uB):=qT (by decide+kernel)
theorem q73:FnScope ["self","blocks","pages","sheets","share","ill","spread"] ["self","blocks","pages","sheets","share","ill","spread"] (qH u6):=qT (by decide+kernel)
theorem q5C:FnScope ["self"] ["self"] (qH zF):=qT (by decide+kernel)
theorem q6L:FnScope ["_law_script","_law_k"] ["_law_script","_law_k"] (qH zZ):=qT (by decide+kernel)
theorem q8M:FnScope ["_law_found"] ["_law_found"] (qH q1X):=qT (by decide+kernel)
theorem yP:FnScope ["_law_script","_law_pages","_law_closed","_law_ill","_law_share"] ["_law_script"] (qH q1Y):=qT (by decide+kernel)
theorem q14:FnScope ["_law_cell","_law_kept","_law_sheets","_law_share","_law_sheet_here","_law_held"] ["_law_cell","_law_kept","_law_sheets","_law_share"] (qH q1Z):=qT (by decide+kernel)
theorem q3F:FnScope ["_law_store","_law_kept","_law_way","_law_sheet_here","_law_number","_law_word"] ["_law_store","_law_kept","_law_way","_law_sheet_here","_law_number"] (qH q4P):=qT (by decide+kernel)
theorem v4:FnScope ["_law_stuff","_law_kept","_law_latest","_law_page","_law_stamp","_law_name"] ["_law_stuff","_law_kept"] (qH q20):=qT (by decide+kernel)
theorem jC:FnScope ["_law_chip","_law_blocks","_law_pages","_law_kept","_law_stuff","_law_lives_here","_law_wipes","_law_word","_law_place","_law_well","_law_found","_law_block","_law_mine","_law_born"] ["_law_chip","_law_blocks","_law_pages","_law_kept"] (qH q00):=qT (by decide+kernel)
theorem q1B:FnScope ["_law_rows_here","_law_pages","_law_ill","_law_row"] ["_law_rows_here","_law_pages","_law_ill"] (qH zG):=qT (by decide+kernel)
theorem q53:FnScope ["_law_found","_law_due","_law_row"] ["_law_found","_law_due"] (qH q3A):=qT (by decide+kernel)
theorem y6:FnScope ["_law_store","_law_chip","_law_shape_here","_law_kept","_law_rows_here","_law_due","_law_found","_law_free","_law_part","_law_ready","_law_full","_law_some"] ["_law_store","_law_chip","_law_shape_here","_law_kept"] (qH q21):=qT (by decide+kernel)
theorem vB:FnScope ["_law_script","_law_shape_here","_law_sheets","_law_rule","_law_chip","_law_k","_law_store","_law_kept","_law_cell","_law_sheet_here","_law_word"] ["_law_script"] (qH qF5):=qT (by decide+kernel)
local macro_rules| `(tactic|walk_at "r")=>`(tactic|repeat (first|with_reducible refine⟨_,rfl,?_⟩|refine⟨_,rfl,?_⟩|refine(iI ?_)))
theorem q9W(T:Txt K mg t)(S:Fns K t):S.is_whole.Ok0 P w mg base 1 qB6:=by
 refine S.is_whole.F.ok0 q9S λcdv A _ s H vs Q E hr h=>?_
 ·obtain⟨x,rfl,kn,k⟩:=h
  refine⟨_,(qD (qL (q1E (j8 yK (by rfl) T.b_isinstance (by kernel_rfl) (qA (pv 0) (qA (q0N rfl T.b_int (by kernel_rfl) rfl (v:=.ty "int")) qE))) (vY (qA3 (j8 yK (by rfl) T.b_isinstance (by kernel_rfl) (qA (pv 0) (qA (q0N rfl T.b_bool (by kernel_rfl) rfl (v:=.ty "bool")) qE)))))))),?_⟩
  try dsimp-beta-proj-iota-zeta-eta only[wishK,cxK]
  obtain⟨ty,q,e1,e2,_⟩:=kn.ty (K:=K)
  refine⟨_,rfl,x,_,_,ty,_,rfl,rfl,.inl q,e1,_,rfl,?_⟩
  have z:=qDN x
  cases qi:isI x with
  |true=>
   rw[qi,kF rfl]at z
   refine iteT ?_
   refine⟨_,rfl,x,_,_,ty,_,rfl,rfl,.inl q,e2,_,rfl,?_⟩
   rw[z]
   exact k
  |false=>
   rw[qi]at z
   refine iteF ?_
   have z':false=isW x:=z
   rw[z']
   exact k
theorem jM(T:Txt K mg t)(S:Fns K t):S.is_within.Ok0 P w mg base 2 qDO:=by
 refine S.is_within.F.ok0 q8F λcdv A _ s H vs Q E hr h=>?_
 ·obtain⟨x,lo,hi,rfl,kn,k⟩:=h
  refine⟨_,(qD (qL (q1E (qV (q9W T S).mono hr rfl T.mg_is_whole T.kp_is_whole S.is_whole.b .nil qK (qA (pv 0) qE)) (vY (qD2 qB1 qB1 (pv 1) (pv 0) (pv 2)))))),?_⟩
  try dsimp-beta-proj-iota-zeta-eta only[wishK,cxK]
  refine⟨_,rfl,x,rfl,kn,_,rfl,?_⟩
  cases x with
  |int i=>
   refine iteT ?_
   refine⟨_,rfl,_,rfl,iI ⟨_,rfl,?_⟩⟩
   have k':Q (V.bl (decide (lo≤i)&&decide (i≤hi))) H:=k
   by_cases h1:lo≤i
   ·rw[hC h1]at k' ⊢
    refine iteT ?_
    exact⟨_,rfl,iI k'⟩
   ·rw[hG h1]at k' ⊢
    refine iteF ?_
    exact k'
  |_=>exact iteF k
theorem q54(T:Txt K mg t)(S:Fns K t):S.is_shape.Ok0 P w mg base 3 qFU:=by
 refine S.is_shape.F.ok0 q9T λcdv A _ s H vs Q E hr h=>?_
 ·obtain⟨x,y,rfl,kx,ky,k⟩:=h
  refine⟨_,(qD (qL (q1E (qV (jM T S).mono hr rfl T.mg_is_within T.kp_is_within S.is_within.b .nil qK (qA (pv 0) (qA qG (qA qG qE)))) (vY (qV (jM T S).mono hr rfl T.mg_is_within T.kp_is_within S.is_within.b .nil qK (qA (pv 1) (qA qG (qA qG qE)))))))),?_⟩
  try dsimp-beta-proj-iota-zeta-eta only[wishK,cxK]
  refine⟨_,rfl,x,_,_,rfl,kx,_,rfl,?_⟩
  cases q:inB x 2 16 with
  |true=>
   rw[q]at k
   refine iteT ⟨_,rfl,y,_,_,rfl,ky,k⟩
  |false=>
   rw[q]at k
   exact iteF k
structure Gd(m:CM):Prop where
 br:∀b,m.br.getD b false=false
 li:∀b,valV m.lim (Sum.inl b)=none
theorem inBi{v lo hi:Int}(h1:lo≤v)(h2:v≤hi):inB (.int v) lo hi=true:=by
 show(decide (lo≤v)&&decide (v≤hi))=true
 rw[hC h1,hC h2]
 rfl
noncomputable def putC(m:CM)(p:Nat)(st:V):CM:={ m.deed "put" (p:Int) ((p:Int) / m.pg) false with bo:=m.bo.set p st }
noncomputable def wipC(m:CM)(b:Nat):CM:={ m.deed "wipe" (b:Int) (b:Int) false with bo:=clr m.bo ((b:Int)*m.pg).toNat m.pg.toNat,cl:=m.cl.set b (m.cl.getD b 0+1) }
noncomputable def spCP(t:Adr):Sp:=λvs H Q E=>∃c a m,∃p:Int,vs=[.ref c,.int p]∧ChipAt t.C_Chip H c a m∧m.Ok∧0≤p∧p≤m.bl*m.pg-1∧Q .non H
theorem zH(T:Txt K mg t)(S:Fns K t):S.Chip_check_page.Ok0 P w mg base 3 (spCP t):=by
 refine S.Chip_check_page.F.ok0 q3D λcdv A _ s H vs Q E hr h=>?_
 ·obtain⟨c,a,m,p,rfl,hc,ok,p0,p1,q⟩:=h
  refine⟨_,(qD (jB (yH (jY (qV (jM T S).mono hr rfl T.mg_is_within T.kp_is_within S.is_within.b .nil qK (qA (pv 1) (qA qG (qA (qS vJ (qS v6 (qJ (pv 0) rfl) (qJ (pv 0) rfl)) qG) qE)))))) (qD jF) qQ)),?_⟩
  try dsimp-beta-proj-iota-zeta-eta only[wishK,cxK]
  have b1:=ok.bl1
  have b2:=ok.bl2
  refine⟨_,rfl,iV rfl (iF hc.ins T.cl_Chip T.na_Chip_blocks rfl (iV rfl (iF hc.ins T.cl_Chip T.na_Chip_pages rfl ?_)))⟩
  refine(iI ⟨.inl ⟨by omega,by omega⟩,iI ⟨.int p,_,_,rfl,.int p,_,rfl,?_⟩⟩)
  rw[inBi p0 p1]
  exact iteF q
noncomputable def spCB(t:Adr):Sp:=λvs H Q E=>∃c a m,∃p:Int,vs=[.ref c,.int p]∧ChipAt t.C_Chip H c a m∧0≤p∧p≤m.bl-1∧Q .non H
theorem uC(T:Txt K mg t)(S:Fns K t):S.Chip_check_block.Ok0 P w mg base 3 (spCB t):=by
 refine S.Chip_check_block.F.ok0 q2Q λcdv A _ s H vs Q E hr h=>?_
 ·obtain⟨c,a,m,p,rfl,hc,p0,p1,q⟩:=h
  refine⟨_,(qD (jB (yH (jY (qV (jM T S).mono hr rfl T.mg_is_within T.kp_is_within S.is_within.b .nil qK (qA (pv 1) (qA qG (qA (qS vJ (qJ (pv 0) rfl) qG) qE)))))) (qD jF) qQ)),?_⟩
  try dsimp-beta-proj-iota-zeta-eta only[wishK,cxK]
  refine⟨_,rfl,iV rfl (iF hc.ins T.cl_Chip T.na_Chip_blocks rfl (iI ⟨.int p,_,_,rfl,.int p,_,rfl,?_⟩))⟩
  rw[inBi p0 p1]
  exact iteF q
noncomputable def spID(t:Adr):Sp:=λvs H Q E=>∃c a m,vs=[.ref c]∧ChipAt t.C_Chip H c a m∧Q (.bl (decide (m.lf=some 0))) H
theorem q5D(T:Txt K mg t)(S:Fns K t):S.Chip_is_dark.Ok0 P w mg base 1 (spID t):=by
 refine S.Chip_is_dark.F.ok0 q59 λcdv A _ s H vs Q E hr h=>?_
 ·obtain⟨c,a,m,rfl,hc,q⟩:=h
  refine⟨_,(qD (qL (uP uN (qJ (pv 0) rfl) qG (qR _)))),?_⟩
  try dsimp-beta-proj-iota-zeta-eta only[wishK,cxK]
  refine⟨_,rfl,c,_,a.dx,_,_,rfl,hc.ins,T.cl_Chip,T.na_Chip_deeds_left,rfl,qFT,?_⟩
  rw[lf0]
  exact q
noncomputable def spPW(t:Adr):Sp:=λvs H Q E=>∃c a m,vs=[.ref c]∧ChipAt t.C_Chip H c a m∧(if m.lf=some 0 then E (.ref t.C_PowerGone) none H else Q .non H)
theorem vQ(T:Txt K mg t)(S:Fns K t):S.Chip_check_power.OkE P w mg base 2 (spPW t):=by
 refine S.Chip_check_power.F.okE q2R (λvs H Q E h=>?_) (λcdv A outer s H vs Q E hr h=>?_)
 ·repeat obtain⟨_,h⟩:=h
  all_goals subst_vars;rfl
 ·obtain⟨c,a,m,rfl,hc,q⟩:=h
  refine⟨_,(qD (jB (jY (j0 (pv 0) T.cl_Chip T.m_Chip_is_dark (q5D T S).mono hr S.Chip_is_dark.b .nil qK)) (qD (q9A jH rfl rfl T.mg_PowerGone T.x_PowerGone (qA vX qE))) qQ)),?_⟩
  try dsimp-beta-proj-iota-zeta-eta only[wishK,cxK]
  refine(iV rfl (iM hc.ins rfl ⟨c,a,m,rfl,hc,_,rfl,?_⟩))
  by_cases z:m.lf=some 0
  ·rw[kF z]at q
   rw[hC z]
   exact iteT ⟨sz1,q⟩
  ·rw[kB z]at q
   rw[hG z]
   exact iteF q
noncomputable def spCD(t:Adr):Sp:=λvs H Q E=>∃c a m b,vs=[.ref c,.int b]∧ChipAt t.C_Chip H c a m∧m.Ok∧Gd m∧0≤b∧b<m.bl∧(if m.lf=some 0 then E (.ref t.C_PowerGone) none H else Q .non H)
theorem zI(T:Txt K mg t)(S:Fns K t):S.Chip_check_deed.OkE P w mg base 3 (spCD t):=by
 refine S.Chip_check_deed.F.okE q3E (λvs H Q E h=>?_) (λcdv A outer s H vs Q E hr h=>?_)
 ·repeat obtain⟨_,h⟩:=h
  all_goals subst_vars;rfl
 ·obtain⟨c,a,m,b,rfl,hc,ok,g,b0,b1,q⟩:=h
  refine⟨_,(qB (qZ (v7 jH (pv 0) T.cl_Chip T.m_Chip_check_power (vQ T S).mono hr S.Chip_check_power.b .nil)) (qD (jB (jY (qW qY (qJ (pv 0) rfl) (pv 1) (λ_ _=>rfl))) (qD jF) qQ))),?_⟩
  try dsimp-beta-proj-iota-zeta-eta only[wishK,cxK]
  have nb:=ok.nbr
  refine(iV rfl (iM hc.ins rfl ⟨c,a,m,rfl,hc,?_⟩))
  split
  ·rename_i z
   rw[kF z]at q
   exact q
  ·rename_i z
   rw[kB z]at q
   refine(iV rfl (iF hc.ins T.cl_Chip T.na_Chip_broken rfl ⟨_,rfl,iL (k:=b) (v:=_) (SqL.of hc.br) (getB b0 (by omega)) ⟨_,rfl,?_⟩⟩))
   rw[g.br]
   exact iteF q
noncomputable def spIS(t:Adr):Sp:=λvs H Q E=>∃c a m b,vs=[.ref c,.int b]∧ChipAt t.C_Chip H c a m∧Gd m∧Q (.bl false) H
theorem q0I(T:Txt K mg t)(S:Fns K t):S.Chip_is_spent.Ok0 P w mg base 1 (spIS t):=by
 refine S.Chip_is_spent.F.ok0 q4T λcdv A _ s H vs Q E hr h=>?_
 ·obtain⟨c,a,m,b,rfl,hc,g,q⟩:=h
  have hu:=q1G hr
  refine⟨_,(qD (qL (q1E (qHN (q81 hu (pv 1) (qJ (pv 0) rfl))) (vY (uP qB2 (qW qY (qJ (pv 0) rfl) (pv 1) (λ_ _=>rfl)) (qFN hu (qJ (pv 0) rfl) (pv 1) (λ_ _=>rfl)) (qR _)))))),?_⟩
  try dsimp-beta-proj-iota-zeta-eta only[wishK,cxK]
  refine⟨_,rfl,iV rfl (iF hc.ins T.cl_Chip T.na_Chip_limits rfl ⟨a.li,_,rfl,DGet.k (k:=Sum.inl b) hc.li,_,rfl,?_⟩)⟩
  rw[g.li]
  exact iteF q
noncomputable def spDD(t:Adr):Sp:=λvs H Q E=>∃c a m w pl b,vs=[.ref c,.str w,.int pl,.int b,.bl false]∧ChipAt t.C_Chip H c a m∧m.Ok∧m.rc.length<1000000∧0≤b∧b<m.bl∧
 ∀H',ChipAt t.C_Chip H' c a (m.deed w pl b false)→Keep (foot c a) H H'→Q .non H'
theorem q1C(T:Txt K mg t)(S:Fns K t):S.Chip_do_deed.Ok0 P w mg base 3 (spDD t):=by
 refine S.Chip_do_deed.F.ok0 q5B λcdv A _ s H vs Q E hr h=>?_
 ·obtain⟨c,a,m,w,pl,b,rfl,hc,ok,hr1,b0,b1,q⟩:=h
  refine⟨_,(zM (jB (qO q2H (qJ (pv 0) rfl) u7 (qR _)) (qD (q7F (pv 0) qG qHV)) qQ) (qB (q3K (qJ (pv 0) rfl) (pv 3) q1H qG q5T yZ) (qB (qZ (qB5 wG wA wB vV (qJ (pv 0) rfl) (qA (uQ (qA (pv 1) (qA (pv 2) (qA (qA3 (pv 4)) qE)))) qE q3R))) (qD (jB (jY (pv 4)) (qB jF (qD jF)) qQ))))),?_⟩
  try dsimp-beta-proj-iota-zeta-eta only[wishK,cxK]
  have nd:=ok.ndc
  refine⟨λσ' H1=>σ'=[some (.ref c),some (.str w),some (.int pl),some (.int b),some (.bl false)]∧ChipAt t.C_Chip H1 c a { m with lf:=m.lf.map (· - 1) }∧Keep (foot c a) H H1,?_,?_⟩
  ·refine⟨_,rfl,c,_,a.dx,_,_,rfl,hc.ins,T.cl_Chip,T.na_Chip_deeds_left,rfl,rfl,_,rfl,?_⟩
   cases hl:m.lf with
   |none=>
    refine iteF ⟨rfl,?_,Keep.refl⟩
    show ChipAt t.C_Chip H c a { m with lf:=none }
    rw[←hl]
    exact hc
   |some i=>
    refine iteT ?_
    refine⟨_,rfl,c,_,a.dx,_,_,rfl,hc.ins,T.cl_Chip,T.na_Chip_deeds_left,(by unfold chF;rw[hl];rfl),iI ⟨a.dx,_,hc.ins,by show 10<1000;decide,?_⟩⟩
    refine⟨rfl,hc.setLf (some (i-1)),Keep.upd hc.ins (λ_ z=>by cases z) (by simp[foot])⟩
  rintro _ H1 ⟨rfl,hc1,k1⟩
  refine(iV rfl (iF hc1.ins T.cl_Chip T.na_Chip_deed_counts rfl ⟨_,rfl,iL (k:=b) (v:=_) (SqL.of hc1.dc) (getI b0 (by show b<(m.dc.length:Int);omega)) (iI ⟨a.dc,_,b,b.toNat,rfl,rfl,hc1.dc,by rw[hI];exact ixOk b0 (by show b<(m.dc.length:Int);omega),?_⟩)⟩))
  rw[←List.map_set]
  have hc2:=hc1.setDc (m.dc.set b.toNat (m.dc.getD b.toNat 0+1))
  have k2:Keep (foot c a) H (upd H1 a.dc (.lst ((m.dc.set b.toNat (m.dc.getD b.toNat 0+1)).map V.int))):=k1.trans (Keep.upd hc1.dc (λ_ z=>by cases z) (by simp[foot]))
  generalize upd H1 a.dc (.lst ((m.dc.set b.toNat (m.dc.getD b.toNat 0+1)).map V.int))=H2 at hc2 k2 ⊢
  obtain⟨rs,er,pr⟩:=hc2.rc
  have ln:rs.length≤1000000:=by
   rw[pr.len]
   exact pQ hr1
  refine(iV rfl (iF hc2.ins T.cl_Chip T.na_Chip_record rfl ⟨.inl ⟨rfl,_,SqL.of er⟩,_,rfl,_,rfl,_,rfl,_,rfl,sz3,λp H3 np sm hp=>?_⟩))
  have er3:=sm _ _ er
  refine⟨a.rc,rs,_,rfl,rfl,er3,dD ln (by decide),?_⟩
  exact⟨_,rfl,_,rfl,iteF (q _ ((hc2.same sm).addRc (d:=(w,pl,!false)) er3 hp) ((k2.trans (Keep.same sm)).trans (Keep.upd (o:=.lst (rs++[.ref p])) er3 (λ_ z=>by cases z) (by simp[foot]))))⟩
noncomputable def qKM(t:Adr):Sp:=λvs H Q E=>∃c a m,∃p:Nat,∃st,vs=[.ref c,.int (p:Int),st]∧ChipAt t.C_Chip H c a m∧m.Ok∧m.rc.length<1000000∧Gd m∧(p:Int)≤m.bl*m.pg-1∧m.bo.getD p .non=.non∧(m.lf=some 0→E (.ref t.C_PowerGone) none H)∧(m.lf≠some 0→∀H',ChipAt t.C_Chip H' c a (putC m p st)→Keep (foot c a) H H'→Q .non H')
theorem q9X(T:Txt K mg t)(S:Fns K t):S.Chip_put.OkE P w mg base 4 (qKM t):=by
 refine S.Chip_put.F.okE q52 (λvs H Q E h=>?_) (λcdv A outer s H vs Q E hr h=>?_)
 ·repeat obtain⟨_,h⟩:=h
  all_goals subst_vars;rfl
 ·obtain⟨c,a,m,p,st,rfl,hc,ok,hr1,g,p1,hw,dk,q⟩:=h
  refine⟨_,(qB (qZ (jE (pv 0) T.cl_Chip T.m_Chip_check_page (zH T S).mono hr S.Chip_check_page.b .nil qK (qA (pv 1) qE))) (qB (qU (i:=3) q52.nd rfl (Or.inl rfl) (qS uF (pv 1) (qJ (pv 0) rfl))) (qB (qZ (jW jH (pv 0) T.cl_Chip T.m_Chip_check_deed (zI T S).mono hr S.Chip_check_deed.b .nil (qA (pv 3) qE))) (qB (jB (qO q2H (qW qY (qJ (pv 0) rfl) (pv 1) (λ_ _=>rfl)) u7 (qR _)) (qD jF) qQ) (qB (qZ (jE (pv 0) T.cl_Chip T.m_Chip_do_deed (q1C T S).mono hr S.Chip_do_deed.b .nil qK (qA vX (qA (pv 1) (qA (pv 3) (qA (jE (pv 0) T.cl_Chip T.m_Chip_is_spent (q0I T S).mono hr S.Chip_is_spent.b .nil qK (qA (pv 3) qE)) qE)))))) (qD (q31 (pv 2) (q4B (qJ (pv 0) rfl) (pv 1) yZ)))))))),?_⟩
  try dsimp-beta-proj-iota-zeta-eta only[wishK,cxK]
  have pg1:=ok.pg1
  have pg2:=ok.pg2
  have nbo:=ok.nbo
  have p0:(0:Int)≤p:=by omega
  obtain⟨b0,b1⟩:=qIT ok p0 p1
  refine(iV rfl (iM hc.ins rfl ⟨_,rfl,c,a,m,p,rfl,hc,ok,p0,p1,?_⟩))
  refine⟨_,rfl,iV rfl (iF hc.ins T.cl_Chip T.na_Chip_pages rfl (iI ⟨⟨by omega,by omega⟩,?_⟩))⟩
  refine(iV rfl (iM hc.ins rfl ⟨_,rfl,c,a,m,_,rfl,hc,ok,g,b0,b1,?_⟩))
  by_cases z:m.lf=some 0
  ·rw[kF z]
   exact dk z
  rw[kB z]
  have q:=q z
  refine(iV rfl (iF hc.ins T.cl_Chip T.na_Chip_borne rfl ⟨_,rfl,iL (k:=p) (v:=_) (SqL.of hc.bo) (getV p0 (by omega)) ⟨rfl,_,rfl,?_⟩⟩))
  rw[kY,hC hw]
  refine iteF ?_
  refine(iV rfl (iM hc.ins rfl ⟨_,rfl,_,rfl,iV rfl (iM hc.ins rfl ⟨_,rfl,c,a,m,_,rfl,hc,g,?_⟩)⟩))
  refine⟨c,a,m,"put",p,_,rfl,hc,ok,hr1,b0,b1,λH' hc' k'=>?_⟩
  refine⟨_,rfl,iV rfl (iF hc'.ins T.cl_Chip T.na_Chip_borne rfl ⟨_,rfl,a.bo,_,p,p,rfl,rfl,hc'.bo,ixOk p0 (by show(p:Int)<(m.bo.length:Int);omega),?_⟩)⟩
  exact q _ (hc'.setBo (m.bo.set p st)) (k'.trans (Keep.upd hc'.bo (λ_ z=>by cases z) (by simp[foot])))
noncomputable def qJH(t:Adr):Sp:=λvs H Q E=>∃c a m,∃p:Int,vs=[.ref c,.int p]∧ChipAt t.C_Chip H c a m∧m.Ok∧0≤p∧p≤m.bl*m.pg-1∧(m.lf=some 0→E (.ref t.C_PowerGone) none H)∧(m.lf≠some 0→Q (m.bo.getD p.toNat .non) H)
theorem q41(T:Txt K mg t)(S:Fns K t):S.Chip_read.OkE P w mg base 4 (qJH t):=by
 refine S.Chip_read.F.okE q8L (λvs H Q E h=>?_) (λcdv A outer s H vs Q E hr h=>?_)
 ·repeat obtain⟨_,h⟩:=h
  all_goals subst_vars;rfl
 ·obtain⟨c,a,m,p,rfl,hc,ok,p0,p1,dk,q⟩:=h
  refine⟨_,(qB (qZ (jE (pv 0) T.cl_Chip T.m_Chip_check_page (zH T S).mono hr S.Chip_check_page.b .nil qK (qA (pv 1) qE))) (qB (qZ (v7 jH (pv 0) T.cl_Chip T.m_Chip_check_power (vQ T S).mono hr S.Chip_check_power.b .nil)) (qD (qL (qW qY (qJ (pv 0) rfl) (pv 1) (λ_ _=>rfl)))))),?_⟩
  try dsimp-beta-proj-iota-zeta-eta only[wishK,cxK]
  have nbo:=ok.nbo
  refine(iV rfl (iM hc.ins rfl ⟨_,rfl,c,a,m,p,rfl,hc,ok,p0,p1,iV rfl (iM hc.ins rfl ⟨c,a,m,rfl,hc,?_⟩)⟩))
  by_cases z:m.lf=some 0
  ·rw[kF z]
   exact dk z
  rw[kB z]
  exact(iV rfl (iF hc.ins T.cl_Chip T.na_Chip_borne rfl ⟨_,rfl,iL (k:=p) (v:=_) (SqL.of hc.bo) (getV p0 (by omega)) (q z)⟩))
noncomputable def spCl(t:Adr):Sp:=λvs H Q E=>∃c a m b,vs=[.ref c,.int b]∧ChipAt t.C_Chip H c a m∧m.Ok∧0≤b∧b≤m.bl-1∧Q (.int (m.cl.getD b.toNat 0)) H
theorem q1D(T:Txt K mg t)(S:Fns K t):S.Chip_cleared.Ok0 P w mg base 4 (spCl t):=by
 refine S.Chip_cleared.F.ok0 q5A λcdv A _ s H vs Q E hr h=>?_
 ·obtain⟨c,a,m,b,rfl,hc,ok,b0,b1,q⟩:=h
  refine⟨_,(qB (qZ (jE (pv 0) T.cl_Chip T.m_Chip_check_block (uC T S).mono hr S.Chip_check_block.b .nil qK (qA (pv 1) qE))) (qD (qL (qW qY (qJ (pv 0) rfl) (pv 1) (λ_ _=>rfl))))),?_⟩
  try dsimp-beta-proj-iota-zeta-eta only[wishK,cxK]
  have n:=ok.ncl
  exact(iV rfl (iM hc.ins rfl ⟨_,rfl,c,a,m,b,rfl,hc,b0,b1,iV rfl (iF hc.ins T.cl_Chip T.na_Chip_clearings rfl ⟨_,rfl,iL (k:=b) (v:=_) (SqL.of hc.cl) (getI b0 (by omega)) q⟩)⟩))
noncomputable def spFa(t:Adr):Sp:=λvs H Q E=>∃c a m b,vs=[.ref c,.int b]∧ChipAt t.C_Chip H c a m∧m.Ok∧0≤b∧b≤m.bl-1∧Q (.bl (m.br.getD b.toNat false)) H
theorem q6M(T:Txt K mg t)(S:Fns K t):S.Chip_failed.Ok0 P w mg base 4 (spFa t):=by
 refine S.Chip_failed.F.ok0 q6J λcdv A _ s H vs Q E hr h=>?_
 ·obtain⟨c,a,m,b,rfl,hc,ok,b0,b1,q⟩:=h
  refine⟨_,(qB (qZ (jE (pv 0) T.cl_Chip T.m_Chip_check_block (uC T S).mono hr S.Chip_check_block.b .nil qK (qA (pv 1) qE))) (qD (qL (qW qY (qJ (pv 0) rfl) (pv 1) (λ_ _=>rfl))))),?_⟩
  try dsimp-beta-proj-iota-zeta-eta only[wishK,cxK]
  have n:=ok.nbr
  exact(iV rfl (iM hc.ins rfl ⟨_,rfl,c,a,m,b,rfl,hc,b0,b1,iV rfl (iF hc.ins T.cl_Chip T.na_Chip_broken rfl ⟨_,rfl,iL (k:=b) (v:=_) (SqL.of hc.br) (getB b0 (by omega)) q⟩)⟩))
noncomputable def spDe(t:Adr):Sp:=λvs H Q E=>∃c a m,vs=[.ref c]∧ChipAt t.C_Chip H c a m∧∀rs,H a.rc=some (.lst rs)→Recd H rs m.rc→NewO H (.lst rs) Q
theorem q74(T:Txt K mg t)(S:Fns K t):S.Chip_deeds.Ok0 P w mg base 1 (spDe t):=by
 refine S.Chip_deeds.F.ok0 q72 λcdv A _ s H vs Q E hr h=>?_
 ·obtain⟨c,a,m,rfl,hc,q⟩:=h
  refine⟨_,(qD (qL (q4F zO (by rfl) T.b_list (by kernel_rfl) (qA (qJ (pv 0) rfl) qE)))),?_⟩
  try dsimp-beta-proj-iota-zeta-eta only[wishK,cxK]
  obtain⟨rs,er,pr⟩:=hc.rc
  exact(iV rfl (iF hc.ins T.cl_Chip T.na_Chip_record rfl ⟨a.rc,rs,rfl,.inl (SqL.of er),q rs er pr⟩))
noncomputable def spOn(t:Adr):Sp:=λvs H Q E=>∃c a m,vs=[.ref c]∧ChipAt t.C_Chip H c a m∧∀H',ChipAt t.C_Chip H' c a { m with lf:=none }→Keep (foot c a) H H'→Q .non H'
theorem q4U(T:Txt K mg t)(S:Fns K t):S.Chip_power_on.Ok0 P w mg base 1 (spOn t):=by
 refine S.Chip_power_on.F.ok0 q4S λcdv A _ s H vs Q E hr h=>?_
 ·obtain⟨c,a,m,rfl,hc,q⟩:=h
  refine⟨_,(qD (jO (pv 0) u7 rfl)),?_⟩
  try dsimp-beta-proj-iota-zeta-eta only[wishK,cxK]
  refine⟨_,rfl,c,_,a.dx,_,rfl,hc.ins,T.cl_Chip,T.na_Chip_deeds_left,(by show 10<1000;decide),?_⟩
  exact q _ (hc.setLf none) (Keep.upd hc.ins (λ_ z=>by cases z) (by simp[foot]))
noncomputable def qKN(t:Adr):Sp:=λvs H Q E=>∃c a m,∃i:Int,vs=[.ref c,.int i]∧ChipAt t.C_Chip H c a m∧0≤i∧i≤1000000∧∀H',ChipAt t.C_Chip H' c a { m with lf:=some i }→Keep (foot c a) H H'→Q .non H'
theorem q42(T:Txt K mg t)(S:Fns K t):S.Chip_cut_after.Ok0 P w mg base 3 (qKN t):=by
 refine S.Chip_cut_after.F.ok0 q40 λcdv A _ s H vs Q E hr h=>?_
 ·obtain⟨c,a,m,i,rfl,hc,i0,i1,q⟩:=h
  refine⟨_,(qB (jB (yH (jY (qV (jM T S).mono hr rfl T.mg_is_within T.kp_is_within S.is_within.b .nil qK (qA (pv 1) (qA qG (qA (zK rfl T.mg_MOST_TOLD ⟨_,rfl⟩ (v:=.int 1000000)) qE)))))) (qD jF) qQ) (qD (jO (pv 0) (pv 1) rfl))),?_⟩
  try dsimp-beta-proj-iota-zeta-eta only[wishK,cxK]
  refine⟨_,rfl,.int i,_,_,rfl,.int i,_,rfl,?_⟩
  rw[inBi i0 i1]
  exact iteF ⟨_,rfl,_,rfl,c,_,a.dx,_,rfl,hc.ins,T.cl_Chip,T.na_Chip_deeds_left,by show 10<1000;decide,q _ (hc.setLf (some i)) (Keep.upd hc.ins (λ_ z=>by cases z) (by simp[foot]))⟩
noncomputable def qJI(t:Adr):Sp:=λvs H Q E=>∃c a m,∃b:Nat,vs=[.ref c,.int (b:Int)]∧ChipAt t.C_Chip H c a m∧m.Ok∧m.rc.length<1000000∧Gd m∧(b:Int)≤m.bl-1∧m.cl.getD b 0<m.mo∧(m.lf=some 0→E (.ref t.C_PowerGone) none H)∧(m.lf≠some 0→∀H',ChipAt t.C_Chip H' c a (wipC m b)→Keep (foot c a) H H'→Q .non H')
theorem q43(T:Txt K mg t)(S:Fns K t):S.Chip_wipe.OkE P w mg base 4 (qJI t):=by
 refine S.Chip_wipe.F.okE vU (λvs H Q E h=>?_) (λcdv A outer s H vs Q E hr h=>?_)
 ·repeat obtain⟨_,h⟩:=h
  all_goals subst_vars;rfl
 ·obtain⟨c,a,m,b,rfl,hc,ok,hr1,g,b1,hm,dk,q⟩:=h
  refine⟨_,(qB (qZ (jE (pv 0) T.cl_Chip T.m_Chip_check_block (uC T S).mono hr S.Chip_check_block.b .nil qK (qA (pv 1) qE))) (qB (qZ (jW jH (pv 0) T.cl_Chip T.m_Chip_check_deed (zI T S).mono hr S.Chip_check_deed.b .nil (qA (pv 1) qE))) (qB (qU (i:=2) vU.nd rfl (Or.inl rfl) (qCW (jE (pv 0) T.cl_Chip T.m_Chip_is_spent (q0I T S).mono hr S.Chip_is_spent.b .nil qK (qA (pv 1) qE)) (vY (uP qB2 (qW qY (qJ (pv 0) rfl) (pv 1) (λ_ _=>rfl)) (qJ (pv 0) rfl) (qR _))))) (qB (qZ (jE (pv 0) T.cl_Chip T.m_Chip_do_deed (q1C T S).mono hr S.Chip_do_deed.b .nil qK (qA vX (qA (pv 1) (qA (pv 1) (qA (pv 2) qE)))))) (qB (qU (i:=3) vU.nd rfl (Or.inl rfl) (qS v6 (pv 1) (qJ (pv 0) rfl))) (qB (uG wV rfl (q4C rfl T.b_range (qA (pv 3) (qA (qS uH (pv 3) (qJ (pv 0) rfl)) qE))) (qX (i:=4) vU.nd rfl (Or.inl rfl)) (qD (q31 u7 (q4B (qJ (pv 0) rfl) (pv 4) yZ)))) (qD (q3K (qJ (pv 0) rfl) (pv 1) q1H qG q5T yZ)))))))),?_⟩
  try dsimp-beta-proj-iota-zeta-eta only[wishK,cxK]
  have b0:(0:Int)≤b:=by omega
  have pg1:=ok.pg1
  have pg2:=ok.pg2
  have bl1:=ok.bl2
  have nbo:=ok.nbo
  have ncl:=ok.ncl
  refine(iV rfl (iM hc.ins rfl ⟨_,rfl,c,a,m,b,rfl,hc,b0,b1,?_⟩))
  refine(iV rfl (iM hc.ins rfl ⟨_,rfl,c,a,m,b,rfl,hc,ok,g,b0,by omega,?_⟩))
  by_cases z:m.lf=some 0
  ·rw[kF z]
   exact dk z
  rw[kB z]
  have q:=q z
  refine(iV rfl (iM hc.ins rfl ⟨_,rfl,c,a,m,b,rfl,hc,g,_,rfl,iteF ?_⟩))
  refine(iV rfl (iF hc.ins T.cl_Chip T.na_Chip_clearings rfl ⟨_,rfl,iL (k:=b) (v:=_) (SqL.of hc.cl) (getI b0 (by omega)) (iV rfl (iF hc.ins T.cl_Chip T.na_Chip_most rfl (iI ?_)))⟩))
  show q2U 2 (V.bl (decide (m.mo≤m.cl.getD b 0))) _ _ _
  rw[hG (by omega)]
  refine(iV rfl (iM hc.ins rfl ⟨_,rfl,_,rfl,_,rfl,c,a,m,"wipe",b,b,rfl,hc,ok,hr1,b0,by omega,λH' hc' k'=>?_⟩))
  have bp:b*m.pg+m.pg≤m.bl*m.pg:=by
   have:=Int.mul_le_mul_of_nonneg_right (show(b:Int)+1≤m.bl by omega) (show 0≤m.pg by omega)
   rw[Int.add_mul,Int.one_mul]at this
   exact this
  have bq:0≤b*m.pg:=Int.mul_nonneg b0 (by omega)
  have bmax:m.bl*m.pg≤256:=by
   have:=Int.mul_le_mul bl1 pg2 (by omega) (by decide)
   omega
  refine⟨_,rfl,_,rfl,c,_,a.dx,_,.int m.pg,rfl,hc'.ins,T.cl_Chip,T.na_Chip_pages,rfl,iI ⟨.inl ⟨by omega,by omega⟩,?_⟩⟩
  refine⟨_,rfl,_,rfl,_,rfl,c,_,a.dx,_,.int m.pg,rfl,hc'.ins,T.cl_Chip,T.na_Chip_pages,rfl,iI ⟨_,_,rfl,⟨by omega,by omega,by omega,by omega⟩,?_⟩⟩
  refine q7C (λi σ' H1=>∃y,σ'=[some (.ref c),some (.int b),some (.bl false),some (.int (b*m.pg)),y]∧ChipAt t.C_Chip H1 c a { m.deed "wipe" b b false with bo:=clr m.bo (b*m.pg).toNat i }∧Keep (foot c a) H H1) ⟨_,rfl,hc',k'⟩ (λi σ' H1 hi hp=>?_) (λσ' H1 hp=>?_)
  ·obtain⟨y,rfl,h1,k1⟩:=hp
   have hi':(i:Int)<m.pg:=by
    have:i<(b*m.pg+m.pg-b*m.pg).toNat:=hi
    omega
   refine(iV rfl (iF h1.ins T.cl_Chip T.na_Chip_borne rfl ⟨_,rfl,a.bo,_,_,(b*m.pg+i).toNat,rfl,rfl,h1.bo,ixOk (by omega) (by rw[q3Q];omega),?_⟩))
   have e:(b*m.pg+(i:Int)).toNat=(b*m.pg).toNat+i:=by omega
   rw[e]
   exact⟨_,rfl,h1.setBo _,k1.trans (Keep.upd h1.bo (λ_ z=>by cases z) (by simp[foot]))⟩
  ·obtain⟨y,rfl,h1,k1⟩:=hp
   have e:(b*m.pg+m.pg-b*m.pg).toNat=m.pg.toNat:=by omega
   rw[e]at h1
   refine(iV rfl (iF h1.ins T.cl_Chip T.na_Chip_clearings rfl ⟨_,rfl,iL (k:=b) (v:=_) (SqL.of h1.cl) (getI b0 (by show(b:Int)<(m.cl.length:Int);omega)) (iI ⟨a.cl,_,b,b,rfl,rfl,h1.cl,by rw[hI];exact ixOk b0 (by show(b:Int)<(m.cl.length:Int);omega),?_⟩)⟩))
   rw[←List.map_set]
   exact q _ (h1.setCl _) (k1.trans (Keep.upd h1.cl (λ_ z=>by cases z) (by simp[foot])))
noncomputable def qKO(K:W.Frag):Sp:=λvs H Q E=>∃l bl,vs=[.ref l,.int bl]∧SqL K H l []∧NewO H (.dK []) Q
theorem q8N(T:Txt K mg t)(S:Fns K t):S.limits_of.Ok0 P w mg base 3 (qKO K):=by
 refine S.limits_of.F.ok0 vT λcdv A _ s H vs Q E hr h=>?_
 ·obtain⟨l,bl,rfl,sq,q⟩:=h
  refine⟨_,(qB (qU (i:=2) vT.nd rfl (Or.inl rfl) q3P) (qB (uG gT rfl (jP (pv 0)) (q5S rfl (yX (qX (i:=3) vT.nd rfl (Or.inl rfl)) (yX (qX (i:=4) vT.nd rfl (Or.inl rfl)) q3J))) (qB jF (qB jF (qB jF (qD jF))))) (qD (qL (pv 2))))),?_⟩
  try dsimp-beta-proj-iota-zeta-eta only[wishK,cxK]
  refine λp np=>?_
  have s0:Same H (upd H p (.dK [])):=Same.upd np
  refine⟨_,rfl,l,rfl,⟨[],s0.seq sq⟩,uD (K:=K) (xs:=[]) (λ_ σ' H1=>(∃y z,σ'=[some (.ref l),some (.int bl),some (.ref p),y,z])∧H1=upd H p (.dK [])) ⟨⟨_,_,rfl⟩,rfl⟩ (λi σ' H1 _ hp=>by rw[hp.2];exact s0.seq sq) (λi x σ' H1 hx _=>by simp at hx) (λσ' H1 hp=>?_)⟩
  obtain⟨⟨y,z,rfl⟩,rfl⟩:=hp
  exact⟨_,rfl,q p _ np s0 qI⟩
structure Wm(C x dx:Addr)(H G:Hp)(fs:List (Str×V))(os:List (Addr×HO)):Prop where
 i:G x=some (.ins C dx fs)
 u:Up x H G
 o:∀p∈os,G p.1=some p.2∧H p.1=none∧p.1≠x
 n:(os.map (·.1)).Nodup
section
variable{C x dx:Addr}{H G B:Hp}{fs fs':List (Str×V)}{os:List (Addr×HO)}
theorem Wm.same(h:Wm C x dx H G fs os)(s:Same G B):Wm C x dx H B fs os:=⟨s _ _ h.i,λb o n e=>s _ _ (h.u b o n e),λp hp=>⟨s _ _ (h.o p hp).1,(h.o p hp).2⟩,h.n⟩
theorem Wm.add(h:Wm C x dx H G fs os){a:Addr}{o:HO}(na:G a=none)(s:Same G B)(e:B a=some o):Wm C x dx H B fs (os++[(a,o)]):=by
 have ax:a≠x:=λz=>by rw[z,h.i]at na;cases na
 have w:=h.same s
 refine⟨w.i,w.u,λp hp=>?_,?_⟩
 ·rcases gM.mp hp with hp|hp
  ·exact w.o p hp
  ·rw[kI.mp hp]
   exact⟨e,Up.free h.u ax na,ax⟩
 ·rw[mV]
  refine rZ.mpr ⟨h.n,by simp,λb hb c hc=>?_⟩
  obtain⟨p,hp,rfl⟩:=kO.mp hb
  obtain rfl:c=a:=by simpa using hc
  exact qF (h.o p hp).1 na
theorem Wm.set(h:Wm C x dx H G fs os):Wm C x dx H (upd G x (.ins C dx fs')) fs' os:=⟨qI,λb o n e=>by rw[qC n];exact h.u b o n e,λp hp=>⟨by rw[qC (h.o p hp).2.2];exact(h.o p hp).1,(h.o p hp).2⟩,h.n⟩
theorem Wm.fr(h:Wm C x dx H G fs os)(a:Addr)(ha:a∈os.map (·.1)):H a=none:=by
 obtain⟨p,hp,rfl⟩:=kO.mp ha
 exact(h.o p hp).2.1
theorem Wm.put(h:Wm C x dx H G fs os)(f:Str)(v:V):Wm C x dx H (upd G x (.ins C dx (putF f v fs))) (putF f v fs) os:=h.set
end
noncomputable def spMk(t:Adr):Sp:=λvs H Q E=>∃x dx,∃b p m:Int,vs=[.ref x,.int b,.int p,.int m,.non]∧H x=some (.ins t.C_Chip dx [])∧2≤b∧b≤16∧1≤p∧p≤16∧0≤m∧m≤1000000∧
 ∀a H',ChipAt t.C_Chip H' x a (CM.new b p m [])→(∀b∈[a.li,a.bo,a.cl,a.dc,a.br,a.rc],H b=none)→Up x H H'→Q .non H'
theorem q8O(T:Txt K mg t)(S:Fns K t):FnOk P w K mg base (CX0) 4 t.f_Chip_init S.fd_Chip_init ["self","blocks","pages","most","ills"] (spMk t):=by
 refine S.F_Chip_init.ok0 q8K λcdv A _ s H vs Q E hr h=>?_
 ·obtain⟨x,dx,b,p,m,rfl,hx,b1,b2,p1,p2,m1,m2,q⟩:=h
  refine⟨_,(qB (jB (yH (jY (qV (q54 T S).mono hr rfl T.mg_is_shape T.kp_is_shape S.is_shape.b .nil qK (qA (pv 1) (qA (pv 2) qE))))) (qD jF) qQ) (qB (jB (yH (jY (qV (jM T S).mono hr rfl T.mg_is_within T.kp_is_within S.is_within.b .nil qK (qA (pv 3) (qA qG (qA (zK rfl T.mg_MOST_TOLD ⟨_,rfl⟩ (v:=.int 1000000)) qE)))))) (qD jF) qQ) (qB (jO (pv 0) (pv 1) rfl) (qB (jO (pv 0) (pv 2) rfl) (qB (jO (pv 0) (pv 3) rfl) (qB (jO (pv 0) (qV (q8N T S).mono hr rfl T.mg_limits_of T.kp_limits_of S.limits_of.b .nil qK (qA (qCX (qO qA6 (pv 4) u7 (qR _)) (jZ qE) (pv 4)) (qA (pv 1) qE))) rfl) (qB (jO (pv 0) (qS zL (jZ (qA u7 qE)) (qS v6 (pv 1) (pv 2))) rfl) (qB (jO (pv 0) (qS zL (jZ (qA qG qE)) (pv 1)) rfl) (qB (jO (pv 0) (qS zL (jZ (qA qG qE)) (pv 1)) rfl) (qB (jO (pv 0) (qS zL (jZ (qA q2T qE)) (pv 1)) rfl) (qB (jO (pv 0) u7 rfl) (qD (jO (pv 0) (jZ qE) rfl))))))))))))),?_⟩
  try dsimp-beta-proj-iota-zeta-eta only[wishK,cxK]
  refine⟨_,rfl,_,rfl,.int b,.int p,rfl,.int b,.int p,_,rfl,?_⟩
  rw[inBi b1 b2,inBi p1 p2]
  refine iteF ?_
  refine⟨_,rfl,.int m,_,_,rfl,.int m,_,rfl,?_⟩
  rw[inBi m1 m2]
  refine iteF ?_
  have bp:b*p≤256:=Int.mul_le_mul b2 p2 (by omega) (by decide)
  have bp0:0≤b*p:=Int.mul_nonneg (by omega) (by omega)
  refine⟨_,rfl,_,rfl,x,_,dx,_,rfl,hx,T.cl_Chip,T.na_Chip_blocks,by simp,?_⟩
  have w1:Wm t.C_Chip x dx H (upd H x (.ins t.C_Chip dx (putF "blocks" (.int b) []))) (putF "blocks" (.int b) []) []:=⟨qI,Up.of (Same.refl H),by simp,by simp⟩
  refine⟨_,rfl,_,rfl,x,_,dx,_,rfl,w1.i,T.cl_Chip,T.na_Chip_pages,by show 1<1000;decide,?_⟩
  have w2:=w1.put "pages" (.int p)
  refine⟨_,rfl,_,rfl,x,_,dx,_,rfl,w2.i,T.cl_Chip,T.na_Chip_most,by show 2<1000;decide,?_⟩
  have w3:=w2.put "most" (.int m)
  refine⟨_,rfl,rfl,_,rfl,iteT ⟨sz0,λl0 H2 n0 s0 e0=>?_⟩⟩
  refine⟨_,rfl,l0,b,rfl,SqL.of e0,λli H3 n1 s1 e1=>?_⟩
  have w4:=(w3.same s0).add n1 s1 e1
  refine⟨_,rfl,x,_,dx,_,rfl,w4.i,T.cl_Chip,T.na_Chip_limits,by show 3<1000;decide,?_⟩
  have w4:=w4.put "limits" (.ref li)
  refine⟨sz1,λwa A1 n1 s1 e1=>⟨_,rfl,_,rfl,iI ⟨.inl ⟨by omega,by omega⟩,wa,_,_,rfl,rfl,e1,by omega,by omega,λbo B1 m1 r1 hbo=>?_⟩⟩⟩
  have w5:=(w4.same s1).add m1 r1 hbo
  refine⟨_,rfl,x,_,dx,_,rfl,w5.i,T.cl_Chip,T.na_Chip_borne,by show 4<1000;decide,?_⟩
  have w5:=w5.put "borne" (.ref bo)
  refine⟨sz1,λwa A2 n2 s2 e2=>⟨_,rfl,wa,_,_,rfl,rfl,e2,by omega,by omega,λcl B2 m2 r2 hcl=>?_⟩⟩
  have w6:=(w5.same s2).add m2 r2 hcl
  refine⟨_,rfl,x,_,dx,_,rfl,w6.i,T.cl_Chip,T.na_Chip_clearings,by show 5<1000;decide,?_⟩
  have w6:=w6.put "clearings" (.ref cl)
  refine⟨sz1,λwa A3 n3 s3 e3=>⟨_,rfl,wa,_,_,rfl,rfl,e3,by omega,by omega,λdc B3 m3 r3 hdc=>?_⟩⟩
  have w7:=(w6.same s3).add m3 r3 hdc
  refine⟨_,rfl,x,_,dx,_,rfl,w7.i,T.cl_Chip,T.na_Chip_deed_counts,by show 6<1000;decide,?_⟩
  have w7:=w7.put "deed_counts" (.ref dc)
  refine⟨sz1,λwa A4 n4 s4 e4=>⟨_,rfl,wa,_,_,rfl,rfl,e4,by omega,by omega,λbr B4 m4 r4 hbr=>?_⟩⟩
  have w8:=(w7.same s4).add m4 r4 hbr
  refine⟨_,rfl,x,_,dx,_,rfl,w8.i,T.cl_Chip,T.na_Chip_broken,by show 7<1000;decide,?_⟩
  have w8:=w8.put "broken" (.ref br)
  refine⟨_,rfl,x,_,dx,_,rfl,w8.i,T.cl_Chip,T.na_Chip_deeds_left,by show 8<1000;decide,?_⟩
  have w9:=w8.put "deeds_left" .non
  refine⟨sz0,λrc B5 m5 r5 hrc=>?_⟩
  have w:=w9.add m5 r5 hrc
  refine⟨_,rfl,x,_,dx,_,rfl,w.i,T.cl_Chip,T.na_Chip_record,by show 9<1000;decide,?_⟩
  have w:=w.set (fs':=chF ⟨dx,li,bo,cl,dc,br,rc⟩ (CM.new b p m []))
  refine q ⟨dx,li,bo,cl,dc,br,rc⟩ _ ⟨w.i,(w.o (li,.dK []) (by simp)).1,(w.o (bo,.lst (List.replicate (b*p).toNat .non)) (by simp)).1,?_,?_,?_,⟨[],(w.o (rc,.lst []) (by simp)).1,.nil⟩,(gB.mp (show(li::[bo,cl,dc,br,rc]).Nodup from w.n)).2⟩ (λb' hb'=>w.fr b' hb') w.u
  ·show _=some (HO.lst ((List.replicate b.toNat (0:Int)).map V.int))
   rw[wM]
   exact(w.o (cl,.lst (List.replicate b.toNat (.int 0))) (by simp)).1
  ·show _=some (HO.lst ((List.replicate b.toNat (0:Int)).map V.int))
   rw[wM]
   exact(w.o (dc,.lst (List.replicate b.toNat (.int 0))) (by simp)).1
  ·show _=some (HO.lst ((List.replicate b.toNat false).map V.bl))
   rw[wM]
   exact(w.o (br,.lst (List.replicate b.toNat (.bl false))) (by simp)).1
theorem jR(T:Txt K mg t)(S:Fns K t):S.law_cell_at.Ok0 P w mg base 1 (qIO K):=by
 refine S.law_cell_at.F.ok0 q6L λcdv A _ s H vs Q E hr h=>?_
 ·obtain⟨a,ns,k,rfl,hS,h0,q⟩:=h
  refine⟨_,(qB (jB (qO q07 (pv 1) (j8 jD (by rfl) T.b_len gO (qA (pv 0) qE)) (qR _)) (qD (qL (qW qY (pv 0) (pv 1) (λ_ _=>rfl)))) qQ) (qD (qL qG))),?_⟩
  try dsimp-beta-proj-iota-zeta-eta only[wishK,cxK]
  refine⟨_,rfl,_,rfl,a,_,rfl,.inl hS,_,_,rfl,rfl,_,rfl,?_⟩
  rw[hI]
  by_cases h1:k<(ns.length:Int)
  ·rw[hC h1]
   refine iteT ?_
   exact⟨_,rfl,_,rfl,a,_,k,_,rfl,rfl,hS,qCF h0 h1,q⟩
  ·rw[hG h1]
   refine iteF ?_
   have e:=qAD h0 h1
   rw[e]at q
   exact q
theorem qKP{H:Hp}{bl pg mo:Int}{Q:Addr→Hp→Prop}{E:XK}(b1:2≤bl)(b2:bl≤16)(p1:1≤pg)(p2:pg≤16)(m1:0≤mo)(m2:mo≤1000000)
 (q:∀x a H',ChipAt t.C_Chip H' x a (CM.new bl pg mo [])→Same H H'→(∀b∈a.li::foot x a,H b=none)→Q x H') (x dx:Addr) (nx:H x=none) (ndx:H dx=none) (ne:dx≠x):
 spMk t [.ref x,.int bl,.int pg,.int mo,.non] (upd (upd H dx (.own x)) x (.ins t.C_Chip dx [])) (λv H2=>v=.non∧Q x H2) E:=by
 have s0:Same H (upd (upd H dx (.own x)) x (.ins t.C_Chip dx [])):=λb o e=>by rw[qC (qF e nx),qC (qF e ndx)];exact e
 refine⟨x,dx,bl,pg,mo,rfl,qI,b1,b2,p1,p2,m1,m2,λa H' hc fr u=>⟨rfl,q x a H' hc (λb o e=>u b o (qF e nx) (s0 b o e)) λb hb=>?_⟩⟩
 have hb:b=x∨b∈[a.li,a.bo,a.cl,a.dc,a.br,a.rc]:=by
  simp[foot]at hb ⊢
  rcases hb with rfl|rfl|rfl|rfl|rfl|rfl|rfl<;>simp
 rcases hb with rfl|hb
 ·exact nx
 ·exact s0.free (fr _ hb)
theorem q44(T:Txt K mg t)(S:Fns K t):S.law_whole.Ok0 P w mg base 1 qB6:=by
 refine S.law_whole.F.ok0 q8M λcdv A _ s H vs Q E hr h=>?_
 ·obtain⟨x,rfl,kn,k⟩:=h
  refine⟨_,(qD (qL (q1E (j8 yK (by rfl) T.b_isinstance (by kernel_rfl) (qA (pv 0) (qA (q0N rfl T.b_int (by kernel_rfl) rfl (v:=.ty "int")) qE))) (vY (qA3 (j8 yK (by rfl) T.b_isinstance (by kernel_rfl) (qA (pv 0) (qA (q0N rfl T.b_bool (by kernel_rfl) rfl (v:=.ty "bool")) qE)))))))),?_⟩
  try dsimp-beta-proj-iota-zeta-eta only[wishK,cxK]
  obtain⟨ty,q,e1,e2,_⟩:=kn.ty (K:=K)
  refine⟨_,rfl,x,_,_,ty,_,rfl,rfl,.inl q,e1,_,rfl,?_⟩
  have z:=qDN x
  cases qi:isI x with
  |true=>
   rw[qi,kF rfl]at z
   refine iteT ?_
   refine⟨_,rfl,x,_,_,ty,_,rfl,rfl,.inl q,e2,_,rfl,?_⟩
   rw[z]
   exact k
  |false=>
   rw[qi]at z
   refine iteF ?_
   have z':false=isW x:=z
   rw[z']
   exact k
noncomputable def qKQ(t:Adr):Sp:=λvs H Q E=>∃x dx fs b e,vs=[.ref x]∧H x=some (.ins t.C_Terms dx fs)∧fs.lookup (Str.ofString "blocks")=some (.int b)∧fs.lookup (Str.ofString "ill")=some (.int e)∧Q (.int (b-1-e)) H
theorem q5E(T:Txt K mg t)(S:Fns K t):S.Terms_closed.Ok0 P w mg base 1 (qKQ t):=by
 refine S.Terms_closed.F.ok0 q5C λcdv A _ s H vs Q E hr h=>?_
 ·obtain⟨x,dx,fs,b,e,rfl,hx,l1,l2,q⟩:=h
  refine⟨_,(qD (qL (qS vJ (qS vJ (qJ (pv 0) rfl) qG) (qJ (pv 0) rfl)))),?_⟩
  try dsimp-beta-proj-iota-zeta-eta only[wishK,cxK]
  exact(iV rfl (iF hx T.cl_Terms T.na_Terms_blocks l1 (iI (iV rfl (iF hx T.cl_Terms T.na_Terms_ill l2 (iI q))))))
noncomputable def teF(r0 r1 r2 r3 r4 r5:V):List (Str×V):=[("blocks",r0),("pages",r1),("sheets",r2),("share",r3),("ill",r4),("spread",r5)]
noncomputable def spTm(t:Adr):Sp:=λvs H Q E=>∃x dx,∃b p s r e d:Int,vs=[.ref x,.int b,.int p,.int s,.int r,.int e,.int d]∧H x=some (.ins t.C_Terms dx [])∧2≤b∧b≤16∧1≤p∧p≤16∧1≤s∧s≤64∧1≤r∧r≤(b-1-e)*p-2∧0≤e∧e≤b-2∧1≤d∧d≤1000000∧
 ∀H',H' x=some (.ins t.C_Terms dx (teF (.int b) (.int p) (.int s) (.int r) (.int e) (.int d)))→Up x H H'→Q .non H'
theorem q75(T:Txt K mg t)(S:Fns K t):FnOk P w K mg base (CX0) 4 t.f_Terms_init S.fd_Terms_init ["self","blocks","pages","sheets","share","ill","spread"] (spTm t):=by
 refine S.F_Terms_init.ok0 q73 λcdv A _ s H vs Q E hr h=>?_
 ·obtain⟨x,dx,b,p,s',r,e,d,rfl,hx,b1,b2,p1,p2,s1,s2,r1,r2,e1,e2,d1,d2,q⟩:=h
  refine⟨_,(qB (jB (yH (jY (qV (q54 T S).mono hr rfl T.mg_is_shape T.kp_is_shape S.is_shape.b .nil qK (qA (pv 1) (qA (pv 2) qE))))) (qD jF) qQ) (qB (jB (yH (jY (qV (jM T S).mono hr rfl T.mg_is_within T.kp_is_within S.is_within.b .nil qK (qA (pv 3) (qA qG (qA qG qE)))))) (qD jF) qQ) (qB (jB (yH (jY (qV (jM T S).mono hr rfl T.mg_is_within T.kp_is_within S.is_within.b .nil qK (qA (pv 5) (qA qG (qA (qS vJ (pv 1) qG) qE)))))) (qD jF) qQ) (qB (jB (yH (jY (qV (jM T S).mono hr rfl T.mg_is_within T.kp_is_within S.is_within.b .nil qK (qA (pv 6) (qA qG (qA (zK rfl T.mg_MOST_TOLD ⟨_,rfl⟩ (v:=.int 1000000)) qE)))))) (qD jF) qQ) (qB (jO (pv 0) (pv 1) rfl) (qB (jO (pv 0) (pv 2) rfl) (qB (jO (pv 0) (pv 3) rfl) (qB (jO (pv 0) (pv 4) rfl) (qB (jO (pv 0) (pv 5) rfl) (qB (jO (pv 0) (pv 6) rfl) (qD (jB (yH (jY (qV (jM T S).mono hr rfl T.mg_is_within T.kp_is_within S.is_within.b .nil qK (qA (pv 4) (qA qG (qA (qS vJ (qS v6 (j0 (pv 0) T.cl_Terms T.m_Terms_closed (q5E T S).mono hr S.Terms_closed.b .nil qK) (pv 2)) qG) qE)))))) (qD jF) qQ)))))))))))),?_⟩
  try dsimp-beta-proj-iota-zeta-eta only[wishK,cxK]
  refine⟨_,rfl,_,rfl,.int b,.int p,rfl,.int b,.int p,_,rfl,?_⟩
  rw[inBi b1 b2,inBi p1 p2]
  refine iteF ⟨_,rfl,.int s',_,_,rfl,.int s',_,rfl,?_⟩
  rw[inBi s1 s2]
  refine iteF ⟨_,rfl,_,rfl,iI ⟨.int e,_,_,rfl,.int e,_,rfl,?_⟩⟩
  rw[inBi e1 e2]
  refine iteF ⟨_,rfl,.int d,_,_,rfl,.int d,_,rfl,?_⟩
  rw[inBi d1 d2]
  refine iteF ⟨_,rfl,_,rfl,x,_,dx,_,rfl,hx,T.cl_Terms,T.na_Terms_blocks,by simp,?_⟩
  have w1:Wm t.C_Terms x dx H (upd H x (.ins t.C_Terms dx (putF "blocks" (.int b) []))) (putF "blocks" (.int b) []) []:=⟨qI,Up.of (Same.refl H),by simp,by simp⟩
  refine⟨_,rfl,_,rfl,x,_,dx,_,rfl,w1.i,T.cl_Terms,T.na_Terms_pages,by show 1<1000;decide,?_⟩
  have w2:=w1.put "pages" (.int p)
  refine⟨_,rfl,_,rfl,x,_,dx,_,rfl,w2.i,T.cl_Terms,T.na_Terms_sheets,by show 2<1000;decide,?_⟩
  have w3:=w2.put "sheets" (.int s')
  refine⟨_,rfl,_,rfl,x,_,dx,_,rfl,w3.i,T.cl_Terms,T.na_Terms_share,by show 3<1000;decide,?_⟩
  have w4:=w3.put "share" (.int r)
  refine⟨_,rfl,_,rfl,x,_,dx,_,rfl,w4.i,T.cl_Terms,T.na_Terms_ill,by show 4<1000;decide,?_⟩
  have w5:=w4.put "ill" (.int e)
  refine⟨_,rfl,_,rfl,x,_,dx,_,rfl,w5.i,T.cl_Terms,T.na_Terms_spread,by show 5<1000;decide,?_⟩
  have w:=w5.put "spread" (.int d)
  refine⟨_,rfl,_,rfl,x,dx,_,rfl,w.i,rfl,x,dx,_,b,e,rfl,w.i,rfl,rfl,_,rfl,iI ⟨.inr ⟨by omega,by omega⟩,iI ⟨.int r,_,_,rfl,.int r,_,rfl,?_⟩⟩⟩
  rw[inBi r1 r2]
  exact iteF (q _ w.i w.u)
theorem qKR{H:Hp}{b p s r e d:Int}{Q:Addr→Hp→Prop}{E:XK}(b1:2≤b)(b2:b≤16)(p1:1≤p)(p2:p≤16)(s1:1≤s)(s2:s≤64)(r1:1≤r)(r2:r≤(b-1-e)*p-2)(e1:0≤e)(e2:e≤b-2)(d1:1≤d)(d2:d≤1000000)
 (q:∀x dx H',Same H H'→H' x=some (.ins t.C_Terms dx (teF (.int b) (.int p) (.int s) (.int r) (.int e) (.int d)))→Q x H') (x dx:Addr) (nx:H x=none) (ndx:H dx=none) (ne:dx≠x):
 spTm t [.ref x,.int b,.int p,.int s,.int r,.int e,.int d] (upd (upd H dx (.own x)) x (.ins t.C_Terms dx [])) (λv H2=>v=.non∧Q x H2) E:=by
 have s0:Same H (upd (upd H dx (.own x)) x (.ins t.C_Terms dx [])):=λb o e=>by rw[qC (qF e nx),qC (qF e ndx)];exact e
 exact⟨x,dx,b,p,s,r,e,d,rfl,qI,b1,b2,p1,p2,s1,s2,r1,r2,e1,e2,d1,d2,λH' h u=>⟨rfl,q x dx H' (λb o e=>u b o (qF e nx) (s0 b o e)) h⟩⟩
noncomputable def qKS:Sp:=λvs H Q _=>∃s n,vs=[.int s,.int n]∧Q (.int (s*128+n)) H
theorem qAV(T:Txt K mg t)(S:Fns K t):S.mark_of.Ok0 P w mg base 1 qKS:=by
 refine S.mark_of.F.ok0 qAU λcdv A _ s H vs Q E hr h=>?_
 ·obtain⟨s',n,rfl,q⟩:=h
  refine⟨_,(qD (qL (qS uH (qS v6 (pv 0) (zK rfl T.mg_NAMES ⟨_,rfl⟩ (v:=.int 128))) (pv 1)))),?_⟩
  try dsimp-beta-proj-iota-zeta-eta only[wishK,cxK]
  exact⟨_,rfl,iI ⟨.inr ⟨by decide,by decide⟩,_,rfl,iI q⟩⟩
structure BkA where
 bk:Addr
 dx:Addr
 wv:Addr
 lv:Addr
 fi:Addr
 bo:Addr
structure BkAt(t:Adr)(H:Hp)(a:BkA)(m:QM):Prop where
 o:H a.bk=some (.ins t.C_Book a.dx [("blocks",.int (m.B:Int)),("pages",.int (m.P:Int)),("stamp",.int m.nx),("where",.ref a.wv),("live",.ref a.lv),("filled",.ref a.fi),("born",.ref a.bo)])
 w:H a.wv=some (.dK (dI m.V))
 l:H a.lv=some (.lst (m.lv.map V.int))
 f:H a.fi=some (.lst (m.fi.map V.int))
 b:H a.bo=some (.lst (m.bo.map V.int))
structure Dst(a:BkA):Prop where
 lf:a.lv≠a.fi
 lb:a.lv≠a.bo
 fb:a.fi≠a.bo
theorem BkAt.same{t:Adr}{H H':Hp}{a:BkA}{m:QM}(h:BkAt t H a m)(s:Same H H'):BkAt t H' a m:=⟨s _ _ h.o,s _ _ h.w,s _ _ h.l,s _ _ h.f,s _ _ h.b⟩
theorem BkAt.keep{t:Adr}{H H':Hp}{a:BkA}{m:QM}{F:List Addr}(h:BkAt t H a m)(k:Keep F H H')(n:∀b∈[a.bk,a.wv,a.lv,a.fi,a.bo],b∉F):BkAt t H' a m:=
 ⟨k.k _ _ (n _ (by simp)) h.o,k.k _ _ (n _ (by simp)) h.w,k.k _ _ (n _ (by simp)) h.l,k.k _ _ (n _ (by simp)) h.f,k.k _ _ (n _ (by simp)) h.b⟩
noncomputable def bk0(B P:Nat):QM:=⟨P,B,1,[],List.replicate B 0,List.replicate B 0,List.replicate B 0⟩
noncomputable def qKT(t:Adr):Sp:=λvs H Q _=>∃x dx B P,vs=[.ref x,.int (B:Nat),.int (P:Nat)]∧B≤16∧H x=some (.ins t.C_Book dx [])∧
 ∀(a:BkA) H',a.bk=x→a.dx=dx→BkAt t H' a (bk0 B P)→Dst a→(∀b∈[a.wv,a.lv,a.fi,a.bo],H b=none)→(∀b o,b≠x→H b=some o→H' b=some o)→Q .non H'
theorem q8P(T:Txt K mg t)(S:Fns K t):S.Book_init.Ok0 P w mg base 1 (qKT t):=by
 refine S.Book_init.F.ok0 q8G λcdv A _ s H vs Q E hr h=>?_
 ·obtain⟨x,dx,B,P,rfl,hB,hx,q⟩:=h
  refine⟨_,(qB (jO (pv 0) (pv 1) rfl) (qB (jO (pv 0) (pv 2) rfl) (qB (jO (pv 0) qG rfl) (qB (jO (pv 0) q3P rfl) (qB (jO (pv 0) (qS zL (jZ (qA qG qE)) (pv 1)) rfl) (qB (jO (pv 0) (qS zL (jZ (qA qG qE)) (pv 1)) rfl) (qD (jO (pv 0) (qS zL (jZ (qA qG qE)) (pv 1)) rfl)))))))),?_⟩
  try dsimp-beta-proj-iota-zeta-eta only[wishK,cxK]
  refine⟨_,rfl,_,rfl,x,_,dx,_,rfl,hx,T.cl_Book,T.na_Book_blocks,by decide,?_⟩
  refine⟨_,rfl,_,rfl,x,_,dx,_,rfl,qI,T.cl_Book,T.na_Book_pages,by show 1<1000;decide,?_⟩
  refine⟨_,rfl,x,_,dx,_,rfl,qI,T.cl_Book,T.na_Book_stamp,by show 2<1000;decide,?_⟩
  rw[q7W,q7W]
  have w1:Wm t.C_Book x dx H (upd H x (.ins t.C_Book dx (putF "stamp" (.int 1) (putF "pages" (.int (P:Int)) (putF "blocks" (.int (B:Int)) []))))) (putF "stamp" (.int 1) (putF "pages" (.int (P:Int)) (putF "blocks" (.int (B:Int)) []))) []:=⟨qI,Up.of (Same.refl H),by simp,by simp⟩
  have rep:∀n:Nat,List.replicate n (V.int 0)=(List.replicate n (0:Int)).map V.int:=λn=>by rw[wM]
  have eB:((B:Int)).toNat=B:=by omega
  refine λwv nwv=>?_
  have w2:=w1.add nwv (Same.upd (o:=.dK []) nwv) qI
  refine⟨_,rfl,x,_,dx,_,rfl,w2.i,T.cl_Book,T.na_Book_where,by show 3<1000;decide,?_⟩
  have w2:=w2.put "where" (.ref wv)
  refine⟨sz1,λwa A3 n3 s3 e3=>⟨_,rfl,wa,_,_,rfl,rfl,e3,by omega,by omega,λlv B3 m3 r3 hlv=>?_⟩⟩
  rw[eB,rep]at hlv
  have w3:=(w2.same s3).add m3 r3 hlv
  refine⟨_,rfl,x,_,dx,_,rfl,w3.i,T.cl_Book,T.na_Book_live,by show 4<1000;decide,?_⟩
  have w3:=w3.put "live" (.ref lv)
  refine⟨sz1,λwa A4 n4 s4 e4=>⟨_,rfl,wa,_,_,rfl,rfl,e4,by omega,by omega,λfi B4 m4 r4 hfi=>?_⟩⟩
  rw[eB,rep]at hfi
  have w4:=(w3.same s4).add m4 r4 hfi
  refine⟨_,rfl,x,_,dx,_,rfl,w4.i,T.cl_Book,T.na_Book_filled,by show 5<1000;decide,?_⟩
  have w4:=w4.put "filled" (.ref fi)
  refine⟨sz1,λwa A5 n5 s5 e5=>⟨_,rfl,wa,_,_,rfl,rfl,e5,by omega,by omega,λbo B5 m5 r5 hbo=>?_⟩⟩
  rw[eB,rep]at hbo
  have w5:=(w4.same s5).add m5 r5 hbo
  refine⟨_,rfl,x,_,dx,_,rfl,w5.i,T.cl_Book,T.na_Book_born,by show 6<1000;decide,?_⟩
  have w5:=w5.put "born" (.ref bo)
  have nd:[wv,lv,fi,bo].Nodup:=w5.n
  simp only[gB,kL,rG,not_or,sD]at nd
  exact q ⟨x,dx,wv,lv,fi,bo⟩ _ rfl rfl ⟨w5.i,(w5.o (wv,.dK []) (by simp)).1,(w5.o (lv,.lst ((List.replicate B (0:Int)).map V.int)) (by simp)).1,(w5.o (fi,.lst ((List.replicate B (0:Int)).map V.int)) (by simp)).1,(w5.o (bo,.lst ((List.replicate B (0:Int)).map V.int)) (by simp)).1⟩ ⟨nd.2.1.1,nd.2.1.2,nd.2.2.1⟩ (λb' hb'=>w5.fr b' hb') w5.u
noncomputable def qJJ(t:Adr):Sp:=λvs H Q _=>∃a,∃m:QM,∃n,vs=[.ref a.bk,.int n]∧BkAt t H a m∧Q (.int (m.nx*128+n)) H
theorem q8Q(T:Txt K mg t)(S:Fns K t):S.Book_mark.Ok0 P w mg base 2 (qJJ t):=by
 refine S.Book_mark.F.ok0 q8H λcdv A _ s H vs Q E hr h=>?_
 ·obtain⟨a,m,n,rfl,hb,q⟩:=h
  refine⟨_,(qD (qL (qV (qAV T S).mono hr rfl T.mg_mark_of T.kp_mark_of S.mark_of.b .nil qK (qA (qJ (pv 0) rfl) (qA (pv 1) qE))))),?_⟩
  try dsimp-beta-proj-iota-zeta-eta only[wishK,cxK]
  exact(iV rfl (iF hb.o T.cl_Book T.na_Book_stamp rfl ⟨_,rfl,_,_,rfl,q⟩))
noncomputable def spFg(t:Adr):Sp:=λvs H Q _=>∃a,∃m:QM,∃n,vs=[.ref a.bk,.int n]∧BkAt t H a m∧m.Ok∧Dst a∧∀H',BkAt t H' a (m.forget n)→Keep [a.wv,a.lv] H H'→Q .non H'
theorem q29(T:Txt K mg t)(S:Fns K t):S.Book_forget.Ok0 P w mg base 1 (spFg t):=by
 refine S.Book_forget.F.ok0 q22 λcdv A _ s H vs Q E hr h=>?_
 ·obtain⟨a,m,n,rfl,hb,ok,ds,q⟩:=h
  have hu:=q1G hr
  have p1:=ok.p1
  have p2:=ok.p2
  have ob:a.bk≠a.wv:=jS hb.o hb.w (by intro z;cases z)
  have ol:a.bk≠a.lv:=jS hb.o hb.l (by intro z;cases z)
  have wl:a.wv≠a.lv:=jS hb.w hb.l (by intro z;cases z)
  have wf:a.fi≠a.wv:=jS hb.f hb.w (by intro z;cases z)
  have wb:a.bo≠a.wv:=jS hb.b hb.w (by intro z;cases z)
  refine⟨_,(qD (jB (qA2 (q81 hu (pv 1) (qJ (pv 0) rfl))) (qB (qU (i:=2) q22.nd rfl (Or.inl rfl) (qDK (qJ (pv 0) rfl) (pv 1) ⟨rfl,rfl,rfl,rfl⟩)) (qD (q3K (qJ (pv 0) rfl) (qS uF (pv 2) (qJ (pv 0) rfl)) q1H qG qHQ yZ))) qQ)),?_⟩
  try dsimp-beta-proj-iota-zeta-eta only[wishK,cxK]
  refine⟨_,rfl,iV rfl (iF hb.o T.cl_Book T.na_Book_where rfl ⟨a.wv,_,rfl,DGet.k (k:=Sum.inl n) hb.w,_,rfl,?_⟩)⟩
  rcases QM.find_V (m:=m) (n:=n)with⟨p,hp,ef⟩|⟨hn,ef⟩
  ·have hv:(n,p)∈m.V:=hp
   rw[q3U ok.nd hv]
   refine iteT ?_
   refine(iV rfl (iF hb.o T.cl_Book T.na_Book_where rfl ⟨a.wv,rfl,.inl ⟨_,.inl hb.w⟩,_,rfl,_,Sum.inl n,_,hb.w,rfl,q3U ok.nd hv,?_⟩))
   rw[q9K]
   have k1:Keep [a.wv,a.lv] H (upd H a.wv (.dK (dI (jI m.V n)))):=Keep.upd hb.w (λ_ z=>by cases z) (by simp)
   have w1:(upd H a.wv (.dK (dI (jI m.V n)))) a.wv=some (.dK (dI (jI m.V n))):=qI
   have u1:∀b o,b≠a.wv→H b=some o→(upd H a.wv (.dK (dI (jI m.V n)))) b=some o:=λb o nb e=>by
    rw[qC nb]
    exact e
   generalize upd H a.wv (.dK (dI (jI m.V n)))=H1 at k1 w1 u1 ⊢
   obtain⟨c,hc,ec⟩:=ok.blk _ hp
   have ec:p / (m.P:Int)=(c:Int):=ec
   have hcl:c<m.lv.length:=by rw[ok.ll];exact hc
   have l1:=u1 _ _ wl.symm hb.l
   refine(iV rfl (iF (u1 _ _ ob hb.o) T.cl_Book T.na_Book_live rfl ⟨_,rfl,iV rfl (iF (u1 _ _ ob hb.o) T.cl_Book T.na_Book_pages rfl (iI ⟨⟨by omega,by omega⟩,iL (k:=_) (v:=_) (SqL.of l1) (by rw[ec];exact atV hcl) (iI ⟨a.lv,_,_,c,rfl,rfl,l1,(by rw[ec];exact q33 (by rw[hI];exact hcl)),?_⟩)⟩))⟩))
   rw[setV]
   have el:(m.forget n).lv=m.lv.set c (m.lv.getD c 0-1):=by
    show BM.lvF m.P m.V m.lv n=_
    unfold BM.lvF
    rw[ef]
    show m.lv.set (p / (m.P:Int)).toNat (m.lv.getD (p / (m.P:Int)).toNat 0-1)=_
    rw[ec,show((c:Int)).toNat=c by omega]
   refine q _ ⟨?_,?_,?_,?_,?_⟩ (k1.trans (Keep.upd l1 (λ_ z=>by cases z) (by simp)))
   ·rw[qC ol]
    exact u1 _ _ ob hb.o
   ·rw[qC wl]
    exact w1
   ·rw[el]
    exact qI
   ·rw[qC ds.lf.symm]
    exact u1 _ _ wf hb.f
   ·rw[qC ds.lb.symm]
    exact u1 _ _ wb hb.b
  ·rw[q0S (λz=>by
    obtain⟨r,hr',e⟩:=kO.mp z
    exact hn r hr' e)]
   refine iteF ?_
   have el:(m.forget n).lv=m.lv:=by
    show BM.lvF m.P m.V m.lv n=_
    unfold BM.lvF
    rw[ef]
   have eV:(m.forget n).V=m.V:=qG5 λr hr'=>hn r hr'
   exact q H ⟨hb.o,by rw[eV];exact hb.w,by rw[el];exact hb.l,hb.f,hb.b⟩ Keep.refl
theorem q6N{V:Mp}:(dI V).length=V.length:=by unfold dI;rw[hI]
noncomputable def spNt(t:Adr):Sp:=λvs H Q _=>∃a,∃m:QM,∃b f n,vs=[.ref a.bk,.int ((b*m.P+f:Nat):Int),.int n]∧BkAt t H a m∧m.Ok∧Dst a∧b<m.B∧f<m.P∧m.fi.getD b 0=(f:Int)∧∀H',BkAt t H' a (m.put b f n)→Keep [a.bk,a.wv,a.lv,a.fi,a.bo] H H'→Q .non H'
theorem q8R(T:Txt K mg t)(S:Fns K t):S.Book_note.Ok0 P w mg base 2 (spNt t):=by
 refine S.Book_note.F.ok0 q3Z λcdv A _ s H vs Q E hr h=>?_
 ·obtain⟨a,m,b,f,n,rfl,hb,ok,ds,hB,hf,ef,q⟩:=h
  have hu:=q1G hr
  have p1:=ok.p1
  have p2:=ok.p2
  have ob:a.bk≠a.wv:=jS hb.o hb.w (by intro z;cases z)
  have ol:a.bk≠a.lv:=jS hb.o hb.l (by intro z;cases z)
  have of':a.bk≠a.fi:=jS hb.o hb.f (by intro z;cases z)
  have oo:a.bk≠a.bo:=jS hb.o hb.b (by intro z;cases z)
  have wl:a.wv≠a.lv:=jS hb.w hb.l (by intro z;cases z)
  have wf:a.fi≠a.wv:=jS hb.f hb.w (by intro z;cases z)
  have wb:a.bo≠a.wv:=jS hb.b hb.w (by intro z;cases z)
  have eb:((b*m.P+f:Nat):Int) / (m.P:Int)=(b:Int):=by rw[←dQ,yE hf]
  refine⟨_,(qB (qU (i:=3) q3Z.nd rfl (Or.inl rfl) (qS uF (pv 1) (qJ (pv 0) rfl))) (qB (qZ (jE (pv 0) T.cl_Book T.m_Book_forget (q29 T S).mono hr S.Book_forget.b .nil qK (qA (pv 2) qE))) (qB (q82 hu (qJ (pv 0) rfl) (pv 2) (pv 1) rfl) (qB (q3K (qJ (pv 0) rfl) (pv 3) q1H qG q5T yZ) (zM (jB (qO uN (qW qY (qJ (pv 0) rfl) (pv 3) (λ_ _=>rfl)) qG (qR _)) (qD (q31 (qJ (pv 0) rfl) (q4B (qJ (pv 0) rfl) (pv 3) yZ))) qQ) (qB (q3K (qJ (pv 0) rfl) (pv 3) q1H qG q5T yZ) (qD (q7F (pv 0) qG qHU)))))))),?_⟩
  try dsimp-beta-proj-iota-zeta-eta only[wishK,cxK]
  refine⟨_,rfl,iV rfl (iF hb.o T.cl_Book T.na_Book_pages rfl (iI ⟨⟨by omega,by omega⟩,?_⟩))⟩
  try dsimp only
  rw[eb]
  refine(iV rfl (iM hb.o rfl ⟨_,rfl,a,m,n,rfl,hb,ok,ds,λH1 hb1 k1=>?_⟩))
  have k1:Keep [a.bk,a.wv,a.lv,a.fi,a.bo] H H1:=k1.mono (by intro x hx;simp at hx ⊢;rcases hx with rfl|rfl<;>simp)
  have lnV:(jI m.V n).length≤65:=mI (mD _ _) ok.lenV
  have w0:H1 a.wv=some (.dK (dI (jI m.V n))):=hb1.w
  refine⟨_,rfl,_,rfl,a.bk,_,a.dx,_,_,rfl,hb1.o,T.cl_Book,T.na_Book_where,rfl,_,rfl,a.wv,_,rfl,.inl ⟨_,Sum.inl n,w0,rfl,(by rw[q6N];have:(65:Nat)<sizeLine:=by decide
                                                                                                                           omega),rfl⟩,?_⟩
  rw[qBJ,qCM]
  have k2:Keep [a.bk,a.wv,a.lv,a.fi,a.bo] H1 (upd H1 a.wv (.dK (dI (jI m.V n++[(n,((b*m.P+f:Nat):Int))])))):=Keep.upd w0 (λ_ z=>by cases z) (by simp)
  have w2:(upd H1 a.wv (.dK (dI (jI m.V n++[(n,((b*m.P+f:Nat):Int))])))) a.wv=some (.dK (dI (jI m.V n++[(n,((b*m.P+f:Nat):Int))]))):=qI
  have u2:∀x o,x≠a.wv→H1 x=some o→(upd H1 a.wv (.dK (dI (jI m.V n++[(n,((b*m.P+f:Nat):Int))])))) x=some o:=λx o nb e=>by
   rw[qC nb]
   exact e
  generalize upd H1 a.wv (.dK (dI (jI m.V n++[(n,((b*m.P+f:Nat):Int))])))=H2 at k2 w2 u2 ⊢
  have o2:=u2 _ _ ob hb1.o
  have l2:H2 a.lv=some (.lst ((BM.lvF m.P m.V m.lv n).map V.int)):=u2 _ _ wl.symm hb1.l
  have f2:H2 a.fi=some (.lst (m.fi.map V.int)):=u2 _ _ wf hb1.f
  have b2:H2 a.bo=some (.lst (m.bo.map V.int)):=u2 _ _ wb hb1.b
  have hbl:b<(BM.lvF m.P m.V m.lv n).length:=by rw[show(BM.lvF m.P m.V m.lv n).length=m.B from(ok.forget n).ll];exact hB
  have hbf:b<m.fi.length:=by rw[ok.lf];exact hB
  have hbo:b<m.bo.length:=by rw[ok.lo];exact hB
  refine(iV rfl (iF o2 T.cl_Book T.na_Book_live rfl ⟨_,rfl,iL (k:=_) (v:=_) (SqL.of l2) (atV hbl) (iI ⟨a.lv,_,_,b,rfl,rfl,l2,q33 (by rw[hI];exact hbl),?_⟩)⟩))
  rw[setV]
  have k3:Keep [a.bk,a.wv,a.lv,a.fi,a.bo] H2 (upd H2 a.lv (.lst (((BM.lvF m.P m.V m.lv n).set b ((BM.lvF m.P m.V m.lv n).getD b 0+1)).map V.int))):=Keep.upd l2 (λ_ z=>by cases z) (by simp)
  have l3:(upd H2 a.lv (.lst (((BM.lvF m.P m.V m.lv n).set b ((BM.lvF m.P m.V m.lv n).getD b 0+1)).map V.int))) a.lv=some (.lst (((BM.lvF m.P m.V m.lv n).set b ((BM.lvF m.P m.V m.lv n).getD b 0+1)).map V.int)):=qI
  have u3:∀x o,x≠a.lv→H2 x=some o→(upd H2 a.lv (.lst (((BM.lvF m.P m.V m.lv n).set b ((BM.lvF m.P m.V m.lv n).getD b 0+1)).map V.int))) x=some o:=λx o nb e=>by
   rw[qC nb]
   exact e
  generalize upd H2 a.lv (.lst (((BM.lvF m.P m.V m.lv n).set b ((BM.lvF m.P m.V m.lv n).getD b 0+1)).map V.int))=H3 at k3 l3 u3 ⊢
  have o3:=u3 _ _ ol o2
  have w3:=u3 _ _ wl w2
  have f3:=u3 _ _ ds.lf.symm f2
  have b3:=u3 _ _ ds.lb.symm b2
  refine⟨λσ' H'=>σ'=[some (.ref a.bk),some (.int ((b*m.P+f:Nat):Int)),some (.int n),some (.int (b:Int))]∧Keep [a.bk,a.wv,a.lv,a.fi,a.bo] H3 H'∧H' a.bo=some (.lst ((m.put b f n).bo.map V.int))∧∀x o,x≠a.bo→H3 x=some o→H' x=some o,?_,?_⟩
  ·refine(iV rfl (iF o3 T.cl_Book T.na_Book_filled rfl ⟨_,rfl,iL (k:=_) (v:=_) (SqL.of f3) (atV hbf) ⟨rfl,_,rfl,?_⟩⟩))
   rw[yF]
   by_cases z:m.fi.getD b 0=0
   ·rw[hC z]
    refine iteT ?_
    refine(iV rfl (iF o3 T.cl_Book T.na_Book_stamp rfl (iV rfl (iF o3 T.cl_Book T.na_Book_born rfl ⟨_,rfl,a.bo,_,_,b,rfl,rfl,b3,q33 (by rw[hI];exact hbo),?_⟩))))
    rw[setV]
    refine⟨rfl,Keep.upd b3 (λ_ z=>by cases z) (by simp),?_,λx o nb e=>by rw[qC nb];exact e⟩
    rw[qI]
    show _=some (HO.lst ((if m.fi.getD b 0=0 then m.bo.set b m.nx else m.bo).map V.int))
    rw[kF z]
    rfl
   ·rw[hG z]
    refine iteF ⟨rfl,Keep.refl,?_,λx o _ e=>e⟩
    show _=some (HO.lst ((if m.fi.getD b 0=0 then m.bo.set b m.nx else m.bo).map V.int))
    rw[kB z]
    exact b3
  rintro σ' H4 ⟨rfl,k4,b4,u4⟩
  have o4:=u4 _ _ oo o3
  have w4:=u4 _ _ wb.symm w3
  have l4:=u4 _ _ ds.lb l3
  have f4:=u4 _ _ ds.fb f3
  refine(iV rfl (iF o4 T.cl_Book T.na_Book_filled rfl ⟨_,rfl,iL (k:=_) (v:=_) (SqL.of f4) (atV hbf) (iI ⟨a.fi,_,_,b,rfl,rfl,f4,q33 (by rw[hI];exact hbf),?_⟩)⟩))
  rw[setV]
  have k5:Keep [a.bk,a.wv,a.lv,a.fi,a.bo] H4 (upd H4 a.fi (.lst ((m.fi.set b (m.fi.getD b 0+1)).map V.int))):=Keep.upd f4 (λ_ z=>by cases z) (by simp)
  have f5:(upd H4 a.fi (.lst ((m.fi.set b (m.fi.getD b 0+1)).map V.int))) a.fi=some (.lst ((m.fi.set b (m.fi.getD b 0+1)).map V.int)):=qI
  have u5:∀x o,x≠a.fi→H4 x=some o→(upd H4 a.fi (.lst ((m.fi.set b (m.fi.getD b 0+1)).map V.int))) x=some o:=λx o nb e=>by
   rw[qC nb]
   exact e
  generalize upd H4 a.fi (.lst ((m.fi.set b (m.fi.getD b 0+1)).map V.int))=H5 at k5 f5 u5 ⊢
  have o5:=u5 _ _ of' o4
  refine⟨_,rfl,a.bk,_,a.dx,_,_,rfl,o5,T.cl_Book,T.na_Book_stamp,rfl,_,_,rfl,rfl,a.dx,_,o5,by show 7<1000;decide,?_⟩
  refine q _ ⟨?_,?_,?_,?_,?_⟩ ((((k1.trans k2).trans k3).trans k4).trans (k5.trans (Keep.upd o5 (λ_ z=>by cases z) (by simp))))
  ·exact qI
  ·rw[qC ob.symm]
   exact u5 _ _ wf.symm w4
  ·rw[qC ol.symm]
   exact u5 _ _ ds.lf l4
  ·rw[qC of'.symm]
   exact f5
  ·rw[qC oo.symm]
   exact u5 _ _ ds.fb.symm b4
noncomputable def lamE:Expr:=match((yB jU).getLast?:Option Stmt)with
 |some (Stmt.Return (some (Expr.Call _ _ (k::_) _)) _)=>k.value
 |_=>Expr.Name "" ⟨0,0,0,0⟩
noncomputable abbrev lamA:Arguments:=match lamE with
 | .Lambda a _ _ _=>a
 |_=>yJ jU
noncomputable abbrev lamB:Expr:=match lamE with
 | .Lambda _ b _ _=>b
 |_=>lamE
noncomputable abbrev qF6:Scope:=match lamE with
 | .Lambda _ _ s _=>s
 |_=>qH jU
noncomputable abbrev lamP:Pos:=match lamE with
 | .Lambda _ _ _ p=>p
 |_=>⟨0,0,0,0⟩
noncomputable abbrev lamQ:Str:=(PyProof.Rows.envOfC "Plain.free" (qH jU) 0 0 .none).qual++"<lambda>"
noncomputable abbrev q6O(clos:List (Str×Addr))(pm ct:Value)(c:Addr):FuncData:=W.kla_fn "<lambda>" lamQ lamA lamB qF6 clos pm (.ref c) ct
noncomputable def tri(c:Addr):Array Value:=#[rawInt lamP.line,rawInt lamP.col,.ref c]
noncomputable def TbF(t:Adr)(H:Hp):Prop:=∃ps,H t.T_Plain_free=some (.tbl ps)∧(ps=#[]∨∃c,ps=tri c∧H c=some (cdO c lamQ))
theorem TbF.same{t:Adr}{H H':Hp}(s:Same H H')(h:TbF t H):TbF t H':=by
 obtain⟨ps,hT,h⟩:=h
 refine⟨ps,s _ _ hT,?_⟩
 rcases h with h|⟨c,h,a⟩
 ·exact .inl h
 ·exact .inr ⟨c,h,s _ _ a⟩
structure Sto where
 s:Addr
 sd:Addr
 tm:Addr
 td:Addr
 c:Addr
 a:CA
 k:BkA
 ru:V
 pa:V
noncomputable def bf(k:BkA):List Addr:=[k.bk,k.wv,k.lv,k.fi,k.bo]
noncomputable def sf(x:Sto):List Addr:=foot x.c x.a++bf x.k
structure Fit(m:CM)(q:QM):Prop where
 ok:m.Ok
 oq:q.Ok
 eB:m.bl=(q.B:Int)
 eP:m.pg=(q.P:Int)
structure StAt(t:Adr)(H:Hp)(x:Sto)(r2 r3 r4 r5:V)(m:CM)(q:QM):Prop where
 o:H x.s=some (.ins t.C_Store x.sd [("chip",.ref x.c),("terms",.ref x.tm),("book",.ref x.k.bk),("rule",x.ru),("papers",x.pa)])
 te:H x.tm=some (.ins t.C_Terms x.td (teF (.int m.bl) (.int m.pg) r2 r3 r4 r5))
 ch:ChipAt t.C_Chip H x.c x.a m
 bk:BkAt t H x.k q
 tb:TbF t H
 ds:Dst x.k
 d1:∀b∈x.a.li::foot x.c x.a,b∉bf x.k
 d2:∀b∈[x.s,x.tm],b∉sf x
section
variable{H H':Hp}{x:Sto}{r2 r3 r4 r5:V}{m:CM}{q:QM}
theorem StAt.same(h:StAt t H x r2 r3 r4 r5 m q)(s:Same H H'):StAt t H' x r2 r3 r4 r5 m q:=⟨s _ _ h.o,s _ _ h.te,h.ch.same s,h.bk.same s,h.tb.same s,h.ds,h.d1,h.d2⟩
theorem TbF.ne(h:TbF t H){b:Addr}{o:HO}(e:H b=some o)(n:∀ps,o≠ .tbl ps):b≠t.T_Plain_free:=λz=>by
 obtain⟨ps,hT,_⟩:=h
 rw[z,hT]at e
 exact n ps (kP e).symm
theorem StAt.nT(h:StAt t H x r2 r3 r4 r5 m q):∀b∈[x.s,x.tm]++(x.a.li::sf x),b∉[t.T_Plain_free]:=by
 intro b hb z
 have z:b=t.T_Plain_free:=by simpa using z
 have ne:∀{b:Addr} {o:HO},H b=some o→(∀ps,o≠ .tbl ps)→b≠t.T_Plain_free:=λe n=>h.tb.ne e n
 obtain⟨rs,er,_⟩:=h.ch.rc
 have hb:b=x.s∨b=x.tm∨b=x.a.li∨b=x.c∨b=x.a.bo∨b=x.a.cl∨b=x.a.dc∨b=x.a.br∨b=x.a.rc∨b=x.k.bk∨b=x.k.wv∨b=x.k.lv∨b=x.k.fi∨b=x.k.bo:=by simpa[sf,bf,foot]using hb
 rcases hb with y|y|y|y|y|y|y|y|y|y|y|y|y|y<;>rw[y]at z
 ·exact ne h.o (λ_ z=>by cases z) z
 ·exact ne h.te (λ_ z=>by cases z) z
 ·exact ne h.ch.li (λ_ z=>by cases z) z
 ·exact ne h.ch.ins (λ_ z=>by cases z) z
 ·exact ne h.ch.bo (λ_ z=>by cases z) z
 ·exact ne h.ch.cl (λ_ z=>by cases z) z
 ·exact ne h.ch.dc (λ_ z=>by cases z) z
 ·exact ne h.ch.br (λ_ z=>by cases z) z
 ·exact ne er (λ_ z=>by cases z) z
 ·exact ne h.bk.o (λ_ z=>by cases z) z
 ·exact ne h.bk.w (λ_ z=>by cases z) z
 ·exact ne h.bk.l (λ_ z=>by cases z) z
 ·exact ne h.bk.f (λ_ z=>by cases z) z
 ·exact ne h.bk.b (λ_ z=>by cases z) z
theorem StAt.keep(h:StAt t H x r2 r3 r4 r5 m q){F:List Addr}(k:Keep F H H')(n:∀b∈[x.s,x.tm]++(x.a.li::sf x),b∉F)(tb:TbF t H'):StAt t H' x r2 r3 r4 r5 m q:=
 ⟨k.k _ _ (n _ (by simp)) h.o,k.k _ _ (n _ (by simp)) h.te,h.ch.keep k (λb hb=>n b (by
  rcases kL.mp hb with rfl|hb
  ·simp
  ·simp[sf,hb])),h.bk.keep k (λb hb=>n b (by
  have hb:b∈bf x.k:=hb
  simp[sf,hb])),tb,h.ds,h.d1,h.d2⟩
theorem StAt.kT(h:StAt t H x r2 r3 r4 r5 m q)(k:Keep [t.T_Plain_free] H H')(tb:TbF t H'):StAt t H' x r2 r3 r4 r5 m q:=h.keep k h.nT tb
end
noncomputable def spGd(t:Adr):Sp:=λvs H Q _=>∃x r2 r3 r4 r5 m q,vs=[.ref x.s]∧StAt t H x r2 r3 r4 r5 m q∧Fit m q∧NewO H (.lst ((uE q.B m.br).map vn)) Q
theorem q02(T:Txt K mg t)(S:Fns K t):S.Plain_good.Ok0 P w mg base 5 (spGd t):=by
 refine S.Plain_good.F.ok0 q6Z λcdv A _ s H vs Q E hr h=>?_
 ·obtain⟨x,r2,r3,r4,r5,m,q,rfl,hs,ft,k⟩:=h
  have b2:=ft.oq.b2
  have eB:=ft.eB
  refine⟨_,(qD (qL (yU ["self","block"] [0] rfl (q06 rfl T.b_range (qA (qJ (qJ (pv 0) rfl) rfl) qE)) (λ_ _ _ _ _=>(qX (i:=1) (show List.Nodup (["self","block"]:List Str)from by decide) rfl (Or.inl rfl))) (λ_ _ _ _ _=>(yD (yH (jY (jE (vD (K:=K) rfl (pv 0) rfl) T.cl_Chip T.m_Chip_failed (q6M T S).mono hr S.Chip_failed.b .nil qK (qA (pv 1) qE)))))) (λ_ _ _ _ _=>(pv 1)) (by kernel_rfl) (jQ (by decide))))),?_⟩
  try dsimp-beta-proj-iota-zeta-eta only[wishK,cxK]
  refine(iV rfl (iF hs.o T.cl_Store T.na_Store_terms rfl (iF hs.te T.cl_Terms T.na_Terms_blocks rfl ⟨m.bl,rfl,by omega,by omega,λD H2 nD s2 hD=>?_⟩)))
  refine q4J (D:=D) (λi H3=>Same H H3∧H3 D=some (.lst (((List.range i).filter λb=>!(m.br.getD b false)).map vn))) ⟨s2,hD⟩ (λi H3 hi hp=>?_) (λH3 hp=>?_)
  ·obtain⟨sm,hd⟩:=hp
   have hi:i<q.B:=by omega
   have h3:=hs.same sm
   refine(iV rfl (iF h3.o T.cl_Store T.na_Store_chip rfl (iM h3.ch.ins rfl ⟨_,rfl,x.c,x.a,m,_,rfl,h3.ch,ft.ok,by omega,by omega,?_⟩)))
   rw[show(0+(i:Int)).toNat=i by omega,sQ]
   refine⟨_,rfl,?_⟩
   rw[pK,gH,mV]
   cases z:m.br.getD i false with
   |true=>
    refine iteF ⟨sm,?_⟩
    rw[hd,mR,z]
    simp
   |false=>
    refine iteT ?_
    refine⟨_,rfl,_,hd,?_,λb o e=>?_,?_⟩
    ·rw[hI]
     have:((List.range i).filter λb=>!(m.br.getD b false)).length≤i:=mI (mD _ _) (by rw[mH];exact kN _)
     have:(16:Nat)<sizeLine:=by decide
     omega
    ·rw[qC (qF e nD)]
     exact sm _ _ e
    ·rw[qI,mR,z]
     rfl
  ·obtain⟨sm,hd⟩:=hp
   rw[show m.bl.toNat=q.B by omega]at hd
   exact k D H3 nD sm hd
noncomputable def spLm(t:Adr)(x:Sto)(g c:Addr)(fd:FuncData):Sp:=λvs H Q _=>∃r2 r3 r4 r5,∃m:CM,∃q:QM,∃b:Nat,vs=[.int (b:Int)]∧StAt t H x r2 r3 r4 r5 m q∧Fit m q∧b<q.B∧H g=some (fnO g fd)∧H c=some (cdO c lamQ)∧∀tp H',H tp=none→Same H H'→H' tp=some (.tup [.int (m.cl.getD b 0),.int (b:Int)])→Q (.ref tp) H'
theorem qJK(T:Txt K mg t)(S:Fns K t){g c ca:Addr}{pm ct:Value}{x:Sto}(hc:base.IsCell ca (some (.ref x.s))):
 FnOk P w K mg base CX0 5 g (q6O [("self",ca)] pm ct c) ["block"] (spLm t x g c (q6O [("self",ca)] pm ct c)):=by
 refine qG7 (k:=4) (x0:="block") (fvs:=[.ref x.s]) (qCO (u:=.ref x.s) rfl rfl rfl (by decide+kernel) (by decide+kernel) (by decide+kernel) rfl hc) (λvs H Q E h=>?_) (λvs H Q E h=>?_) (λA outer s H v0 Q E hr h=>?_)
 ·repeat obtain⟨_,h⟩:=h
  all_goals subst_vars;rfl
 ·obtain⟨r2,r3,r4,r5,m,q,b,rfl,_,_,_,a,d,_⟩:=h
  exact⟨a,d⟩
 ·obtain⟨r2,r3,r4,r5,m,q,b,e,hs,ft,hb,_,_,k⟩:=h
  obtain rfl:v0=.int (b:Int):=by simpa using e
  have eB:=ft.eB
  refine⟨_,uQ (qA (jE (qJ (pv 1) rfl) T.cl_Chip T.m_Chip_cleared (q1D T S).mono hr S.Chip_cleared.b .nil qK (qA (pv 0) qE)) (qA (pv 0) qE)),?_⟩
  refine(iV rfl (iF hs.o T.cl_Store T.na_Store_chip rfl (iM hs.ch.ins rfl ⟨_,rfl,x.c,x.a,m,_,rfl,hs.ch,ft.ok,by omega,by omega,?_⟩)))
  rw[kY]
  exact⟨_,rfl,sz2,k⟩
theorem qCU{clos:List (Str×Addr)}{c:Addr}{pm ct:Value}:yG K (q6O clos pm ct c) ["block"] []:=yG.all λus hl=>match us,hl with| [_],_=>rfl
theorem qH1{t:Adr}{H:Hp}(h:TbF t H):∃ps,H t.T_Plain_free=some (.tbl ps)∧TriplesOk ps.toList∧
 ((codeAmong lamP ps.toList=none∧∀c H',H' t.T_Plain_free=some (.tbl (ps++tri c))→H' c=some (cdO c lamQ)→TbF t H')∨∃c,codeAmong lamP ps.toList=some (.ref c)∧H c=some (cdO c lamQ)):=by
 obtain⟨ps,hT,h⟩:=h
 rcases h with rfl|⟨c,rfl,a⟩
 ·exact⟨_,hT,trivial,.inl ⟨rfl,λc H' e1 e2=>⟨_,e1,.inr ⟨c,rfl,e2⟩⟩⟩⟩
 ·exact⟨_,hT,trivial,.inr ⟨c,rfl,a⟩⟩
theorem q7U(T:Txt K mg t)(S:Fns K t){cells:List (Str×Addr)}{σ:St}{H4:Hp}{D f c':Addr}{x:Sto}{r2 r3 r4 r5:V}{m:CM}{q:QM}{clos:List (Str×Addr)}{pm ct:Value}{Q:VK}(hσ:σ[0]?=some (some (.ref x.s)))(hcl:∀ca,cells.lookup ("self":Str)=some ca→clos=[(("self":Str),ca)])
 (hs:StAt t H4 x r2 r3 r4 r5 m q) (ft:Fit m q) (hD:H4 D=some (.lst ((yR q.B m.br q.fi).map vn))) (hf:H4 f=some (fnO f (q6O clos pm ct c'))) (hc:H4 c'=some (cdO c' lamQ)) (k:∀l p H',FreeIs q.B m.br m.cl q.fi l→H4 p=none→Same H4 H'→H' p=some (.lst (l.map vn))→Q (.ref p) H'):
 ∃(f':Addr) (fd:FuncData) (sp:Heap→Sp),V.ref f=.ref f'∧(∀base',(∀b o,base.get? b=some o→base'.get? b=some o)→q6D cells σ base' [(0,"self")]→FnOk P w K mg base' CX0 5 f' fd ["block"] (sp base'))∧yG K fd ["block"] []∧
  ∃(l:Addr) (us:List V) (Pv:Nat→List V→Hp→Prop),[V.ref D]=[.ref l]∧SqL K H4 l us∧us.length<64∧Pv 0 [] H4∧(∀base' i x zs H',q6D cells σ base' [(0,"self")]→us[i]?=some x→Pv i zs H'→sp base' [x] H' (λz H''=>Pv (i+1) (zs++[z]) H'') E0)∧
  ∀zs H',zs.length=us.length→Pv us.length zs H'→∃kk m,Paired (TupI K H') zs kk∧(∀k∈kk,k.length=m)∧0<m∧∀q:List Nat,q.Perm (List.range us.length)→(q.map λi=>kk.getD i []).Pairwise (λa b=>lx b a=false)→NewO H' (.lst (q.map λi=>us.getD i .non)) Q:=by
 have b2:=ft.oq.b2
 have ln:=qCQ (B:=q.B) (br:=m.br) (fi:=q.fi)
 refine⟨f,q6O clos pm ct c',λ_=>spLm t x f c' (q6O clos pm ct c'),rfl,λbase' _ cv=>?_,qCU,D,_,λi zs H'=>Same H4 H'∧Paired (TupD H') zs (((yR q.B m.br q.fi).take i).map (keyN m.cl)),rfl,SqL.of hD,by rw[hI];omega,⟨Same.refl H4,.nil⟩,λbase' i y zs H' _ hy hp=>?_,λzs H' lz hp=>?_⟩
 ·obtain⟨ca,u,hk,ru,hcell⟩:=cv (0,"self") (kI.mpr rfl) (.ref x.s) hσ
  obtain rfl:u=Value.ref x.s:=ru
  rw[hcl ca hk]
  exact qJK T S hcell
 ·obtain⟨sm,pr⟩:=hp
  rw[mB]at hy
  obtain⟨b,hb,rfl⟩:=mU.mp hy
  have mb:=q7Q.mp (gK hb)
  refine⟨r2,r3,r4,r5,m,q,b,rfl,hs.same sm,ft,mb.1.1,sm _ _ hf,sm _ _ hc,λtp H5 ntp s5 e5=>⟨sm.trans s5,?_⟩⟩
  rw[qCR (f:=keyN m.cl) hb]
  exact L2.Paired.snoc (yL pr s5) ⟨tp,rfl,e5⟩
 ·obtain⟨sm,pr⟩:=hp
  rw[hI,gC]at pr
  refine⟨_,2,qBL pr,λk hk=>?_,by decide,λq' p1 p2 p H5 np s5 e5=>?_⟩
  ·obtain⟨b,_,rfl⟩:=kO.mp hk
   rfl
  ·rw[hI]at p1
   have hin:∀i∈q',i<(yR q.B m.br q.fi).length:=λi hi=>mP.mp (p1.mem_iff.mp hi)
   rw[q6E (e:=0) hin]at e5
   exact k _ p H5 (qGD p1 p2) (Same.free sm np) (sm.trans s5) e5
noncomputable def spFr(t:Adr):Sp:=λvs H Q _=>∃x r2 r3 r4 r5 m q,vs=[.ref x.s]∧StAt t H x r2 r3 r4 r5 m q∧Fit m q∧∀l p H',FreeIs q.B m.br m.cl q.fi l→H p=none→Keep [t.T_Plain_free] H H'→TbF t H'→H' p=some (.lst (l.map vn))→Q (.ref p) H'
theorem q03(T:Txt K mg t)(S:Fns K t)(B:BmIn base mg):FnOk P w K mg base (CX0) 8 t.f_Plain_free S.fd_Plain_free ["self"] (spFr t):=by
 refine S.F_Plain_free.ok0 q2X λA _ s H vs Q E hr h=>?_
 ·obtain⟨x,r2,r3,r4,r5,m,q,rfl,hs,ft,k⟩:=h
  have b2:=ft.oq.b2
  have eB:=ft.eB
  refine⟨_,(qB (q0B (i:=1) ["self","block"] [0] rfl (jP (j0 (pv 0) T.cl_Store T.m_Store_good (q02 T S).mono hr S.Plain_good.b .nil qK)) (λ_ _ _ _ _=>(qX (i:=1) (show List.Nodup (["self","block"]:List Str)from by decide) rfl (Or.inl rfl))) (λ_ _ _ _ _=>(yD (qO uN (qW (q0A (K:=K) rfl) (vD (K:=K) rfl (vD (K:=K) rfl (pv 0) rfl) rfl) (pv 1) (λ_ _=>rfl)) qG (qR _)))) (λ_ _ _ _ _=>(pv 1)) (by kernel_rfl) (jQ (by decide)) q2X.nd rfl (Or.inl rfl)) (qD (qL (qAM (k:=5) (x:="block") [(0,"self")] (by intro p hp;simp only[kL,rG,sD]at hp;rcases hp with rfl<;>exact⟨rfl,by kernel_rfl,rfl⟩) hr (by rfl) T.b_sorted (qG9 rfl T.cd_Plain_free B (qG8 (by kernel_rfl)) rfl) (qA (pv 1) qE))))),?_⟩
  try dsimp-beta-proj-iota-zeta-eta only[wishK,cxK]
  refine(iV rfl (iM hs.o rfl ⟨x,r2,r3,r4,r5,m,q,rfl,hs,ft,λp H1 n1 s1 h1=>?_⟩))
  refine⟨p,rfl,⟨_,SqL.of h1⟩,λD H2 nD s2 hD=>?_⟩
  refine uS (K:=K) (xs:=(uE q.B m.br).map vn) (D:=D) (λi H3=>Same H1 H3∧H3 D=some (.lst ((((uE q.B m.br).take i).filter λb=>decide (q.fi.getD b 0=0)).map vn))) ⟨s2,hD⟩ (λi H3 hp=>SqL.of (hp.1 _ _ h1)) (λi y H3 hy hp=>?_) (λH3 hp=>?_)
  ·obtain⟨sm,hd⟩:=hp
   have h3:=(hs.same s1).same sm
   rw[mB]at hy
   obtain⟨b,hb,rfl⟩:=mU.mp hy
   have hi:=(kC.mp hb).1
   have mb:=q0C.mp (gK hb)
   refine(iV rfl (iF h3.o T.cl_Store T.na_Store_book rfl (iF h3.bk.o T.cl_Book T.na_Book_filled rfl ⟨_,rfl,iL (k:=_) (v:=_) (SqL.of h3.bk.f) (atV (by rw[ft.oq.lf];exact mb.1)) ⟨rfl,_,rfl,?_⟩⟩)))
   rw[yF,←mE hi,gH,mV]
   obtain rfl:(uE q.B m.br)[i]=b:=(kC.mp hb).2
   by_cases z:q.fi.getD (uE q.B m.br)[i] 0=0
   ·rw[hC z]
    refine iteT ?_
    refine⟨_,rfl,_,hd,?_,λb o e=>?_,?_⟩
    ·rw[hI]
     have l1:(((uE q.B m.br).take i).filter λb=>decide (q.fi.getD b 0=0)).length≤q.B:=mI (mD _ _) (mI (by rw[gE];omega) (q1L (B:=q.B) (br:=m.br)))
     have:(16:Nat)<sizeLine:=by decide
     omega
    ·rw[qC (qF e nD)]
     exact sm _ _ e
    ·rw[qI,mR,hC z]
     rfl
   ·rw[hG z]
    refine iteF ⟨sm,?_⟩
    rw[hd,mR,hG z]
    simp
  ·obtain⟨sm,hd⟩:=hp
   rw[hI,gC]at hd
   have hd:H3 D=some (.lst ((yR q.B m.br q.fi).map vn)):=hd
   have h3:=(hs.same s1).same sm
   refine⟨_,rfl,?_⟩
   obtain⟨ps,hT,ht,hc⟩:=qH1 h3.tb
   have nT:D≠t.T_Plain_free:=h3.tb.ne hd (λ_ z=>by cases z)
   have keep:∀(f c':Addr) (ctv pm:Value) (clos:List (Str×Addr)) (H4:Hp),H4 f=some (fnO f (q6O clos pm ctv c'))→H4 c'=some (cdO c' lamQ)→TbF t H4→(∀b o,b≠t.T_Plain_free→H3 b=some o→H4 b=some o)→Keep [t.T_Plain_free] H3 H4:=λf c' ctv pm clos H4 _ _ tb4 kp=>⟨λb o nb e=>kp b o (λz=>nb (by rw[z];simp)) e,λb xs e=>kp b _ (h3.tb.ne e (λ_ z=>by cases z)) e⟩
   refine⟨ps,hT,ht,?_⟩
   rcases hc with⟨hn,tb⟩|⟨c0,hn,hc0⟩
   ·refine .inl ⟨hn,λf c' ctv H4 nf hf hc' hT4 kp=>?_⟩
    have tb4:=tb c' H4 hT4 hc'
    have k4:=keep f c' ctv _ _ H4 hf hc' tb4 kp
    refine q7U T S rfl (λca hk=>q9L (names:=qF6.names) hk rfl) (h3.kT k4 tb4) ft (kp _ _ nT hd) hf hc' (λl p' H5 hl np s5 e5=>k l p' H5 hl ?_ ?_ (tb4.same s5) e5)
    ·refine Same.free s1 (Same.free sm (k4.none (λz=>?_) np))
     obtain⟨ps',hT',_⟩:=tb4
     rw[kI.mp z,hT']at np
     cases np
    ·exact((Keep.same s1).trans (Keep.same sm)).trans (k4.trans (Keep.same s5))
   ·refine .inr ⟨c0,hn,λf ctv H4 nf hf s4=>?_⟩
    refine q7U T S rfl (λca hk=>q9L (names:=qF6.names) hk rfl) (h3.same s4) ft (s4 _ _ hd) hf (s4 _ _ hc0) (λl p' H5 hl np s5 e5=>k l p' H5 hl ?_ ?_ ((h3.tb.same s4).same s5) e5)
    ·exact Same.free s1 (Same.free sm (Same.free s4 np))
    ·exact Keep.same (((s1.trans sm).trans s4).trans s5)
noncomputable def spPt(t:Adr):Sp:=λvs H Q _=>∃x r2 r3 r4 r5 m q,vs=[.ref x.s]∧StAt t H x r2 r3 r4 r5 m q∧Fit m q∧∀H',Same H H'→Q (oV (jG q.B q.P m.br q.fi)) H'
theorem qCV{α:Type}{p:α→Bool}{L:List α}{i:Nat}{x:α}(h:L[i]?=some x)(n:(L.take i).find? p=none):(p x=true→L.find? p=some x)∧(p x=false→(L.take (i+1)).find? p=none):=by
 have hi:=(kC.mp h).1
 obtain rfl:L[i]=x:=(kC.mp h).2
 constructor
 ·intro hp
  have e:L=L.take i++L[i]::L.drop (i+1):=by rw[List.getElem_cons_drop,List.take_append_drop]
  conv=>lhs;arg 2;rw[e]
  rw[List.find?_append,n,dH,hp]
  rfl
 ·intro hp
  rw[←mE hi,List.find?_append,n,dH,hp]
  rfl
theorem q04(T:Txt K mg t)(S:Fns K t):S.Plain_part.Ok0 P w mg base 6 (spPt t):=by
 refine S.Plain_part.F.ok0 q2Y λcdv A _ s H vs Q E hr h=>?_
 ·obtain⟨x,r2,r3,r4,r5,m,q,rfl,hs,ft,k⟩:=h
  refine⟨_,(qB (uG gT rfl (jP (j0 (pv 0) T.cl_Store T.m_Store_good (q02 T S).mono hr S.Plain_good.b .nil qK)) (qX (i:=1) q2Y.nd rfl (Or.inl rfl)) (qD (jB (q5U q07 q07 qG (qW qY (qJ (qJ (pv 0) rfl) rfl) (pv 1) (λ_ _=>rfl)) (qJ (qJ (pv 0) rfl) rfl)) (qD (qL (pv 1))) qQ))) (qD (qL u7))),?_⟩
  try dsimp-beta-proj-iota-zeta-eta only[wishK,cxK]
  refine(iV rfl (iM hs.o rfl ⟨x,r2,r3,r4,r5,m,q,rfl,hs,ft,λp H1 n1 s1 h1=>?_⟩))
  refine⟨p,rfl,⟨_,SqL.of h1⟩,?_⟩
  refine uD (K:=K) (xs:=(uE q.B m.br).map vn) (λi σ' H2=>∃y,σ'=[some (.ref x.s),y]∧Same H1 H2∧((uE q.B m.br).take i).find? (jJ q.P q.fi)=none) ⟨_,rfl,Same.refl H1,rfl⟩ (λi σ' H2 hi hp=>?_) (λi y σ' H2 hy hp=>?_) (λσ' H2 hp=>?_)
  ·obtain⟨y,rfl,sm,_⟩:=hp
   exact SqL.of (sm _ _ h1)
  ·obtain⟨y',rfl,sm,hn⟩:=hp
   have h3:=(hs.same s1).same sm
   rw[mB]at hy
   obtain⟨b,hb,rfl⟩:=mU.mp hy
   have mb:=q0C.mp (gK hb)
   obtain⟨y1,y2⟩:=qCV hb hn
   refine(iV rfl (iF h3.o T.cl_Store T.na_Store_book rfl (iF h3.bk.o T.cl_Book T.na_Book_filled rfl ⟨_,rfl,iL (k:=_) (v:=_) (SqL.of h3.bk.f) (atV (by rw[ft.oq.lf];exact mb.1)) ?_⟩)))
   refine(iI ⟨_,rfl,?_⟩)
   by_cases z1:0<q.fi.getD b 0
   ·rw[hC z1]
    refine iteT ?_
    refine(iV rfl (iF h3.o T.cl_Store T.na_Store_terms rfl (iF h3.te T.cl_Terms T.na_Terms_pages rfl (iI ⟨_,rfl,?_⟩))))
    by_cases z2:q.fi.getD b 0<m.pg
    ·rw[hC z2]
     have z:=k H2 (s1.trans sm)
     unfold jG at z
     rw[y1 (by unfold jJ;rw[hC z1,hC (by rw[←ft.eP];exact z2)];rfl)]at z
     exact iteT ⟨_,rfl,z⟩
    ·rw[hG z2]
     exact iteF ⟨_,rfl,sm,y2 (by unfold jJ;rw[hC z1,hG (by rw[←ft.eP];exact z2)];rfl)⟩
   ·rw[hG z1]
    exact iteF ⟨_,rfl,iteF ⟨_,rfl,sm,y2 (by unfold jJ;rw[hG z1];rfl)⟩⟩
  ·obtain⟨y',rfl,sm,hn⟩:=hp
   rw[hI,gC]at hn
   have z:=k H2 (s1.trans sm)
   unfold jG at z
   rw[hn]at z
   exact z
noncomputable def spSp(t:Adr):Sp:=λvs H Q _=>∃x r2 r3 r4 r5 m q,vs=[.ref x.s]∧StAt t H x r2 r3 r4 r5 m q∧Fit m q∧∀l H',FreeIs q.B m.br m.cl q.fi l→Keep [t.T_Plain_free] H H'→TbF t H'→Q (pgV q.P q.fi (q19 q.B q.P m.br q.fi l)) H'
theorem q76(T:Txt K mg t)(S:Fns K t)(B:BmIn base mg):S.Plain_spot.Ok0 P w mg base 9 (spSp t):=by
 refine S.Plain_spot.F.ok0 q01 λcdv A _ s H vs Q E hr h=>?_
 ·obtain⟨x,r2,r3,r4,r5,m,q,rfl,hs,ft,k⟩:=h
  refine⟨_,(qB (qU (i:=1) q01.nd rfl (Or.inl rfl) (j0 (pv 0) T.cl_Store T.m_Store_part (q04 T S).mono hr S.Plain_part.b .nil qK)) (qB (jB (qO q2H (pv 1) u7 (qR _)) (qD (qL (qS uH (qS v6 (pv 1) (qJ (qJ (pv 0) rfl) rfl)) (qW qY (qJ (qJ (pv 0) rfl) rfl) (pv 1) (λ_ _=>rfl))))) qQ) (qB (qU (i:=2) q01.nd rfl (Or.inl rfl) (j0 (pv 0) T.cl_Store T.m_Store_free (q03 T S B).mono hr S.b_Plain_free .nil qK)) (qB (jB (qO (qAE hr.units) (pv 2) (jZ qE) (qR _)) (qD (qL u7)) qQ) (qD (qL (qS v6 (qW qY (pv 2) qG (λ_ _=>rfl)) (qJ (qJ (pv 0) rfl) rfl)))))))),?_⟩
  try dsimp-beta-proj-iota-zeta-eta only[wishK,cxK]
  refine(iV rfl (iM hs.o rfl ⟨x,r2,r3,r4,r5,m,q,rfl,hs,ft,λH1 s1=>?_⟩))
  have h1:=hs.same s1
  have b2:=ft.oq.b2
  have p2:=ft.oq.p2
  have eP:=ft.eP
  cases hpn:jG q.B q.P m.br q.fi with
  |some b=>
   have hb:=q0T hpn
   refine⟨_,rfl,rfl,_,rfl,iteT ?_⟩
   refine⟨_,rfl,iV rfl (iF h1.o T.cl_Store T.na_Store_terms rfl (iF h1.te T.cl_Terms T.na_Terms_pages rfl (iI ⟨.inl ⟨by omega,by omega⟩,?_⟩)))⟩
   refine(iV rfl (iF h1.o T.cl_Store T.na_Store_book rfl (iF h1.bk.o T.cl_Book T.na_Book_filled rfl ⟨_,rfl,iL (k:=_) (v:=_) (SqL.of h1.bk.f) (atV (by rw[ft.oq.lf];exact hb.1)) (iI ?_)⟩)))
   obtain⟨l,hl⟩:=FreeIs.ex q.B m.br m.cl q.fi
   have kk:=k l H1 hl (Keep.same s1) h1.tb
   unfold q19 at kk
   rw[hpn]at kk
   have e:pgV q.P q.fi (some b)=V.int ((b:Int)*m.pg+q.fi.getD b 0):=by
    rw[eP]
    rfl
   have kk:Q (pgV q.P q.fi (some b)) H1:=kk
   rw[e]at kk
   exact kk
  |none=>
   refine⟨_,rfl,rfl,_,rfl,iteF ?_⟩
   refine(iV rfl (iM h1.o rfl ⟨x,r2,r3,r4,r5,m,q,rfl,h1,ft,λl p H2 hl np k2 tb2 h2=>?_⟩))
   have h2':=h1.kT k2 tb2
   refine⟨_,rfl,sz0,λe H3 n3 s3 h3=>⟨p,_,e,rfl,rfl,SqL.of (s3 _ _ h2),SqL.of h3,_,rfl,?_⟩⟩
   have h3':=h2'.same s3
   have kk:=k l H3 hl (((Keep.same s1).trans k2).trans (Keep.same s3)) (tb2.same s3)
   unfold q19 at kk
   rw[hpn]at kk
   cases l with
   |nil=>
    refine iteT ?_
    exact kk
   |cons b r=>
    refine iteF ?_
    have hb:=hl.mem (kW (a:=b) (l:=r))
    refine⟨_,rfl,iL (k:=0) (v:=.int (b:Int)) (SqL.of (s3 _ _ h2)) (yT (j:=0) rfl) (iV rfl (iF h3'.o T.cl_Store T.na_Store_terms rfl (iF h3'.te T.cl_Terms T.na_Terms_pages rfl (iI ⟨.inl ⟨by omega,by omega⟩,?_⟩))))⟩
    have e:pgV q.P q.fi ((b::r).head?)=V.int ((b:Int)*m.pg):=by
     show V.int ((b:Int)*(q.P:Int)+q.fi.getD b 0)=_
     rw[hb.2.2,eP,Int.add_zero]
    have kk:Q (pgV q.P q.fi ((b::r).head?)) H3:=kk
    rw[e]at kk
    exact kk
noncomputable def qBX(t:Adr):Sp:=λvs H Q E=>∃x r2 r3 r4 r5 m q n v,vs=[.ref x.s,.int n,.int v]∧StAt t H x r2 r3 r4 r5 m q∧Fit m q∧Gd m∧m.rc.length<1000000∧∀l,FreeIs q.B m.br m.cl q.fi l→∃b f:Nat,q19 q.B q.P m.br q.fi l=some b∧q.fi.getD b 0=(f:Int)∧m.bo.getD (b*q.P+f) .non=.non∧(m.lf=some 0→∀H',Keep (t.T_Plain_free::sf x) H H'→StAt t H' x r2 r3 r4 r5 m q→E (.ref t.C_PowerGone) none H')∧
 (m.lf≠some 0→∀tp H',H' tp=some (.tup [.int (q.nx*128+n),.int v])→Keep (t.T_Plain_free::sf x) H H'→StAt t H' x r2 r3 r4 r5 (putC m (b*q.P+f) (.ref tp)) (q.put b f n)→Q (.int ((b*q.P+f:Nat):Int)) H')
theorem StAt.put{H H':Hp}{x:Sto}{r2 r3 r4 r5:V}{m m':CM}{q:QM}(h:StAt t H x r2 r3 r4 r5 m q)(hc:ChipAt t.C_Chip H' x.c x.a m')(k:Keep (foot x.c x.a) H H')(e1:m'.bl=m.bl)(e2:m'.pg=m.pg):StAt t H' x r2 r3 r4 r5 m' q:=by
 have nf:∀b∈bf x.k,b∉foot x.c x.a:=λb hb z=>h.d1 b (hU _ z) hb
 have n2:∀b∈[x.s,x.tm],b∉foot x.c x.a:=λb hb z=>h.d2 b hb (by unfold sf;exact gU _ z)
 obtain⟨ps,hT,hc'⟩:=h.tb
 have nT:t.T_Plain_free∉foot x.c x.a:=λz=>h.nT t.T_Plain_free (by simp[sf,z]) (by simp)
 refine⟨k.k _ _ (n2 _ (by simp)) h.o,by rw[e1,e2];exact k.k _ _ (n2 _ (by simp)) h.te,hc,h.bk.keep k nf,⟨ps,k.k _ _ nT hT,?_⟩,h.ds,h.d1,h.d2⟩
 rcases hc' with z|⟨c,z,hcd⟩
 ·exact .inl z
 ·refine .inr ⟨c,z,k.k _ _ (λy=>?_) hcd⟩
  have y:c=x.c∨c=x.a.bo∨c=x.a.cl∨c=x.a.dc∨c=x.a.br∨c=x.a.rc:=by simpa[foot]using y
  obtain⟨rs,er,_⟩:=h.ch.rc
  rcases y with y|y|y|y|y|y<;>rw[y]at hcd
  ·rw[h.ch.ins]at hcd;cases hcd
  ·rw[h.ch.bo]at hcd;cases hcd
  ·rw[h.ch.cl]at hcd;cases hcd
  ·rw[h.ch.dc]at hcd;cases hcd
  ·rw[h.ch.br]at hcd;cases hcd
  ·rw[er]at hcd;cases hcd
theorem StAt.note{H H':Hp}{x:Sto}{r2 r3 r4 r5:V}{m:CM}{q q':QM}(h:StAt t H x r2 r3 r4 r5 m q)(hb:BkAt t H' x.k q')(k:Keep (bf x.k) H H'):StAt t H' x r2 r3 r4 r5 m q':=by
 have n2:∀b∈[x.s,x.tm],b∉bf x.k:=λb hb z=>h.d2 b hb (by unfold sf;exact mJ _ z)
 obtain⟨ps,hT,hc'⟩:=h.tb
 have nT:t.T_Plain_free∉bf x.k:=λz=>h.nT t.T_Plain_free (by simp[sf,z]) (by simp)
 refine⟨k.k _ _ (n2 _ (by simp)) h.o,k.k _ _ (n2 _ (by simp)) h.te,h.ch.keep k h.d1,hb,⟨ps,k.k _ _ nT hT,?_⟩,h.ds,h.d1,h.d2⟩
 rcases hc' with z|⟨c,z,hcd⟩
 ·exact .inl z
 ·refine .inr ⟨c,z,k.k _ _ (λy=>?_) hcd⟩
  have y:c=x.k.bk∨c=x.k.wv∨c=x.k.lv∨c=x.k.fi∨c=x.k.bo:=by simpa[bf]using y
  rcases y with y|y|y|y|y<;>rw[y]at hcd
  ·rw[h.bk.o]at hcd;cases hcd
  ·rw[h.bk.w]at hcd;cases hcd
  ·rw[h.bk.l]at hcd;cases hcd
  ·rw[h.bk.f]at hcd;cases hcd
  ·rw[h.bk.b]at hcd;cases hcd
theorem q45(T:Txt K mg t)(S:Fns K t)(B:BmIn base mg):S.Plain_set_down.OkE P w mg base 10 (qBX t):=by
 refine S.Plain_set_down.F.okE zN (λvs H Q E h=>?_) (λcdv A outer s H vs Q E hr h=>?_)
 ·repeat obtain⟨_,h⟩:=h
  all_goals subst_vars;rfl
 ·obtain⟨x,r2,r3,r4,r5,m,q,n,v,rfl,hs,ft,gd,hrc,k⟩:=h
  refine⟨_,(qB (qU (i:=3) zN.nd rfl (Or.inl rfl) (j0 (pv 0) T.cl_Store T.m_Store_spot (q76 T S B).mono hr S.Plain_spot.b .nil qK)) (qB (jB (qO qA6 (pv 3) u7 (qR _)) (qD jF) qQ) (qB (qZ (jW jH (qJ (pv 0) rfl) T.cl_Chip T.m_Chip_put (q9X T S).mono hr S.Chip_put.b .nil (qA (pv 3) (qA (uQ (qA (jE (qJ (pv 0) rfl) T.cl_Book T.m_Book_mark (q8Q T S).mono hr S.Book_mark.b .nil qK (qA (pv 1) qE)) (qA (pv 2) qE))) qE q3R)))) (qB (qZ (jE (qJ (pv 0) rfl) T.cl_Book T.m_Book_note (q8R T S).mono hr S.Book_note.b .nil qK (qA (pv 3) (qA (pv 1) qE)))) (qD (qL (pv 3))))))),?_⟩
  try dsimp-beta-proj-iota-zeta-eta only[wishK,cxK]
  refine(iV rfl (iM hs.o rfl ⟨x,r2,r3,r4,r5,m,q,rfl,hs,ft,λl H1 hl k1 tb1=>?_⟩))
  have hs1:=hs.kT k1 tb1
  obtain⟨b,f,hsp,ef,hn,dk,kk⟩:=k l hl
  rw[hsp]
  obtain⟨hB,hbr,f0,f1⟩:=q9M hl ft.oq.p1 hsp
  have hf:f<q.P:=by omega
  have epg:pgV q.P q.fi (some b)=V.int ((b*q.P+f:Nat):Int):=by
   show V.int ((b:Int)*(q.P:Int)+q.fi.getD b 0)=_
   rw[ef,pJ,gZ]
  rw[epg]
  refine⟨_,rfl,rfl,_,rfl,iteF ?_⟩
  refine(iV rfl (iF hs1.o T.cl_Store T.na_Store_chip rfl (iM hs1.ch.ins rfl ⟨_,rfl,?_⟩)))
  refine(iV rfl (iF hs1.o T.cl_Store T.na_Store_book rfl (iM hs1.bk.o rfl ⟨_,rfl,x.k,q,n,rfl,hs1.bk,_,rfl,sz2,λtp H2 n2 s2 e2=>?_⟩)))
  have hs2:=hs1.same s2
  have hpg:((b*q.P+f:Nat):Int)≤m.bl*m.pg-1:=by
   rw[ft.eB,ft.eP,←gZ]
   have:b*q.P+f<q.B*q.P:=(Nat.div_lt_iff_lt_mul (by omega)).mp (by rw[yE hf];exact hB)
   omega
  refine⟨x.c,x.a,m,_,.ref tp,rfl,hs2.ch,ft.ok,hrc,gd,hpg,hn,λz=>dk z H2 ((k1.mono (by simp)).trans (Keep.same s2)) hs2,λz H3 hc3 k3=>?_⟩
  have hs3:=hs2.put hc3 k3 rfl rfl
  refine(iV rfl (iF hs3.o T.cl_Store T.na_Store_book rfl (iM hs3.bk.o rfl ⟨_,rfl,_,rfl,x.k,q,b,f,n,rfl,hs3.bk,ft.oq,hs3.ds,hB,hf,ef,λH4 hb4 k4=>⟨_,rfl,?_⟩⟩)))
  exact kk z tp H4 (k4.tp _ _ (k3.tp _ _ e2)) ((((k1.mono (by simp)).trans (Keep.same s2)).trans (k3.mono (λb hb=>by unfold sf;exact hU _ (gU _ hb)))).trans (k4.mono (λb hb=>by unfold sf;exact hU _ (mJ _ hb)))) (hs3.note hb4 k4)
theorem q15(T:Txt K mg t)(S:Fns K t)(B:BmIn base mg):S.Plain_lay.OkE P w mg base 11 (qBX t):=by
 refine S.Plain_lay.F.okE q8J (λvs H Q E h=>?_) (λcdv A outer s H vs Q E hr h=>?_)
 ·repeat obtain⟨_,h⟩:=h
  all_goals subst_vars;rfl
 ·obtain⟨x,r2,r3,r4,r5,m,q,n,v,rfl,hs,k⟩:=h
  refine⟨_,(qD (qL (jW jH (pv 0) T.cl_Store T.m_Store_set_down (q45 T S B).mono hr S.Plain_set_down.b .nil (qA (pv 1) (qA (pv 2) qE))))),?_⟩
  try dsimp-beta-proj-iota-zeta-eta only[wishK,cxK]
  exact(iV rfl (iM hs.o rfl ⟨_,rfl,_,rfl,x,r2,r3,r4,r5,m,q,n,v,rfl,hs,k⟩))
theorem bor(a b:Nat):Builtin.bitOr (a:Int) (b:Int)=((a|||b:Nat):Int):=by
 have e:∀c:Nat,Builtin.bitNot (Builtin.bitNot (c:Int))=(c:Int):=λc=>by unfold Builtin.bitNot;omega
 have n:∀c:Nat,decide (0≤Builtin.bitNot (c:Int))=false:=λc=>hG (by unfold Builtin.bitNot;omega)
 unfold Builtin.bitOr Builtin.bitAnd
 rw[n a,n b]
 show Builtin.bitNot (Builtin.bitNot (((Builtin.bitNot (Builtin.bitNot (a:Int))).toNat|||(Builtin.bitNot (Builtin.bitNot (b:Int))).toNat:Nat):Int))=_
 rw[e,e a,e b,kY,kY]
noncomputable abbrev vN(ks:List Nat):List V:=ks.map λ(k:Nat)=>V.int (k:Int)
noncomputable def spBo(K:W.Frag):Sp:=λvs H Q _=>∃l ss,vs=[.ref l]∧SqL K H l (vN ss)∧(∀s∈ss,s<64)∧Q (.int ((orB ss 0:Nat):Int)) H
theorem q9Y(s:Nat):∀(l:List Nat) (b:Nat),orB (l++[s]) b=orB l b|||2 ^ s
 | [],b=>rfl
 |x::r,b=>q9Y s r _
theorem q6P(T:Txt K mg t)(S:Fns K t):S.bits_of.Ok0 P w mg base 1 (spBo K):=by
 refine S.bits_of.F.ok0 q12 λcdv A _ s H vs Q E hr h=>?_
 ·obtain⟨l,ss,rfl,hl,hs,q⟩:=h
  refine⟨_,(qB (qU (i:=1) q12.nd rfl (Or.inl rfl) qG) (qB (uG gT rfl (jP (pv 0)) (qX (i:=2) q12.nd rfl (Or.inl rfl)) (qD (qU (i:=1) q12.nd rfl (Or.inl rfl) (qS qJX (pv 1) (qS qHT qG (pv 2)))))) (qD (qL (pv 1))))),?_⟩
  try dsimp-beta-proj-iota-zeta-eta only[wishK,cxK]
  refine⟨_,rfl,l,rfl,⟨_,hl⟩,?_⟩
  refine uD (K:=K) (xs:=vN ss) (λi σ' H2=>∃y,σ'=[some (.ref l),some (.int ((orB (ss.take i) 0:Nat):Int)),y]∧H2=H) ⟨_,rfl,rfl⟩ (λi σ' H2 hi hp=>?_) (λi x σ' H2 hx hp=>?_) (λσ' H2 hp=>?_)
  ·obtain⟨y,rfl,rfl⟩:=hp
   exact hl
  ·obtain⟨y,rfl,rfl⟩:=hp
   rw[mB]at hx
   obtain⟨n,hn,rfl⟩:=mU.mp hx
   obtain⟨hi,rfl⟩:=kC.mp hn
   have:=hs _ (gJ hi)
   refine⟨_,rfl,_,rfl,iI ⟨⟨by omega,by omega,by decide⟩,iI ?_⟩⟩
   have e:(1:Int)*2 ^ ((ss[i]:Nat):Int).toNat=((2 ^ ss[i]:Nat):Int):=by
    rw[Int.one_mul,kY]
    exact(Int.natCast_pow 2 _).symm
   try dsimp only
   rw[e,bor]
   refine⟨some (.int ((ss[i]:Nat):Int)),?_,rfl⟩
   rw[←mE hi,q9Y]
   rfl
  ·obtain⟨y,rfl,rfl⟩:=hp
   rw[show(vN ss).length=ss.length by simp[vN],gC]
   exact⟨_,rfl,q⟩
noncomputable def hdN(W:Mp):List Int:=(W.map (·.1)).filter λn=>decide (n≠64)
noncomputable def spHe(t:Adr):Sp:=λvs H Q _=>∃a,∃m:QM,vs=[.ref a.bk]∧BkAt t H a m∧m.Ok∧(hdN m.V).length<64∧∀l ns H',Same H H'→H l=none→H' l=some (.lst (List.map V.int ns))→ns.Perm (hdN m.V)→ns.Pairwise (·≤·)→Q (.ref l) H'
theorem q8S(T:Txt K mg t)(S:Fns K t):S.Book_held.Ok0 P w mg base 1 (spHe t):=by
 refine S.Book_held.F.ok0 q8I λcdv A _ s H vs Q E hr h=>?_
 ·obtain⟨a,m,rfl,hb,ok,hl64,q⟩:=h
  have hu:=q1G hr
  have lV:m.V.length≤65:=ok.lenV
  refine⟨_,(qD (qL (j8 q84 (by rfl) T.b_sorted (by kernel_rfl) (qA (qBD (yU ["name"] [] rfl (qFX (qJ (pv 0) rfl)) (λ_ _ _ _ _=>(qX (i:=0) (show List.Nodup (["name"]:List Str)from by decide) rfl (Or.inl rfl))) (λ_ _ _ _ _=>(yD (qO q4W (pv 0) (zK rfl T.mg_ROLL ⟨_,rfl⟩ (v:=.int 64)) (qR _)))) (λ_ _ _ _ _=>(pv 0)) (by kernel_rfl) (jQ (by decide)))) qE)))),?_⟩
  try dsimp-beta-proj-iota-zeta-eta only[wishK,cxK]
  refine⟨a.wv,_,hb.w,iV rfl (iF hb.o T.cl_Book T.na_Book_where rfl ⟨a.wv,_,rfl,hb.w,λo D H2 nD s2 hD=>?_⟩)⟩
  have kk:∀x u,x≠a.wv→H x=some u→H2 x=some u:=λx u nx e=>s2 _ _ (by rw[qC nx];exact e)
  have fz:H2 a.wv=some (.frz o (.dK (dI m.V))):=s2 _ _ qI
  have Dw:D≠a.wv:=λz=>by rw[z,fz]at hD;cases hD
  have nDH:H D=none:=by
   rw[qC Dw]at nD
   exact nD
  refine qEH (D:=D) (λi H3=>H3 a.wv=some (.frz o (.dK (dI m.V)))∧(∀x u,x≠a.wv→H x=some u→H3 x=some u)∧H3 D=some (.lst ((hdN (m.V.take i)).map V.int))) ⟨fz,kk,hD⟩ (λi H3 hp=>hp.1) (λi kv H3 hk hp=>?_) (λH3 hp=>?_)
  ·obtain⟨fz3,k3,hd⟩:=hp
   have hi:i<m.V.length:=by
    have:=(kC.mp hk).1
    rw[q6N]at this
    exact this
   obtain rfl:((Sum.inl m.V[i].1:Key),V.int m.V[i].2)=kv:=by
    have e:(dI m.V)[i]?=some ((Sum.inl m.V[i].1:Key),V.int m.V[i].2):=by unfold dI;rw[mB,hV hi];rfl
    rw[e]at hk
    exact kP hk
   have tk:m.V.take (i+1)=m.V.take i++[m.V[i]]:=(mE hi).symm
   show q2U _ (V.int m.V[i].1) _ _ _
   refine⟨_,rfl,rfl,_,rfl,?_⟩
   rw[yF]
   by_cases e:m.V[i].1=64
   ·rw[hC e]
    refine iteF ?_
    refine⟨fz3,k3,?_⟩
    have:hdN (m.V.take (i+1))=hdN (m.V.take i):=by
     unfold hdN
     rw[tk,mV,gH]
     simp[e]
    rw[this]
    exact hd
   ·rw[hG e]
    refine iteT ?_
    refine⟨_,rfl,_,hd,?_,?_,λx u nx e'=>?_,?_⟩
    ·rw[hI]
     have l2:(hdN (m.V.take i)).length≤65:=by
      unfold hdN
      refine mI (mD _ _) ?_
      rw[hI,gE]
      omega
     have:(65:Nat)<sizeLine:=by decide
     omega
    ·rw[qC Dw.symm]
     exact fz3
    ·rw[qC (qF e' nDH)]
     exact k3 _ _ nx e'
    ·have:hdN (m.V.take (i+1))=hdN (m.V.take i)++[m.V[i].1]:=by
      unfold hdN
      rw[tk,mV,gH]
      simp[e]
     rw[qI,this,mV]
     rfl
  ·obtain⟨fz3,k3,hd⟩:=hp
   rw[q6N,gC]at hd
   refine⟨o,_,fz3,?_⟩
   have sH:Same H (upd H3 a.wv (.dK (dI m.V))):=qEI hb.w k3
   have hd4:(upd H3 a.wv (.dK (dI m.V))) D=some (.lst ((hdN m.V).map V.int)):=by rw[qC Dw];exact hd
   generalize upd H3 a.wv (.dK (dI m.V))=H4 at sH hd4 ⊢
   refine⟨D,hdN m.V,rfl,SqL.of hd4,by omega,λns pp pw l H5 n5 s5 h5=>?_⟩
   exact q l ns H5 (sH.trans s5) (sH.free n5) h5 pp pw
structure HeldIs(q:QM)(ns:List Int):Prop where
 pm:ns.Perm (hdN q.V)
 so:ns.Pairwise (·≤·)
noncomputable def spHd(t:Adr):Sp:=λvs H Q _=>∃x r2 r3 r4 r5 m q,vs=[.ref x.s]∧StAt t H x r2 r3 r4 r5 m q∧Fit m q∧(hdN q.V).length<64∧∀l ns H',HeldIs q ns→Same H H'→H l=none→H' l=some (.lst (List.map V.int ns))→Q (.ref l) H'
theorem q05(T:Txt K mg t)(S:Fns K t):S.Plain_held.Ok0 P w mg base 2 (spHd t):=by
 refine S.Plain_held.F.ok0 q70 λcdv A _ s H vs Q E hr h=>?_
 ·obtain⟨x,r2,r3,r4,r5,m,q,rfl,hs,ft,h64,k⟩:=h
  refine⟨_,(qD (qL (j0 (qJ (pv 0) rfl) T.cl_Book T.m_Book_held (q8S T S).mono hr S.Book_held.b .nil qK))),?_⟩
  try dsimp-beta-proj-iota-zeta-eta only[wishK,cxK]
  exact(iV rfl (iF hs.o T.cl_Store T.na_Store_book rfl (iM hs.bk.o rfl ⟨x.k,q,rfl,hs.bk,ft.oq,h64,λl ns H' s' n' h' pm so=>k l ns H' ⟨pm,so⟩ s' n' h'⟩)))
noncomputable def spCs(t:Adr):Sp:=λvs H Q E=>∃x r3 r4 r5 m q v,∃sh:Int,vs=[.ref x.s,v]∧StAt t H x (.int sh) r3 r4 r5 m q∧Knd H v∧(if inB v 0 (sh-1)=true then Q .non H else False)
theorem vI(T:Txt K mg t)(S:Fns K t):S.Plain_check_sheet.Ok0 P w mg base 3 (spCs t):=by
 refine S.Plain_check_sheet.F.ok0 q24 λcdv A _ s H vs Q E hr h=>?_
 ·obtain⟨x,r3,r4,r5,m,q,v,sh,rfl,hs,kn,k⟩:=h
  refine⟨_,(qD (jB (yH (jY (qV (jM T S).mono hr rfl T.mg_is_within T.kp_is_within S.is_within.b .nil qK (qA (pv 1) (qA qG (qA (qS vJ (qJ (qJ (pv 0) rfl) rfl) qG) qE)))))) (qD jF) qQ)),?_⟩
  try dsimp-beta-proj-iota-zeta-eta only[wishK,cxK]
  refine⟨_,rfl,iV rfl (iF hs.o T.cl_Store T.na_Store_terms rfl (iF hs.te T.cl_Terms T.na_Terms_sheets rfl (iI ⟨v,_,_,rfl,kn,_,rfl,?_⟩)))⟩
  cases z:inB v 0 (sh-1)with
  |true=>
   rw[z,kF rfl]at k
   exact iteF k
  |false=>
   rw[z,kB (by decide)]at k
   exact k.elim
theorem q9Z(T:Txt K mg t)(S:Fns K t):S.is_value.Ok0 P w mg base 3 (λvs H Q _=>∃v,vs=[v]∧Knd H v∧Q (.bl (inB v 0 (10 ^ 30-1))) H):=by
 refine S.is_value.F.ok0 q9U λcdv A _ s H vs Q E hr h=>?_
 ·obtain⟨v,rfl,kn,k⟩:=h
  refine⟨_,(qD (qL (qV (jM T S).mono hr rfl T.mg_is_within T.kp_is_within S.is_within.b .nil qK (qA (pv 0) (qA qG (qA (qS vJ (qS qCY qG qG) qG) qE)))))),?_⟩
  try dsimp-beta-proj-iota-zeta-eta only[wishK,cxK]
  exact⟨_,rfl,iI ⟨⟨by decide,by decide,by decide⟩,iI ⟨v,_,_,rfl,kn,k⟩⟩⟩
noncomputable def hold(q:QM)(s:Int):Bool:=decide (s∈hdN q.V)
theorem q46{s:Int}:∀{ns:List Int},inV (.int s) (ns.map V.int)=decide (s∈ns)
 | []=>rfl
 |n::r=>by
  have ih:=q46 (s:=s) (ns:=r)
  unfold inV at ih ⊢
  rw[mG,r9,ih]
  by_cases e:n=s
  ·subst e
   simp[eqV]
  ·have e':¬s=n:=λz=>e z.symm
   simp[eqV,e,e']
theorem qBY{ns:List Int}:(ns.map V.int).all q18=true:=by
 rw[dP]
 intro v hv
 obtain⟨n,_,rfl⟩:=kO.mp hv
 rfl
theorem HeldIs.hold{q:QM}{ns:List Int}(h:HeldIs q ns)(s:Int):decide (s∈ns)=hold q s:=by
 unfold W1.hold
 by_cases z:s∈ns
 ·rw[hC z,hC (h.pm.mem_iff.mp z)]
 ·rw[hG z,hG (λy=>z (h.pm.mem_iff.mpr y))]
noncomputable def spSh(t:Adr):Sp:=λvs H Q E=>∃x r2 r4 r5 m q,∃s sr:Int,vs=[.ref x.s,.int s]∧StAt t H x r2 (.int sr) r4 r5 m q∧Fit m q∧(hdN q.V).length<64∧∀H',Same H H'→if hold q s=false∧sr≤((hdN q.V).length:Int)then False else Q .non H'
theorem q2A(T:Txt K mg t)(S:Fns K t):S.Plain_check_share.Ok0 P w mg base 3 (spSh t):=by
 refine S.Plain_check_share.F.ok0 vH λcdv A _ s H vs Q E hr h=>?_
 ·obtain⟨x,r2,r4,r5,m,q,s,sr,rfl,hs,ft,h64,k⟩:=h
  refine⟨_,(qB (qU (i:=2) vH.nd rfl (Or.inl rfl) (j0 (pv 0) T.cl_Store T.m_Store_held (q05 T S).mono hr S.Plain_held.b .nil qK)) (qD (jB (PW.pt (q30 (qO q3N (pv 1) (pv 2) rfl) (q0O (qO qB2 (j8 jD (by rfl) T.b_len gO (qA (pv 2) qE)) (qJ (qJ (pv 0) rfl) rfl) (qR _))))) (qD jF) qQ))),?_⟩
  try dsimp-beta-proj-iota-zeta-eta only[wishK,cxK]
  refine(iV rfl (iM hs.o rfl ⟨x,r2,.int sr,r4,r5,m,q,rfl,hs,ft,h64,λl ns H1 hn s1 n1 h1=>?_⟩))
  refine⟨_,rfl,_,rfl,?_⟩
  refine⟨l,_,rfl,.inl (SqL.of h1),rfl,qBY,_,rfl,?_⟩
  have kk:=k H1 s1
  have e:inV (.int s) (ns.map V.int)=hold q s:=by rw[q46];exact hn.hold s
  show if(!inV (.int s) (ns.map V.int))=true then _ else _
  rw[e]
  cases z:hold q s with
  |true=>
   rw[z,kB (λy=>by cases y.1)]at kk
   exact iteF kk
  |false=>
   refine iteT ?_
   refine⟨_,rfl,l,_,rfl,.inl (SqL.of h1),iV rfl (iF (hs.same s1).o T.cl_Store T.na_Store_terms rfl (iF (hs.same s1).te T.cl_Terms T.na_Terms_share rfl (iI ⟨_,rfl,?_⟩)))⟩
   rw[hI,hn.pm.length_eq]
   by_cases y:sr≤((hdN q.V).length:Int)
   ·rw[hC y]
    rw[kF ⟨z,y⟩]at kk
    exact kk.elim
   ·rw[hG y]
    rw[kB (λw=>y w.2)]at kk
    exact iteF kk
noncomputable def RT(t:Adr)(H H':Hp):Prop:=∀b o,b≠t.T_Plain_free→H b=some o→H' b=some o
theorem RT.keep{H Hi Hj:Hp}{F:List Addr}(r:RT t H Hi)(k:Keep F Hi Hj)(f:∀b∈F,b=t.T_Plain_free∨H b=none):RT t H Hj:=λb o nb e=>k.k b o (λz=>by
 rcases f b z with z|z
 ·exact nb z
 ·rw[z]at e;cases e) (r b o nb e)
theorem RT.same{H Hi Hj:Hp}(r:RT t H Hi)(s:Same Hi Hj):RT t H Hj:=λb o nb e=>s b o (r b o nb e)
theorem RT.of{H Hi:Hp}(s:Same H Hi):RT t H Hi:=λb o _ e=>s b o e
theorem RT.sq{H Hi:Hp}{ps:Array Value}{sa:Addr}{xs:List V}(r:RT t H Hi)(hT:H t.T_Plain_free=some (.tbl ps))(h:SqL K H sa xs):SqL K Hi sa xs:=by
 rcases h with(h|⟨ob,h⟩)|h
 ·exact .inl (.inl (r _ _ (λz=>by rw[z,hT]at h;cases h) h))
 ·exact .inl (.inr ⟨ob,r _ _ (λz=>by rw[z,hT]at h;cases h) h⟩)
 ·exact .inr h
noncomputable def spRs(t:Adr):Sp:=λvs H Q _=>∃x r2 r3 r5 m q,∃ie:Int,vs=[.ref x.s]∧StAt t H x r2 r3 (.int ie) r5 m q∧Q (.int (1+ie)) H
theorem q0J(T:Txt K mg t)(S:Fns K t):S.Store_reserve.Ok0 P w mg base 1 (spRs t):=by
 refine S.Store_reserve.F.ok0 q4Q λcdv A _ s H vs Q E hr h=>?_
 ·obtain⟨x,r2,r3,r5,m,q,ie,rfl,hs,k⟩:=h
  refine⟨_,(qD (qL (qS uH qG (qJ (qJ (pv 0) rfl) rfl)))),?_⟩
  try dsimp-beta-proj-iota-zeta-eta only[wishK,cxK]
  exact(iV rfl (iF hs.o T.cl_Store T.na_Store_terms rfl (iF hs.te T.cl_Terms T.na_Terms_ill rfl (iI k))))
noncomputable def spRd(t:Adr):Sp:=λvs H Q _=>∃x r2 r3 r5 m q,∃ie:Int,vs=[.ref x.s]∧StAt t H x r2 r3 (.int ie) r5 m q∧Fit m q∧∀l H',FreeIs q.B m.br m.cl q.fi l→Keep [t.T_Plain_free] H H'→TbF t H'→Q (.bl (rdy ie l (jG q.B q.P m.br q.fi))) H'
theorem q2B(T:Txt K mg t)(S:Fns K t)(B:BmIn base mg):S.Plain_ready.Ok0 P w mg base 9 (spRd t):=by
 refine S.Plain_ready.F.ok0 q23 λcdv A _ s H vs Q E hr h=>?_
 ·obtain⟨x,r2,r3,r5,m,q,ie,rfl,hs,ft,k⟩:=h
  refine⟨_,(qB (qU (i:=1) q23.nd rfl (Or.inl rfl) (qS vJ (j8 jD (by rfl) T.b_len gO (qA (j0 (pv 0) T.cl_Store T.m_Store_free (q03 T S B).mono hr S.b_Plain_free .nil qK) qE)) (j0 (pv 0) T.cl_Store T.m_Store_reserve (q0J T S).mono hr S.Store_reserve.b .nil qK))) (qD (qL (qCW (uP q7D (pv 1) qG (qR _)) (vY (q1E (uP uN (pv 1) qG (qR _)) (vY (uP q2H (j0 (pv 0) T.cl_Store T.m_Store_part (q04 T S).mono hr S.Plain_part.b .nil qK) u7 (qR _))))))))),?_⟩
  try dsimp-beta-proj-iota-zeta-eta only[wishK,cxK]
  refine(iV rfl (iM hs.o rfl ⟨x,r2,r3,_,r5,m,q,rfl,hs,ft,λl p H1 hl np k1 tb1 h1=>?_⟩))
  have hs1:=hs.kT k1 tb1
  refine⟨p,_,rfl,.inl (SqL.of h1),iV rfl (iM hs1.o rfl ⟨x,r2,r3,r5,m,q,ie,rfl,hs1,_,_,rfl,rfl,?_⟩)⟩
  refine⟨_,rfl,_,_,rfl,rfl,_,rfl,?_⟩
  have kk:=λH' s'=>k l H' hl (k1.trans (Keep.same s')) (tb1.same s')
  unfold rdy at kk
  rw[hI]
  by_cases z:(l.length:Int)-(1+ie)>0
  ·rw[hC z]
   refine iteT ?_
   have:=kk H1 (Same.refl H1)
   rw[hC z]at this
   exact this
  ·rw[hG z]
   refine iteF ?_
   rw[hG z]at kk
   refine⟨_,rfl,rfl,_,rfl,?_⟩
   rw[yF]
   by_cases e0:(l.length:Int)-(1+ie)=0
   ·rw[hC e0]
    rw[hC e0]at kk
    refine iteT ?_
    refine(iV rfl (iM hs1.o rfl ⟨x,r2,r3,_,r5,m,q,rfl,hs1,ft,λH2 s2=>⟨rfl,?_⟩⟩))
    have:=kk H2 s2
    cases hp:jG q.B q.P m.br q.fi with
    |none=>
     rw[hp]at this
     exact this
    |some b=>
     rw[hp]at this
     exact this
   ·rw[hG e0]
    rw[hG e0]at kk
    refine iteF ?_
    exact kk H1 (Same.refl H1)
noncomputable def spTy(t:Adr):Sp:=λvs H Q _=>∃x r2 r3 r4 r5 m q,∃b:Nat,vs=[.ref x.s,.int (b:Int)]∧StAt t H x r2 r3 r4 r5 m q∧Fit m q∧b<q.B∧NewO H (.tup (tyL m q b)) Q
theorem q6Q(T:Txt K mg t)(S:Fns K t):S.Store_tally.Ok0 P w mg base 5 (spTy t):=by
 refine S.Store_tally.F.ok0 q6H λcdv A _ s H vs Q E hr h=>?_
 ·obtain⟨x,r2,r3,r4,r5,m,q,b,rfl,hs,ft,hb,k⟩:=h
  have eB:=ft.eB
  refine⟨_,(qD (qL (uQ (qA (pv 1) (qA (qW qY (qJ (qJ (pv 0) rfl) rfl) (pv 1) (λ_ _=>rfl)) (qA (jE (qJ (pv 0) rfl) T.cl_Chip T.m_Chip_cleared (q1D T S).mono hr S.Chip_cleared.b .nil qK (qA (pv 1) qE)) (qA (qW qY (qJ (qJ (pv 0) rfl) rfl) (pv 1) (λ_ _=>rfl)) qE))))))),?_⟩
  try dsimp-beta-proj-iota-zeta-eta only[wishK,cxK]
  refine⟨_,rfl,iV rfl (iF hs.o T.cl_Store T.na_Store_book rfl (iF hs.bk.o T.cl_Book T.na_Book_live rfl ⟨_,rfl,iL (k:=_) (v:=_) (SqL.of hs.bk.l) (atV (by rw[ft.oq.ll];exact hb)) ?_⟩))⟩
  refine(iV rfl (iF hs.o T.cl_Store T.na_Store_chip rfl (iM hs.ch.ins rfl ⟨_,rfl,x.c,x.a,m,_,rfl,hs.ch,ft.ok,by omega,by omega,?_⟩)))
  rw[kY]
  refine(iV rfl (iF hs.o T.cl_Store T.na_Store_book rfl (iF hs.bk.o T.cl_Book T.na_Book_born rfl ⟨_,rfl,iL (k:=_) (v:=_) (SqL.of hs.bk.b) (atV (by rw[ft.oq.lo];exact hb)) ?_⟩)))
  exact⟨sz4,k⟩
noncomputable def spSc(t:Adr):Sp:=λvs H Q _=>∃x r2 r3 r5 m q,∃ie:Int,vs=[.ref x.s]∧StAt t H x r2 r3 (.int ie) r5 m q∧Fit m q∧∀l H',FreeIs q.B m.br m.cl q.fi l→Keep [t.T_Plain_free] H H'→TbF t H'→Q (.int (spcN ie l q.P q.fi (jG q.B q.P m.br q.fi))) H'
theorem q2C(T:Txt K mg t)(S:Fns K t)(B:BmIn base mg):S.Store_space.Ok0 P w mg base 9 (spSc t):=by
 refine S.Store_space.F.ok0 q25 λcdv A _ s H vs Q E hr h=>?_
 ·obtain⟨x,r2,r3,r5,m,q,ie,rfl,hs,ft,k⟩:=h
  have eP:=ft.eP
  refine⟨_,(qB (jB (qO qB2 (j8 jD (by rfl) T.b_len gO (qA (j0 (pv 0) T.cl_Store T.m_Store_free (q03 T S B).mono hr S.b_Plain_free .nil qK) qE)) (j0 (pv 0) T.cl_Store T.m_Store_reserve (q0J T S).mono hr S.Store_reserve.b .nil qK) (qR _)) (qD (qL (qJ (qJ (pv 0) rfl) rfl))) qQ) (qB (qU (i:=1) q25.nd rfl (Or.inl rfl) (j0 (pv 0) T.cl_Store T.m_Store_part (q04 T S).mono hr S.Plain_part.b .nil qK)) (qB (jB (qO qA6 (pv 1) u7 (qR _)) (qD (qL qG)) qQ) (qD (qL (qS vJ (qJ (qJ (pv 0) rfl) rfl) (qW qY (qJ (qJ (pv 0) rfl) rfl) (pv 1) (λ_ _=>rfl)))))))),?_⟩
  try dsimp-beta-proj-iota-zeta-eta only[wishK,cxK]
  refine(iV rfl (iM hs.o rfl ⟨x,r2,r3,_,r5,m,q,rfl,hs,ft,λl p H1 hl np k1 tb1 h1=>?_⟩))
  have hs1:=hs.kT k1 tb1
  refine⟨p,_,rfl,.inl (SqL.of h1),iV rfl (iM hs1.o rfl ⟨x,r2,r3,r5,m,q,ie,rfl,hs1,_,_,rfl,rfl,_,rfl,?_⟩)⟩
  have kk:=λH' s'=>k l H' hl (k1.trans (Keep.same s')) (tb1.same s')
  unfold spcN at kk
  rw[hI]
  by_cases z:1+ie≤(l.length:Int)
  ·rw[hC (show(l.length:Int)≥1+ie from z)]
   refine iteT ?_
   refine(iV rfl (iF hs1.o T.cl_Store T.na_Store_terms rfl (iF hs1.te T.cl_Terms T.na_Terms_pages rfl ?_)))
   have:=kk H1 (Same.refl H1)
   rw[kF z,←eP]at this
   exact this
  ·rw[hG (show ¬(l.length:Int)≥1+ie from z)]
   refine iteF ?_
   refine(iV rfl (iM hs1.o rfl ⟨x,r2,r3,_,r5,m,q,rfl,hs1,ft,λH2 s2=>?_⟩))
   have kk:=kk H2 s2
   rw[kB z]at kk
   cases hp:jG q.B q.P m.br q.fi with
   |none=>
    rw[hp]at kk
    exact⟨_,rfl,rfl,_,rfl,iteT kk⟩
   |some b=>
    rw[hp]at kk
    have hs2:=hs1.same s2
    refine⟨_,rfl,rfl,_,rfl,iteF ?_⟩
    refine(iV rfl (iF hs2.o T.cl_Store T.na_Store_terms rfl (iF hs2.te T.cl_Terms T.na_Terms_pages rfl (iV rfl (iF hs2.o T.cl_Store T.na_Store_book rfl (iF hs2.bk.o T.cl_Book T.na_Book_filled rfl ⟨_,rfl,iL (k:=_) (v:=_) (SqL.of hs2.bk.f) (atV (by rw[ft.oq.lf];exact(q0T hp).1)) (iI ?_)⟩))))))
    rw[eP]
    exact kk
noncomputable abbrev Tys(H:Hp)(m:CM)(q:QM):List V→List Nat→Prop:=Paired λv b=>∃p,v=.ref p∧H p=some (.tup (tyL m q b))
theorem qA0{F:List Addr}{H H':Hp}{m:CM}{q:QM}(k:Keep F H H'){rs:List V}{L:List Nat}(r:Tys H m q rs L):Tys H' m q rs L:=Paired.mapP r λv d ⟨p,e,h⟩=>⟨p,e,k.tp _ _ h⟩
noncomputable def spFo(t:Adr):Sp:=λvs H Q _=>∃x r2 r3 r5 m q,∃ie:Int,vs=[.ref x.s]∧StAt t H x r2 r3 (.int ie) r5 m q∧Fit m q∧∀l p rs H',FreeIs q.B m.br m.cl q.fi l→H p=none→Keep [t.T_Plain_free] H H'→TbF t H'→H' p=some (.lst rs)→Tys H' m q rs ((jX q.B q.P m.br q.fi).filter λb=>decide (q.lv.getD b 0≤spcN ie l q.P q.fi (jG q.B q.P m.br q.fi)))→Q (.ref p) H'
theorem zJ(T:Txt K mg t)(S:Fns K t)(B:BmIn base mg):S.Store_full_ones.Ok0 P w mg base 10 (spFo t):=by
 refine S.Store_full_ones.F.ok0 yO λcdv A _ s H vs Q E hr h=>?_
 ·obtain⟨x,r2,r3,r5,m,q,ie,rfl,hs,ft,k⟩:=h
  have b2:=ft.oq.b2
  have eP:=ft.eP
  have sz:(16:Nat)<sizeLine:=by decide
  have fl:(jX q.B q.P m.br q.fi).length≤16:=mI (mD _ _) (mI (q1L (B:=q.B) (br:=m.br)) b2)
  refine⟨_,(qB (qU (i:=1) yO.nd rfl (Or.inr rfl) (j0 (pv 0) T.cl_Store T.m_Store_space (q2C T S B).mono hr S.Store_space.b .nil qK)) (qB (q0B (i:=2) ["self","block"] [0] rfl (jP (j0 (pv 0) T.cl_Store T.m_Store_good (q02 T S).mono hr S.Plain_good.b .nil qK)) (λ_ _ _ _ _=>(qX (i:=1) (show List.Nodup (["self","block"]:List Str)from by decide) rfl (Or.inl rfl))) (λ_ _ _ _ _=>(yD (qO uN (qW (q0A (K:=K) rfl) (vD (K:=K) rfl (vD (K:=K) rfl (pv 0) rfl) rfl) (pv 1) (λ_ _=>rfl)) (vD (K:=K) rfl (vD (K:=K) rfl (pv 0) rfl) rfl) (qR _)))) (λ_ _ _ _ _=>(pv 1)) (by kernel_rfl) (jQ (by decide)) yO.nd rfl (Or.inl rfl)) (qB (q0B (i:=3) ["self","block"] [0] rfl (jP (pv 2)) (λ_ _ _ _ _=>(qX (i:=1) (show List.Nodup (["self","block"]:List Str)from by decide) rfl (Or.inl rfl))) (λ_ _ _ _ _=>q83) (λ_ _ _ _ _=>(jE (pv 0) T.cl_Store T.m_Store_tally (q6Q T S).mono hr S.Store_tally.b .nil qK (qA (pv 1) qE))) (by kernel_rfl) (jQ (by decide)) yO.nd rfl (Or.inl rfl)) (qD (qL (yU ["space","tally"] [1] rfl (jP (pv 3)) (λ_ _ _ _ _=>(qX (i:=1) (show List.Nodup (["space","tally"]:List Str)from by decide) rfl (Or.inl rfl))) (λ_ _ _ _ _=>(yD (qO qB1 (qW (vS (K:=K) rfl) (pv 1) qG (λ_ _=>rfl)) (pv 0) (qR _)))) (λ_ _ _ _ _=>(pv 1)) (by kernel_rfl) (jQ (by decide)))))))),?_⟩
  try dsimp-beta-proj-iota-zeta-eta only[wishK,cxK]
  refine(iV rfl (iM hs.o rfl ⟨x,r2,r3,r5,m,q,ie,rfl,hs,ft,λl H1 hl k1 tb1=>?_⟩))
  have hs1:=hs.kT k1 tb1
  have kk:=λp rs H' np k'=>k l p rs H' hl np (k1.trans k')
  generalize spcN ie l q.P q.fi (jG q.B q.P m.br q.fi)=sp at kk
  refine(iV rfl (iM hs1.o rfl ⟨x,r2,r3,_,r5,m,q,rfl,hs1,ft,λp H2 n2 s2 h2=>?_⟩))
  refine⟨p,rfl,⟨_,SqL.of h2⟩,λD H3 nD s3 hD=>?_⟩
  refine uS (K:=K) (xs:=(uE q.B m.br).map vn) (D:=D) (λi H3=>Same H2 H3∧H3 D=some (.lst ((((uE q.B m.br).take i).filter λb=>decide (q.fi.getD b 0=(q.P:Int))).map vn))) ⟨s3,hD⟩ (λi H3 hp=>SqL.of (hp.1 _ _ h2)) (λi y H3 hy hp=>?_) (λH3 hp=>?_)
  ·obtain⟨sm,hd⟩:=hp
   have h3:=(hs1.same s2).same sm
   rw[mB]at hy
   obtain⟨b,hb,rfl⟩:=mU.mp hy
   have hi:=(kC.mp hb).1
   have mb:=q0C.mp (gK hb)
   refine(iV rfl (iF h3.o T.cl_Store T.na_Store_book rfl (iF h3.bk.o T.cl_Book T.na_Book_filled rfl ⟨_,rfl,iL (k:=_) (v:=_) (SqL.of h3.bk.f) (atV (by rw[ft.oq.lf];exact mb.1)) (iV rfl (iF h3.o T.cl_Store T.na_Store_terms rfl (iF h3.te T.cl_Terms T.na_Terms_pages rfl ⟨rfl,_,rfl,?_⟩)))⟩)))
   rw[yF,eP,←mE hi,gH,mV]
   obtain rfl:(uE q.B m.br)[i]=b:=(kC.mp hb).2
   by_cases z:q.fi.getD (uE q.B m.br)[i] 0=(q.P:Int)
   ·rw[hC z]
    refine iteT ?_
    refine⟨_,rfl,_,hd,?_,λb o e=>?_,?_⟩
    ·rw[hI]
     have l1:(((uE q.B m.br).take i).filter λb=>decide (q.fi.getD b 0=(q.P:Int))).length≤q.B:=mI (mD _ _) (mI (by rw[gE];omega) (q1L (B:=q.B) (br:=m.br)))
     omega
    ·rw[qC (qF e nD)]
     exact sm _ _ e
    ·rw[qI,mR,hC z]
     rfl
   ·rw[hG z]
    refine iteF ⟨sm,?_⟩
    rw[hd,mR,hG z]
    simp
  ·obtain⟨sm,hd⟩:=hp
   rw[hI,gC]at hd
   have hd:H3 D=some (.lst ((jX q.B q.P m.br q.fi).map vn)):=hd
   have s13:=s2.trans sm
   have h3:=hs1.same s13
   refine⟨_,rfl,D,rfl,⟨_,SqL.of hd⟩,λD2 H4 nD2 s4 hD2=>?_⟩
   refine qE6 (K:=K) (xs:=(jX q.B q.P m.br q.fi).map vn) (D:=D2) (λi H5=>∃rs,Same H3 H5∧H5 D2=some (.lst rs)∧Tys H5 m q rs ((jX q.B q.P m.br q.fi).take i)) ⟨_,s4,hD2,.nil⟩ (λi H5 hp=>by obtain⟨rs,sm5,_⟩:=hp;exact SqL.of (sm5 _ _ hd)) (λi y H5 hy hp=>?_) (λH5 hp=>?_)
   ·obtain⟨rs,sm5,hd5,ty⟩:=hp
    have h5:=h3.same sm5
    rw[mB]at hy
    obtain⟨b,hb,rfl⟩:=mU.mp hy
    have hi:=(kC.mp hb).1
    have mb:=q0C.mp (mM.mp (gK hb)).1
    obtain rfl:(jX q.B q.P m.br q.fi)[i]=b:=(kC.mp hb).2
    have ln:=ty.len
    rw[gE]at ln
    refine(iV rfl (iM h5.o rfl ⟨_,rfl,x,r2,r3,_,r5,m,q,_,rfl,h5,ft,mb.1,λtp H6 n6 s6 h6=>⟨_,s6 _ _ hd5,by omega,?_⟩⟩))
    have ne:∀b o,H6 b=some (.tup o)→b≠D2:=λb o e z=>by
     rw[z,s6 _ _ hd5]at e
     cases e
    refine⟨_,λb o e=>?_,qI,?_⟩
    ·rw[qC (qF e nD2)]
     exact s6 _ _ (sm5 _ _ e)
    ·rw[←mE hi]
     refine L2.Paired.snoc (Paired.mapP ty λv d ⟨p,e,h⟩=>⟨p,e,?_⟩) ⟨tp,rfl,?_⟩
     ·rw[qC (ne _ _ (s6 _ _ h))]
      exact s6 _ _ h
     ·rw[qC (ne _ _ h6)]
      exact h6
   ·obtain⟨rs,sm5,hd5,ty⟩:=hp
    rw[hI,gC]at ty
    have s15:=s13.trans sm5
    have h5:=hs1.same s15
    refine⟨_,rfl,D2,rfl,⟨_,SqL.of hd5⟩,λD3 H6 nD3 s6 hD3=>?_⟩
    refine uS (K:=K) (xs:=rs) (D:=D3) (λi H7=>∃rs',Same H5 H7∧H7 D3=some (.lst rs')∧rs'.length≤i∧Tys H5 m q rs' (((jX q.B q.P m.br q.fi).take i).filter λb=>decide (q.lv.getD b 0≤sp))) ⟨_,s6,hD3,kN _,.nil⟩ (λi H7 hp=>by obtain⟨_,sm7,_⟩:=hp;exact SqL.of (sm7 _ _ hd5)) (λi y H7 hy hp=>?_) (λH7 hp=>?_)
    ·obtain⟨rs',sm7,hd7,ln,ty'⟩:=hp
     obtain⟨b,hb,tp,rfl,htp⟩:=Paired.at ty hy
     have hi:=(kC.mp hb).1
     obtain rfl:(jX q.B q.P m.br q.fi)[i]=b:=(kC.mp hb).2
     refine⟨_,rfl,iT (k:=_) (v:=_) (SqT.of (sm7 _ _ htp)) rfl ⟨_,rfl,iI ⟨_,rfl,?_⟩⟩⟩
     have ln':=ty.len
     have hir:=(kC.mp hy).1
     have e1:((jX q.B q.P m.br q.fi).take (i+1)).filter (λb=>decide (q.lv.getD b 0≤sp))=((jX q.B q.P m.br q.fi).take i).filter (λb=>decide (q.lv.getD b 0≤sp))++(if q.lv.getD (jX q.B q.P m.br q.fi)[i] 0≤sp then[(jX q.B q.P m.br q.fi)[i]]else[]):=by
      rw[←mE hi,gH,mR]
      by_cases z:q.lv.getD (jX q.B q.P m.br q.fi)[i] 0≤sp
      ·rw[hC z,kF z];rfl
      ·rw[hG z,kB z];rfl
     rw[e1]
     by_cases z:q.lv.getD (jX q.B q.P m.br q.fi)[i] 0≤sp
     ·rw[hC z,kF z]
      refine iteT ?_
      refine⟨_,rfl,_,hd7,by omega,_,λb o e=>?_,qI,?_,L2.Paired.snoc ty' ⟨tp,rfl,htp⟩⟩
      ·rw[qC (qF e nD3)]
       exact sm7 _ _ e
      ·rw[mC]
       exact pE ln 1
     ·rw[hG z,kB z,gY]
      exact iteF ⟨_,sm7,hd7,by omega,ty'⟩
    ·obtain⟨rs',sm7,hd7,ln,ty'⟩:=hp
     rw[ty.len,gC]at ty'
     have s17:=s15.trans sm7
     refine kk D3 rs' H7 ?_ (Keep.same s17) (tb1.same s17) hd7 (qA0 (Keep.same (F:=[]) sm7) ty')
     refine k1.none (λz=>?_) (Same.free s15 nD3)
     obtain⟨ps',hT',_⟩:=tb1.same s15
     rw[kI.mp z,hT']at nD3
     cases nD3
theorem qF7{L:List Nat}{p:Nat→Bool}{i:Nat}(hi:i<L.length):(L.take (i+1)).filter p=(L.take i).filter p++(if p L[i]=true then[L[i]]else[]):=by
 rw[←mE hi,gH,mR]
 rfl
noncomputable def spOp(t:Adr):Sp:=λvs H Q _=>∃x r2 r3 r5 m q,∃ie:Int,vs=[.ref x.s]∧StAt t H x r2 r3 (.int ie) r5 m q∧Fit m q∧∀l p rs H',FreeIs q.B m.br m.cl q.fi l→H p=none→Keep [t.T_Plain_free] H H'→TbF t H'→H' p=some (.lst rs)→Tys H' m q rs (optN ie m q l)→Q (.ref p) H'
theorem q0K(T:Txt K mg t)(S:Fns K t)(B:BmIn base mg):S.Store_with_dead_page.Ok0 P w mg base 11 (spOp t):=by
 refine S.Store_with_dead_page.F.ok0 q0G λcdv A _ s H vs Q E hr h=>?_
 ·obtain⟨x,r2,r3,r5,m,q,ie,rfl,hs,ft,k⟩:=h
  have b2:=ft.oq.b2
  have eP:=ft.eP
  have sz:(16:Nat)<sizeLine:=by decide
  have fl:(jX q.B q.P m.br q.fi).length≤16:=mI (mD _ _) (mI (q1L (B:=q.B) (br:=m.br)) b2)
  refine⟨_,(qD (qL (yU ["self","tally"] [0] rfl (jP (j0 (pv 0) T.cl_Store T.m_Store_full_ones (zJ T S B).mono hr S.Store_full_ones.b .nil qK)) (λ_ _ _ _ _=>(qX (i:=1) (show List.Nodup (["self","tally"]:List Str)from by decide) rfl (Or.inl rfl))) (λ_ _ _ _ _=>(yD (qO q07 (qW (vS (K:=K) rfl) (pv 1) qG (λ_ _=>rfl)) (vD (K:=K) rfl (vD (K:=K) rfl (pv 0) rfl) rfl) (qR _)))) (λ_ _ _ _ _=>(pv 1)) (by kernel_rfl) (jQ (by decide))))),?_⟩
  try dsimp-beta-proj-iota-zeta-eta only[wishK,cxK]
  refine(iV rfl (iM hs.o rfl ⟨x,r2,r3,r5,m,q,ie,rfl,hs,ft,λl p0 rs H5 hl np k1 tb1 hd5 ty=>?_⟩))
  have h5:=hs.kT k1 tb1
  have kk:=λp rs H' np=>k l p rs H' hl np
  unfold optN at kk
  have fl':=mI (mD (λb=>decide (q.lv.getD b 0≤spcN ie l q.P q.fi (jG q.B q.P m.br q.fi))) _) fl
  generalize (jX q.B q.P m.br q.fi).filter (λb=>decide (q.lv.getD b 0≤spcN ie l q.P q.fi (jG q.B q.P m.br q.fi)))=L at kk ty fl'
  refine⟨p0,rfl,⟨_,SqL.of hd5⟩,λD3 H6 nD3 s6 hD3=>?_⟩
  refine uS (K:=K) (xs:=rs) (D:=D3) (λi H7=>∃rs',Same H5 H7∧H7 D3=some (.lst rs')∧rs'.length≤i∧Tys H5 m q rs' ((L.take i).filter λb=>decide (q.lv.getD b 0<(q.P:Int)))) ⟨_,s6,hD3,kN _,.nil⟩ (λi H7 hp=>by obtain⟨_,sm7,_⟩:=hp;exact SqL.of (sm7 _ _ hd5)) (λi y H7 hy hp=>?_) (λH7 hp=>?_)
  ·obtain⟨rs',sm7,hd7,ln,ty'⟩:=hp
   obtain⟨b,hb,tp,rfl,htp⟩:=Paired.at ty hy
   have hi:=(kC.mp hb).1
   obtain rfl:L[i]=b:=(kC.mp hb).2
   have h7:=h5.same sm7
   refine⟨_,rfl,iT (k:=_) (v:=_) (SqT.of (sm7 _ _ htp)) rfl (iV rfl (iF h7.o T.cl_Store T.na_Store_terms rfl (iF h7.te T.cl_Terms T.na_Terms_pages rfl (iI ⟨_,rfl,?_⟩))))⟩
   rw[eP,qF7 hi]
   by_cases z:q.lv.getD L[i] 0<(q.P:Int)
   ·rw[hC z,kF rfl]
    refine iteT ?_
    refine⟨_,rfl,_,hd7,by omega,_,λb o e=>?_,qI,?_,L2.Paired.snoc ty' ⟨tp,rfl,htp⟩⟩
    ·rw[qC (qF e nD3)]
     exact sm7 _ _ e
    ·rw[mC]
     exact pE ln 1
   ·rw[hG z,kB (by decide),gY]
    exact iteF ⟨_,sm7,hd7,by omega,ty'⟩
  ·obtain⟨rs',sm7,hd7,ln,ty'⟩:=hp
   rw[ty.len,gC]at ty'
   refine kk D3 rs' H7 ?_ (k1.trans (Keep.same sm7)) (tb1.same sm7) hd7 (qA0 (Keep.same (F:=[]) sm7) ty')
   refine k1.none (λz=>?_) nD3
   obtain⟨ps',hT',_⟩:=tb1
   rw[kI.mp z,hT']at nD3
   cases nD3
theorem vC(T:Txt K mg t)(S:Fns K t)(B:BmIn base mg):S.Store_options.Ok0 P w mg base 12 (spOp t):=by
 refine S.Store_options.F.ok0 q4R λcdv A _ s H vs Q E hr h=>?_
 ·obtain⟨x,r2,r3,r5,m,q,ie,rfl,hs,ft,k⟩:=h
  refine⟨_,(qD (qL (j0 (pv 0) T.cl_Store T.m_Store_with_dead_page (q0K T S B).mono hr S.Store_with_dead_page.b .nil qK))),?_⟩
  try dsimp-beta-proj-iota-zeta-eta only[wishK,cxK]
  exact(iV rfl (iM hs.o rfl ⟨x,r2,r3,r5,m,q,ie,rfl,hs,ft,k⟩))
theorem _root_.L2.ChipAt.has{C c:Addr}{a:CA}{m:CM}{H:Hp}(h:ChipAt C H c a m){b:Addr}(hb:b∈a.li::foot c a):∃o,H b=some o∧(b≠c→∀C d f,o≠ .ins C d f):=by
 obtain⟨rs,er,_⟩:=h.rc
 have hb:b=a.li∨b=c∨b=a.bo∨b=a.cl∨b=a.dc∨b=a.br∨b=a.rc:=by simpa[foot]using hb
 rcases hb with rfl|rfl|rfl|rfl|rfl|rfl|rfl
 ·exact⟨_,h.li,λ_ _ _ _ z=>by cases z⟩
 ·exact⟨_,h.ins,λn=>absurd rfl n⟩
 ·exact⟨_,h.bo,λ_ _ _ _ z=>by cases z⟩
 ·exact⟨_,h.cl,λ_ _ _ _ z=>by cases z⟩
 ·exact⟨_,h.dc,λ_ _ _ _ z=>by cases z⟩
 ·exact⟨_,h.br,λ_ _ _ _ z=>by cases z⟩
 ·exact⟨_,er,λ_ _ _ _ z=>by cases z⟩
theorem StAt.off{H:Hp}{x:Sto}{r2 r3 r4 r5:V}{m:CM}{q:QM}(h:StAt t H x r2 r3 r4 r5 m q){p:Addr}(n:H p=none):p∉t.T_Plain_free::sf x:=λz=>by
 obtain⟨rs,er,_⟩:=h.ch.rc
 obtain⟨ps,hT,_⟩:=h.tb
 have z:p=t.T_Plain_free∨p=x.c∨p=x.a.bo∨p=x.a.cl∨p=x.a.dc∨p=x.a.br∨p=x.a.rc∨p=x.k.bk∨p=x.k.wv∨p=x.k.lv∨p=x.k.fi∨p=x.k.bo:=by simpa[sf,bf,foot]using z
 rcases z with rfl|rfl|rfl|rfl|rfl|rfl|rfl|rfl|rfl|rfl|rfl|rfl
 ·rw[hT]at n;cases n
 ·rw[h.ch.ins]at n;cases n
 ·rw[h.ch.bo]at n;cases n
 ·rw[h.ch.cl]at n;cases n
 ·rw[h.ch.dc]at n;cases n
 ·rw[h.ch.br]at n;cases n
 ·rw[er]at n;cases n
 ·rw[h.bk.o]at n;cases n
 ·rw[h.bk.w]at n;cases n
 ·rw[h.bk.l]at n;cases n
 ·rw[h.bk.f]at n;cases n
 ·rw[h.bk.b]at n;cases n
noncomputable def spPi(t:Adr):Sp:=λvs H Q E=>∃x dx tm td c a r2 r3 r4 r5,∃m:CM,∃B P:Nat,vs=[.ref x,.ref c,.ref tm]∧H x=some (.ins t.C_Store dx [])∧H tm=some (.ins t.C_Terms td (teF (.int (B:Int)) (.int (P:Int)) r2 r3 r4 r5))∧ChipAt t.C_Chip H c a m∧m.bl=(B:Int)∧m.pg=(P:Int)∧B≤16∧TbF t H∧
 ∀k H',H' x=some (.ins t.C_Store dx [("chip",.ref c),("terms",.ref tm),("book",.ref k.bk)])→(∀ru pa H2,Keep [x] H' H2→H2 x=some (.ins t.C_Store dx [("chip",.ref c),("terms",.ref tm),("book",.ref k.bk),("rule",ru),("papers",pa)])→StAt t H2 ⟨x,dx,tm,td,c,a,k,ru,pa⟩ r2 r3 r4 r5 m (bk0 B P))→(∀b∈bf k,H b=none)→(∀b o,b≠x→H b=some o→H' b=some o)→Q .non H'
theorem q77(T:Txt K mg t)(S:Fns K t):S.Plain_init.Ok0 P w mg base 3 (spPi t):=by
 refine S.Plain_init.F.ok0 q6Y λcdv A _ s H vs Q E hr h=>?_
 ·obtain⟨x,dx,tm,td,c,a,r2,r3,r4,r5,m,B,P',rfl,hx,htm,hc,eB,eP,hB,tb,k⟩:=h
  refine⟨_,(qB (jB (PW.pt (q5R (qO q4W (qJ (pv 2) rfl) (qJ (pv 1) rfl) (qR _)) (q2Z (qO q4W (qJ (pv 2) rfl) (qJ (pv 1) rfl) (qR _))))) (qD jF) qQ) (qB (jO (pv 0) (pv 1) rfl) (qB (jO (pv 0) (pv 2) rfl) (qD (jO (pv 0) (q5J T.mk_Book (q8P T S).mono hr rfl T.mg_Book S.Book_init.b .nil qK (qA (qJ (pv 1) rfl) (qA (qJ (pv 1) rfl) qE))) rfl))))),?_⟩
  try dsimp-beta-proj-iota-zeta-eta only[wishK,cxK]
  refine(iV rfl (iF htm T.cl_Terms T.na_Terms_blocks rfl (iV rfl (iF hc.ins T.cl_Chip T.na_Chip_blocks rfl ⟨rfl,_,rfl,?_⟩))))
  rw[show(!decide (V.int (B:Int)=V.int m.bl))=false by rw[eB];simp]
  refine iteF ?_
  refine(iV rfl (iF htm T.cl_Terms T.na_Terms_pages rfl (iV rfl (iF hc.ins T.cl_Chip T.na_Chip_pages rfl ⟨rfl,_,rfl,?_⟩))))
  rw[show(!decide (V.int (P':Int)=V.int m.pg))=false by rw[eP];simp]
  refine iteF ?_
  refine⟨_,rfl,_,rfl,x,_,dx,_,rfl,hx,T.cl_Store,T.na_Store_chip,by decide,?_⟩
  refine⟨_,rfl,_,rfl,x,_,dx,_,rfl,qI,T.cl_Store,T.na_Store_terms,by show 1<1000;decide,?_⟩
  rw[q7W]
  have tx:tm≠x:=jS htm hx (by intro z;injection z with z1 z2 z3;unfold teF at z3;cases z3)
  have cx:c≠x:=jS hc.ins hx (by intro z;injection z with z1 z2 z3;unfold chF at z3;cases z3)
  have k1:∀b o,b≠x→H b=some o→(upd H x (.ins t.C_Store dx [("chip",.ref c),("terms",.ref tm)])) b=some o:=λb o nb e=>by
   rw[qC nb]
   exact e
  have o1:(upd H x (.ins t.C_Store dx [("chip",.ref c),("terms",.ref tm)])) x=some (.ins t.C_Store dx [("chip",.ref c),("terms",.ref tm)]):=qI
  have f1:∀b,(upd H x (.ins t.C_Store dx [("chip",.ref c),("terms",.ref tm)])) b=none→H b=none:=λb e=>by
   by_cases z:b=x
   ·rw[z,qI]at e
    cases e
   ·rw[qC z]at e
    exact e
  rw[show putF "terms" (.ref tm) (putF "chip" (.ref c) ([]:List (Str×V)))=([("chip",V.ref c),("terms",V.ref tm)]:List (Str×V))from rfl]
  generalize upd H x (.ins t.C_Store dx [("chip",.ref c),("terms",.ref tm)])=H1 at k1 o1 f1 ⊢
  have hc1:=k1 _ _ cx hc.ins
  refine(iV rfl (iF hc1 T.cl_Chip T.na_Chip_blocks rfl (iV rfl (iF hc1 T.cl_Chip T.na_Chip_pages rfl (λk' kd nk nkd nn=>?_)))))
  rw[eB,eP]
  refine⟨k',kd,B,P',rfl,hB,qI,λka H3 e1 e2 hb3 ds fr up=>⟨rfl,?_⟩⟩
  have s0:Same H1 (upd (upd H1 kd (.own k')) k' (.ins t.C_Book kd [])):=q5M nk nkd
  have up':∀b o,H1 b=some o→H3 b=some o:=λb o e=>up b o (qF e nk) (s0 b o e)
  refine⟨_,rfl,x,_,dx,_,rfl,up' _ _ o1,T.cl_Store,T.na_Store_book,by show 2<1000;decide,?_⟩
  have hx3:=up' _ _ o1
  have kx:ka.bk≠x:=by
   rw[e1]
   exact(qF o1 nk).symm
  have lH:∀b∈bf ka,H b=none:=λb hb=>by
   have hb:b=ka.bk∨b∈[ka.wv,ka.lv,ka.fi,ka.bo]:=by simpa[bf]using hb
   rcases hb with rfl|hb
   ·rw[e1]
    exact f1 _ nk
   ·exact f1 _ (Same.free s0 (fr b hb))
  have kpx:∀b o,b≠x→H3 b=some o→(upd H3 x (.ins t.C_Store dx (putF "book" (.ref k') [("chip",V.ref c),("terms",V.ref tm)]))) b=some o:=λb o nb e=>by
   rw[qC nb]
   exact e
  have up2:∀b o,b≠x→H b=some o→(upd H3 x (.ins t.C_Store dx (putF "book" (.ref k') [("chip",V.ref c),("terms",V.ref tm)]))) b=some o:=λb o nb e=>kpx b o nb (up' b o (k1 b o nb e))
  have nx:∀{b:Addr} {o:HO},H3 b=some o→(∀C d fs,o≠ .ins C d fs)→b≠x:=fun {b o} e n z=>by
   rw[z,hx3]at e
   exact n _ _ _ (kP e).symm
  have cfx:∀b∈a.li::foot c a,b≠x:=λb hb z=>by
   obtain⟨o,e,no⟩:=hc.has hb
   by_cases y:b=c
   ·exact cx (y.symm.trans z)
   ·rw[z,hx]at e
    exact no y _ _ _ (kP e).symm
  refine k ka _ (by rw[e1];exact qI) (λru pa H2 kk hx2=>?_) lH up2
  have kp2:∀b o,b≠x→H3 b=some o→H2 b=some o:=λb o nb e=>kk.k b o (by simpa using nb) (kpx b o nb e)
  have up3:∀b o,b≠x→H b=some o→H2 b=some o:=λb o nb e=>kk.k b o (by simpa using nb) (up2 b o nb e)
  have kK:Keep [x] H H2:=⟨λb o nb e=>up3 b o (λz=>nb (by rw[z];simp)) e,λb xs e=>up3 b _ (λz=>by rw[z,hx]at e;cases e) e⟩
  refine⟨hx2,?_,?_,?_,?_,ds,?_,?_⟩
  ·rw[eB,eP]
   exact up3 _ _ tx htm
  ·exact hc.keep kK (λb hb z=>cfx b hb (kI.mp z))
  ·exact⟨kp2 _ _ kx hb3.o,kp2 _ _ (nx hb3.w (λ_ _ _ z=>by cases z)) hb3.w,kp2 _ _ (nx hb3.l (λ_ _ _ z=>by cases z)) hb3.l,kp2 _ _ (nx hb3.f (λ_ _ _ z=>by cases z)) hb3.f,kp2 _ _ (nx hb3.b (λ_ _ _ z=>by cases z)) hb3.b⟩
  ·obtain⟨ps,hT,h⟩:=tb
   refine⟨ps,up3 _ _ (λz=>by rw[z,hx]at hT;cases hT) hT,?_⟩
   rcases h with h|⟨c',h,hcd⟩
   ·exact .inl h
   ·exact .inr ⟨c',h,up3 _ _ (λz=>by rw[z,hx]at hcd;cases hcd) hcd⟩
  ·intro b hb z
   obtain⟨o,e,_⟩:=hc.has hb
   rw[lH b z]at e
   cases e
  ·intro b hb z
   have hb:b=x∨b=tm:=by simpa using hb
   have y0:b∈foot c a∨b∈bf ka:=by simpa[sf]using z
   clear z
   rcases y0 with z|z
   ·rcases hb with rfl|rfl
    ·exact cfx _ (hU _ z) rfl
    ·obtain⟨o,e,no⟩:=hc.has (hU _ z)
     by_cases y:b=c
     ·rw[y,hc.ins]at htm
      have htm:=kP htm
      injection htm with z1 z2 z3
      unfold chF teF at z3
      have:=g0 List.length z3
      simp at this
     ·rw[htm]at e
      exact no y _ _ _ (kP e).symm
   ·have n:=lH b z
    rcases hb with rfl|rfl
    ·rw[hx]at n;cases n
    ·rw[htm]at n;cases n
noncomputable def spSi(t:Adr):Sp:=λvs H Q E=>∃x dx tm td c a r2 r3 r4 r5 ru,∃m:CM,∃B P:Nat,vs=[.ref x,.ref c,.ref tm,ru]∧H x=some (.ins t.C_Store dx [])∧H tm=some (.ins t.C_Terms td (teF (.int (B:Int)) (.int (P:Int)) r2 r3 r4 r5))∧ChipAt t.C_Chip H c a m∧m.bl=(B:Int)∧m.pg=(P:Int)∧B≤16∧TbF t H∧
 ∀k p H',StAt t H' ⟨x,dx,tm,td,c,a,k,ru,.ref p⟩ r2 r3 r4 r5 m (bk0 B P)→H' p=some (.lst [])→H p=none→(∀b∈bf k,H b=none)→p∉t.T_Plain_free::sf ⟨x,dx,tm,td,c,a,k,ru,.ref p⟩→(∀b o,b≠x→H b=some o→H' b=some o)→Q .non H'
theorem q78(T:Txt K mg t)(S:Fns K t):S.Store_init.Ok0 P w mg base 4 (spSi t):=by
 refine S.Store_init.F.ok0 q71 λcdv A _ s H vs Q E hr h=>?_
 ·obtain⟨x,dx,tm,td,c,a,r2,r3,r4,r5,ru,m,B,P',rfl,hx,htm,hc,eB,eP,hB,tb,k⟩:=h
  refine⟨_,(qB (qZ (qJG T.ci_Plain (q77 T S).mono hr rfl T.mg_Plain S.Plain_init.b .nil qK (qA (pv 0) (qA (pv 1) (qA (pv 2) qE))))) (qB (jO (pv 0) (pv 3) rfl) (qD (jO (pv 0) (jZ qE) rfl)))),?_⟩
  try dsimp-beta-proj-iota-zeta-eta only[wishK,cxK]
  refine⟨_,rfl,_,rfl,_,rfl,x,dx,tm,td,c,a,r2,r3,r4,r5,m,B,P',rfl,hx,htm,hc,eB,eP,hB,tb,λka H1 hx1 st fk up=>?_⟩
  refine⟨_,rfl,_,rfl,x,_,dx,_,rfl,hx1,T.cl_Store,T.na_Store_rule,by show 3<1000;decide,?_⟩
  refine⟨sz0,λp H2 np s2 h2=>?_⟩
  have px:p≠x:=λz=>by rw[z,qI]at np;cases np
  rw[qC px]at np
  have hx2:=s2 _ _ qI
  refine⟨_,rfl,x,_,dx,_,rfl,hx2,T.cl_Store,T.na_Store_papers,by show 4<1000;decide,?_⟩
  have stA:=st ru .non (upd H1 x (.ins t.C_Store dx [("chip",.ref c),("terms",.ref tm),("book",.ref ka.bk),("rule",ru),("papers",.non)])) (Keep.upd hx1 (λ_ z=>by cases z) (by simp)) qI
  have off:=stA.off (p:=p) (by rw[qC px];exact np)
  have kA:Keep [x] H1 (upd H2 x (.ins t.C_Store dx (putF "papers" (.ref p) (putF "rule" ru [("chip",.ref c),("terms",.ref tm),("book",.ref ka.bk)])))):=((Keep.upd hx1 (λ_ z=>by cases z) (by simp)).trans (Keep.same s2)).trans (Keep.upd hx2 (λ_ z=>by cases z) (by simp))
  refine k ka p _ (st ru (.ref p) _ kA qI) (by rw[qC px];exact h2) ?_ fk off (λb o nb e=>kA.k b o (by simpa using nb) (up b o nb e))
  cases e:H p with
  |none=>rfl
  |some o=>
   rw[up p o px e]at np
   cases np
noncomputable def spEm(t:Adr):Sp:=λvs H Q _=>∃a,∃m:QM,∃b,vs=[.ref a.bk,.int ((b:Nat):Int)]∧BkAt t H a m∧m.Ok∧Dst a∧b<m.B∧∀H',BkAt t H' a (m.emptied b)→Keep [a.fi,a.bo] H H'→Q .non H'
theorem q5F(T:Txt K mg t)(S:Fns K t):S.Book_emptied.Ok0 P w mg base 1 (spEm t):=by
 refine S.Book_emptied.F.ok0 q58 λcdv A _ s H vs Q E hr h=>?_
 ·obtain⟨a,m,b,rfl,hb,ok,ds,hB,q⟩:=h
  have of':a.bk≠a.fi:=jS hb.o hb.f (by intro z;cases z)
  have oo:a.bk≠a.bo:=jS hb.o hb.b (by intro z;cases z)
  have wf:a.wv≠a.fi:=jS hb.w hb.f (by intro z;cases z)
  have wb:a.wv≠a.bo:=jS hb.w hb.b (by intro z;cases z)
  have hbf:b<m.fi.length:=by rw[ok.lf];exact hB
  have hbo:b<m.bo.length:=by rw[ok.lo];exact hB
  refine⟨_,(qB (q31 qG (q4B (qJ (pv 0) rfl) (pv 1) yZ)) (qD (q31 qG (q4B (qJ (pv 0) rfl) (pv 1) yZ)))),?_⟩
  try dsimp-beta-proj-iota-zeta-eta only[wishK,cxK]
  refine(iV rfl (iF hb.o T.cl_Book T.na_Book_filled rfl ⟨_,rfl,a.fi,_,_,b,rfl,rfl,hb.f,q33 (by rw[hI];exact hbf),?_⟩))
  rw[setV]
  have b1:(upd H a.fi (.lst ((m.fi.set b 0).map V.int))) a.bo=some (.lst (m.bo.map V.int)):=by rw[qC ds.fb.symm];exact hb.b
  have o1':∀o,H a.bk=some o→(upd H a.fi (.lst ((m.fi.set b 0).map V.int))) a.bk=some o:=λo e=>by rw[qC of'];exact e
  have o1:=o1' _ hb.o
  refine(iV rfl (iF o1 T.cl_Book T.na_Book_born rfl ⟨_,rfl,a.bo,_,_,b,rfl,rfl,b1,q33 (by rw[hI];exact hbo),?_⟩))
  rw[setV]
  refine q _ ⟨?_,?_,?_,?_,?_⟩ (Keep.trans (H1:=upd H a.fi (.lst ((m.fi.set b 0).map V.int))) (Keep.upd hb.f (λ_ z=>by cases z) (by simp)) (Keep.upd b1 (λ_ z=>by cases z) (by simp)))
  ·rw[qC oo]
   exact o1
  ·rw[qC wb,qC wf]
   exact hb.w
  ·rw[qC ds.lb,qC ds.lf]
   exact hb.l
  ·rw[qC ds.fb]
   exact qI
  ·exact qI
noncomputable def lpK(P b:Nat)(V:Mp):List (List Int):=(V.filter λq=>decide (q.2 / (P:Int)=(b:Int))).map λq=>[q.2,q.1]
theorem qA1{P b:Nat}{V:Mp}{q:Int×Int}:lpK P b (V++[q])=if q.2 / (P:Int)=(b:Int)then lpK P b V++[[q.2,q.1]]else lpK P b V:=by
 unfold lpK
 rw[gH,mV]
 by_cases e:q.2 / (P:Int)=(b:Int)
 ·rw[kF e]
  simp[e]
 ·rw[kB e]
  simp[e]
noncomputable def spLp(t:Adr):Sp:=λvs H Q _=>∃a,∃m:QM,∃b,vs=[.ref a.bk,.int ((b:Nat):Int)]∧BkAt t H a m∧m.Ok∧m.V.length<64∧∀l us rs H',Same H H'→H l=none→H' l=some (.lst us)→Paired (TupD H') us rs→rs.Perm (lpK m.P b m.V)→(rs.Pairwise λa b=>lx b a=false)→Q (.ref l) H'
theorem q3G(T:Txt K mg t)(S:Fns K t):S.Book_live_pages.Ok0 P w mg base 1 (spLp t):=by
 refine S.Book_live_pages.F.ok0 q3B λcdv A _ s H vs Q E hr h=>?_
 ·obtain⟨a,m,b,rfl,hb,ok,lV,q⟩:=h
  have hu:=q1G hr
  have p1:=ok.p1
  have p2:=ok.p2
  have ob:a.bk≠a.wv:=jS hb.o hb.w (by intro z;cases z)
  refine⟨_,(qD (qL (j8 q88 (by rfl) T.b_sorted (by kernel_rfl) (qA (qBD (yU ["self","block","name","page"] [0,1] rfl (qJ0 (qDD dY PySem.F.slot_dict_items PySem.F.type_dict_items qEC (qJ (pv 0) rfl))) (λ_ _ _ _ _=>(qG3 (K:=K) (n:=2) rfl rfl (yX (qX (i:=2) (show List.Nodup (["self","block","name","page"]:List Str)from by decide) rfl (Or.inl rfl)) (yX (qX (i:=3) (show List.Nodup (["self","block","name","page"]:List Str)from by decide) rfl (Or.inl rfl)) q3J)) rfl rfl)) (λ_ _ _ _ _=>(yD (qO uN (qS uF (pv 3) (vD (K:=K) rfl (pv 0) rfl)) (pv 1) (qR _)))) (λ_ _ _ _ _=>(uQ (qA (pv 3) (qA (pv 2) qE)))) (by kernel_rfl) (qFW (q9F (by decide) (q9F (by decide) qFV))))) qE)))),?_⟩
  try dsimp-beta-proj-iota-zeta-eta only[wishK,cxK]
  refine⟨a.wv,_,hb.w,iV rfl (iF hb.o T.cl_Book T.na_Book_where rfl ⟨.inr (.inr (.inl ⟨rfl,.inl ⟨_,hb.w⟩⟩)),a.wv,_,rfl,rfl,hb.w,λv nv=>?_⟩)⟩
  have sv:Same H (upd H v (q51 v a.wv)):=Same.upd nv
  have vv:(upd H v (q51 v a.wv)) v=some (q51 v a.wv):=qI
  generalize upd H v (q51 v a.wv)=H1 at sv vv ⊢
  refine⟨v,a.wv,_,rfl,vv,sv _ _ hb.w,λo D H2 nD s2 hD=>?_⟩
  have kk:∀x u,x≠a.wv→H x=some u→H2 x=some u:=λx u nx e=>s2 _ _ (by rw[qC nx];exact sv _ _ e)
  have fz:H2 a.wv=some (.frz o (.dK (dI m.V))):=s2 _ _ qI
  have nDH:H D=none:=by
   cases z:H D with
   |none=>rfl
   |some u=>
    by_cases y:D=a.wv
    ·rw[y,qI]at nD
     cases nD
    ·rw[qC y,sv _ _ z]at nD
     cases nD
  have Dw:D≠a.wv:=λz=>by rw[z,fz]at hD;cases hD
  refine qG4 (D:=D) (λi H3=>H3 a.wv=some (.frz o (.dK (dI m.V)))∧(∀x u,x≠a.wv→H x=some u→H3 x=some u)∧∃us,H3 D=some (.lst us)∧Paired (TupD H3) us (lpK m.P b (m.V.take i))) ⟨fz,kk,[],hD,.nil⟩ (λi H3 hp=>hp.1) (λi kv W H3 hk hp nW=>?_) (λH3 hp=>?_)
  ·obtain⟨fz3,k3,us,hd,pr⟩:=hp
   have hi:i<m.V.length:=by
    have:=(kC.mp hk).1
    rw[q6N]at this
    exact this
   obtain rfl:((Sum.inl m.V[i].1:Key),V.int m.V[i].2)=kv:=by
    have e:(dI m.V)[i]?=some ((Sum.inl m.V[i].1:Key),V.int m.V[i].2):=by unfold dI;rw[mB,hV hi];rfl
    rw[e]at hk
    exact kP hk
   have sW:Same H3 (upd H3 W (.tup [.int m.V[i].1,.int m.V[i].2])):=Same.upd nW
   have hW:(upd H3 W (.tup [.int m.V[i].1,.int m.V[i].2])) W=some (.tup [.int m.V[i].1,.int m.V[i].2]):=qI
   show gTup _ _ _ _ _ (upd H3 W (.tup [.int m.V[i].1,.int m.V[i].2])) _
   generalize upd H3 W (.tup [.int m.V[i].1,.int m.V[i].2])=H4 at sW hW ⊢
   refine⟨W,_,rfl,SqT.of hW,rfl,_,_,rfl,_,_,rfl,rfl,?_⟩
   refine⟨_,rfl,iV rfl (iF (sW _ _ (k3 _ _ ob hb.o)) T.cl_Book T.na_Book_pages rfl (iI ⟨⟨by omega,by omega⟩,_,rfl,rfl,_,rfl,?_⟩))⟩
   rw[yF]
   have tk:m.V.take (i+1)=m.V.take i++[m.V[i]]:=(mE hi).symm
   by_cases e:m.V[i].2 / (m.P:Int)=(b:Int)
   ·rw[hC e]
    refine iteT ?_
    refine⟨_,rfl,_,rfl,sz2,λtp H5 n5 s5 h5=>?_⟩
    have s35:=sW.trans s5
    have hd5:=s35 _ _ hd
    have lu:us.length≤64:=by
     have:=pr.len
     have l2:(lpK m.P b (m.V.take i)).length≤(m.V.take i).length:=by unfold lpK;rw[hI];exact mD _ _
     rw[gE]at l2
     omega
    refine⟨us,hd5,(by have:(64:Nat)<sizeLine:=by decide
                      omega),?_,λx u nx e'=>?_,us++[.ref tp],qI,?_⟩
    ·rw[qC Dw.symm]
     exact s35 _ _ fz3
    ·rw[qC (qF e' nDH)]
     exact s35 _ _ (k3 _ _ nx e')
    ·rw[tk,qA1,kF e]
     exact L2.Paired.snoc (Paired.mapP (yL pr s35) λx k z=>z.upd hd5 (λ_ q=>by cases q)) (TupD.upd ⟨tp,rfl,h5⟩ hd5 (λ_ q=>by cases q))
   ·rw[hG e]
    refine iteF ?_
    refine⟨sW _ _ fz3,λx u nx e'=>sW _ _ (k3 _ _ nx e'),us,sW _ _ hd,?_⟩
    rw[tk,qA1,kB e]
    exact yL pr sW
  ·obtain⟨fz3,k3,us,hd,pr⟩:=hp
   rw[q6N,gC]at pr
   refine⟨o,_,fz3,?_⟩
   have sH:Same H (upd H3 a.wv (.dK (dI m.V))):=qEI hb.w k3
   have hd4:(upd H3 a.wv (.dK (dI m.V))) D=some (.lst us):=by rw[qC Dw];exact hd
   have pr4:Paired (TupD (upd H3 a.wv (.dK (dI m.V)))) us (lpK m.P b m.V):=Paired.mapP pr λx k z=>z.upd fz3 (λ_ q=>by cases q)
   generalize upd H3 a.wv (.dK (dI m.V))=H4 at sH hd4 pr4 ⊢
   have hl:(lpK m.P b m.V).length<64:=by
    unfold lpK
    rw[hI]
    exact dD (mD _ _) lV
   have ul:=pr4.len
   refine⟨D,us,lpK m.P b m.V,2,rfl,SqL.of hd4,qBL pr4,λk hk=>?_,by decide,by omega,λqs pp pw l H5 n5 s5 h5=>?_⟩
   ·unfold lpK at hk
    obtain⟨x,_,rfl⟩:=kO.mp hk
    rfl
   ·refine q l _ _ H5 (sH.trans s5) (sH.free n5) h5 (qAL (yL pr4 s5) λi hi=>mP.mp (pp.mem_iff.mp hi)) (qAK ul.symm pp) pw
theorem qBZ(xs:List V)(i:Nat):∀n p,(clr xs i n).getD p .non=if i≤p∧p<i+n then .non else xs.getD p .non
 |0,p=>by rw[kB (by omega)];rfl
 |n+1,p=>by
  show((clr xs i n).set (i+n) .non).getD p .non=_
  rw[jA,qBZ xs i n p]
  by_cases e:i+n=p
  ·subst e
   rw[kF (show i≤i+n∧i+n<i+(n+1) by omega),kB (show ¬(i≤i+n∧i+n<i+n) by omega)]
   by_cases z:i+n<(clr xs i n).length
   ·rw[kF ⟨rfl,z⟩]
   ·rw[kB (λy=>z y.2)]
    rw[q3Q]at z
    rw[kJ,dA (by omega)]
    rfl
  ·rw[kB (λy=>e y.1)]
   by_cases z:i≤p∧p<i+n
   ·rw[kF z,kF (by omega)]
   ·rw[kB z,kB (by omega)]
structure PgAt(H:Hp)(bs:List V)(pg:Nat→Option (Int×Int)):Prop where
 n:∀i,pg i=none→bs.getD i .non=.non
 v:∀i v,pg i=some v→∃tp,bs.getD i .non=.ref tp∧H tp=some (.tup [.int v.1,.int v.2])
theorem PgAt.keep{F:List Addr}{H H':Hp}{bs:List V}{pg:Nat→Option (Int×Int)}(h:PgAt H bs pg)(k:Keep F H H'):PgAt H' bs pg:=⟨h.n,λi v e=>by
 obtain⟨tp,e1,e2⟩:=h.v i v e
 exact⟨tp,e1,k.tp _ _ e2⟩⟩
structure Cm(m:CM)(s:XS):Prop where
 ft:Fit m s.q
 br:m.br=noB s.q.B
 li:∀b,valV m.lim (Sum.inl b)=none
 mo:m.mo=1000000
 cl:m.cl=s.cl
 lf:m.lf=s.lf
 rc:m.rc=s.rc
theorem Cm.gd{m:CM}{s:XS}(h:Cm m s):Gd m:=⟨λb=>by rw[h.br];exact rep8,h.li⟩
structure XR(t:Adr)(H:Hp)(x:Sto)(k:Tm)(sh sr:Int)(s:XS):Prop where
 e:∃m:CM,StAt t H x (.int sh) (.int sr) (.int (k.ie:Int)) (.int k.sp) m s.q∧Cm m s∧PgAt H m.bo s.pg
 w:WX k s
theorem Cm.pgs{m:CM}{s:XS}(h:Cm m s){b f:Nat}(hb:b<s.q.B)(hf:f<s.q.P):((b*s.q.P+f:Nat):Int)≤m.bl*m.pg-1∧b*s.q.P+f<m.bo.length:=by
 have nbo:=h.ft.ok.nbo
 rw[h.ft.eB,h.ft.eP,←gZ]at *
 have:b*s.q.P+f<s.q.B*s.q.P:=(Nat.div_lt_iff_lt_mul (by omega)).mp (by rw[yE hf];exact hb)
 omega
section
variable{H H':Hp}{x:Sto}{k:Tm}{sh sr:Int}{s:XS}
theorem XR.keep(j:XR t H x k sh sr s){F:List Addr}(kk:Keep F H H')(n:∀b∈[x.s,x.tm]++(x.a.li::sf x),b∉F)(tb:TbF t H'):XR t H' x k sh sr s:=by
 obtain⟨m,st,c,pg⟩:=j.e
 exact⟨⟨m,st.keep kk n tb,c,pg.keep kk⟩,j.w⟩
theorem XR.kT(j:XR t H x k sh sr s)(kk:Keep [t.T_Plain_free] H H')(tb:TbF t H'):XR t H' x k sh sr s:=by
 obtain⟨m,st,c,pg⟩:=j.e
 exact⟨⟨m,st.kT kk tb,c,pg.keep kk⟩,j.w⟩
theorem XR.tb(j:XR t H x k sh sr s):TbF t H:=by
 obtain⟨m,st,c,pg⟩:=j.e
 exact st.tb
theorem XR.same(j:XR t H x k sh sr s)(ss:Same H H'):XR t H' x k sh sr s:=by
 obtain⟨m,st,c,pg⟩:=j.e
 exact⟨⟨m,st.same ss,c,pg.keep (F:=[]) (Keep.same ss)⟩,j.w⟩
theorem XR.o(j:XR t H x k sh sr s):H x.s=some (.ins t.C_Store x.sd [("chip",.ref x.c),("terms",.ref x.tm),("book",.ref x.k.bk),("rule",x.ru),("papers",x.pa)]):=by
 obtain⟨m,st,c,pg⟩:=j.e
 exact st.o
theorem XR.inH(j:XR t H x k sh sr s):∀y∈t.T_Plain_free::sf x,∃o,H y=some o:=λy hy=>by
 obtain⟨m,hs,_⟩:=j.e
 rcases kL.mp hy with e|e
 ·obtain⟨pt,hT,_⟩:=hs.tb
  exact⟨_,by rw[e];exact hT⟩
 ·unfold sf at e
  rcases gM.mp e with e|e
  ·obtain⟨o,ho,_⟩:=hs.ch.has (hU _ e)
   exact⟨o,ho⟩
  ·have e:y=x.k.bk∨y=x.k.wv∨y=x.k.lv∨y=x.k.fi∨y=x.k.bo:=by simpa[bf]using e
   rcases e with rfl|rfl|rfl|rfl|rfl
   ·exact⟨_,hs.bk.o⟩
   ·exact⟨_,hs.bk.w⟩
   ·exact⟨_,hs.bk.l⟩
   ·exact⟨_,hs.bk.f⟩
   ·exact⟨_,hs.bk.b⟩
theorem XR.off(j:XR t H x k sh sr s){p:Addr}(n:H p=none):p∉t.T_Plain_free::sf x:=λz=>by
 obtain⟨o,e⟩:=j.inH p z
 rw[n]at e
 cases e
theorem TbF.updL{H:Hp}{p:Addr}{xs:List V}{o:HO}(h:TbF t H)(e:H p=some (.lst xs)):TbF t (upd H p o):=by
 obtain⟨ps,hT,h⟩:=h
 refine⟨ps,by rw[qC (jS hT e (by intro z;cases z))];exact hT,?_⟩
 rcases h with h|⟨c,h,hc⟩
 ·exact .inl h
 ·exact .inr ⟨c,h,by rw[qC (jS hc e (by intro z;cases z))];exact hc⟩
theorem XR.lst(j:XR t H x k sh sr s){p:Addr}{xs:List V}{o:HO}(e:H p=some (.lst xs))(np:p∉t.T_Plain_free::sf x):XR t (upd H p o) x k sh sr s:=by
 obtain⟨m,st,_⟩:=j.e
 have k:=Keep.upd (F:=[p]) (o:=o) e (λ_ z=>by cases z) (by simp)
 refine j.keep k (λy hy z=>?_) (TbF.updL st.tb e)
 rw[kI.mp z]at hy
 rcases gM.mp hy with hy|hy
 ·have hy:p=x.s∨p=x.tm:=by simpa using hy
  rcases hy with h|h
  ·rw[h,st.o]at e;cases e
  ·rw[h,st.te]at e;cases e
 ·rcases kL.mp hy with h|h
  ·rw[h,st.ch.li]at e;cases e
  ·exact np (hU _ h)
theorem XR.set(j:XR t H x k sh sr s){n v:Int}(n0:0≤n)(n1:n≤64)(rc:s.rc.length<1000000)(hr:k.ie*s.q.P<s.rmX)(hl:(∃p,(n,p)∈s.q.V)∨s.q.V.length<59){Q:VK}{E:XK}
 (dk:s.lf=some 0→∀H',XR t H' x k sh sr s→Keep (t.T_Plain_free::sf x) H H'→E (.ref t.C_PowerGone) none H')
 (kk:s.lf≠some 0→∀H',XR t H' x k sh sr (s.put n v)→Keep (t.T_Plain_free::sf x) H H'→Q (.int (s.np:Int)) H'):qBX t [.ref x.s,.int n,.int v] H Q E:=by
 obtain⟨m,st,c,pg⟩:=j.e
 obtain⟨hb,hf,ef,_,sp⟩:=j.w.spot (by omega)
 obtain⟨hp1,hp2⟩:=c.pgs hb hf
 refine⟨x,_,_,_,_,m,s.q,n,v,rfl,st,c.ft,c.gd,by rw[c.rc];exact rc,λl hfr=>⟨s.pb,s.pf,?_,ef,pg.n _ (j.w.cr _ _ hb (by omega) hf),λz H' k' st'=>dk (by rw[←c.lf];exact z) H' ⟨⟨m,st',c,pg.keep k'⟩,j.w⟩ k',λz tp H' htp k' st'=>?_⟩⟩
 ·rw[c.br]at hfr ⊢
  rw[c.cl]at hfr
  exact sp l hfr
 ·have dk':s.lf≠some 0:=by rw[←c.lf];exact z
  obtain⟨w',_⟩:=j.w.put (v:=v) hr n0 n1 hl dk'
  have okd:(m.deed "put" ((s.pb*s.q.P+s.pf:Nat):Int) (((s.pb*s.q.P+s.pf:Nat):Int) / m.pg) false).Ok:=c.ft.ok.deed (by rw[c.rc];exact rc)
  refine kk dk' H' ⟨⟨_,st',⟨⟨⟨okd.bl1,okd.bl2,okd.pg1,okd.pg2,?_,okd.ncl,okd.ndc,okd.nbr,okd.lim,okd.nrc⟩,w'.qs.ok,c.ft.eB,c.ft.eP⟩,c.br,c.li,c.mo,c.cl,?_,?_⟩,⟨λi e=>?_,λi w e=>?_⟩⟩,w'⟩ k'
  ·show((m.bo.set _ _).length:Int)=_
   rw[gF]
   exact c.ft.ok.nbo
  ·show m.lf.map _=_
   rw[c.lf]
   rfl
  ·show m.rc++[_]=_
   rw[c.rc]
   rfl
  ·have e:(if i=s.np then some (s.q.nx*128+n,v)else s.pg i)=none:=e
   show(m.bo.set (s.pb*s.q.P+s.pf) (.ref tp)).getD i .non=.non
   by_cases z:i=s.np
   ·rw[kF z]at e
    cases e
   ·rw[kB z]at e
    rw[jA,kB (λy=>z y.1.symm)]
    exact pg.n i e
  ·have e:(if i=s.np then some (s.q.nx*128+n,v)else s.pg i)=some w:=e
   show ∃tq,(m.bo.set (s.pb*s.q.P+s.pf) (.ref tp)).getD i .non=.ref tq∧_
   by_cases z:i=s.np
   ·rw[kF z]at e
    cases e
    exact⟨tp,by rw[jA,kF ⟨z.symm,hp2⟩],htp⟩
   ·rw[kB z]at e
    obtain⟨tq,e1,e2⟩:=pg.v i w e
    exact⟨tq,by rw[jA,kB (λy=>z y.1.symm)];exact e1,k'.tp _ _ e2⟩
end
noncomputable def spCo(t:Adr):Sp:=λvs H Q E=>∃x k sh sr s,∃b:Nat,vs=[.ref x.s,.int (b:Int)]∧XR t H x k sh sr s∧b<s.q.B∧s.q.fi.getD b 0=(s.q.P:Int)∧s.rc.length<1000000∧(∀y∈s.q.V,¬y.2 / (s.q.P:Int)=(b:Int))∧
 (s.lf=some 0→E (.ref t.C_PowerGone) none H)∧(s.lf≠some 0→∀H',XR t H' x k sh sr (s.wip b)→Keep (t.T_Plain_free::sf x) H H'→Q .non H')
theorem q3H(T:Txt K mg t)(S:Fns K t):S.Store_clear_out.OkE P w mg base 5 (spCo t):=by
 refine S.Store_clear_out.F.okE q3C (λvs H Q E h=>?_) (λcdv A outer s H vs Q E hr h=>?_)
 ·repeat obtain⟨_,h⟩:=h
  all_goals subst_vars;rfl
 ·obtain⟨x,k,sh,sr,s,b,rfl,j,hb,ef,rc,nl,dk,kk⟩:=h
  obtain⟨m,hs,c,pg⟩:=j.e
  have eB:=c.ft.eB
  have clb:=(j.w.c0 b).2
  refine⟨_,(qB (qZ (jW jH (qJ (pv 0) rfl) T.cl_Chip T.m_Chip_wipe (q43 T S).mono hr S.Chip_wipe.b .nil (qA (pv 1) qE))) (qD (qZ (jE (qJ (pv 0) rfl) T.cl_Book T.m_Book_emptied (q5F T S).mono hr S.Book_emptied.b .nil qK (qA (pv 1) qE))))),?_⟩
  try dsimp-beta-proj-iota-zeta-eta only[wishK,cxK]
  refine(iV rfl (iF hs.o T.cl_Store T.na_Store_chip rfl (iM hs.ch.ins rfl ⟨_,rfl,x.c,x.a,m,_,rfl,hs.ch,c.ft.ok,by rw[c.rc];exact rc,c.gd,by omega,by rw[c.mo,c.cl];omega,λz=>dk (by rw[←c.lf];exact z),λz H1 hc1 k1=>?_⟩)))
  have dk':s.lf≠some 0:=by rw[←c.lf];exact z
  have hs1:=hs.put hc1 k1 rfl rfl
  refine(iV rfl (iF hs1.o T.cl_Store T.na_Store_book rfl (iM hs1.bk.o rfl ⟨_,rfl,x.k,s.q,b,rfl,hs1.bk,j.w.qs.ok,hs1.ds,hb,λH2 hb2 k2=>?_⟩)))
  have k2':Keep (bf x.k) H1 H2:=k2.mono (by intro y hy;simp[bf]at hy ⊢;rcases hy with rfl|rfl<;>simp)
  have kA:Keep (t.T_Plain_free::sf x) H H2:=(k1.mono (λy hy=>by unfold sf;exact hU _ (gU _ hy))).trans (k2'.mono (λy hy=>by unfold sf;exact hU _ (mJ _ hy)))
  have hs2:=hs1.note hb2 k2'
  obtain⟨w',_⟩:=j.w.wip hb ef nl dk'
  have okd:(m.deed "wipe" (b:Int) (b:Int) false).Ok:=c.ft.ok.deed (by rw[c.rc];exact rc)
  have gbo:∀p,(wipC m b).bo.getD p .non=if p / s.q.P=b then .non else m.bo.getD p .non:=λp=>by
   show(clr m.bo ((b:Int)*m.pg).toNat m.pg.toNat).getD p .non=_
   have p1:=j.w.qs.ok.p1
   rw[c.ft.eP,←gZ,kY,kY,qBZ]
   have:(b*s.q.P≤p∧p<b*s.q.P+s.q.P)↔p / s.q.P=b:=by
    rw[Nat.div_eq_iff (by omega)]
    generalize b*s.q.P=z
    omega
   by_cases z:p / s.q.P=b
   ·rw[kF z,kF (this.mpr z)]
   ·rw[kB z,kB (λy=>z (this.mp y))]
  refine kk dk' H2 ⟨⟨_,hs2,⟨⟨⟨okd.bl1,okd.bl2,okd.pg1,okd.pg2,?_,?_,okd.ndc,okd.nbr,okd.lim,okd.nrc⟩,w'.qs.ok,c.ft.eB,c.ft.eP⟩,c.br,c.li,c.mo,?_,?_,?_⟩,⟨λi e=>?_,λi w e=>?_⟩⟩,w'⟩ kA
  ·show((clr m.bo _ _).length:Int)=_
   rw[q3Q]
   exact c.ft.ok.nbo
  ·show((m.cl.set _ _).length:Int)=_
   rw[gF]
   exact c.ft.ok.ncl
  ·show m.cl.set b (m.cl.getD b 0+1)=_
   rw[c.cl]
   rfl
  ·show m.lf.map _=_
   rw[c.lf]
   rfl
  ·show m.rc++[_]=_
   rw[c.rc]
   rfl
  ·have e:(if i / s.q.P=b then none else s.pg i)=none:=e
   rw[gbo]
   by_cases z:i / s.q.P=b
   ·rw[kF z]
   ·rw[kB z]at e ⊢
    exact pg.n i e
  ·have e:(if i / s.q.P=b then none else s.pg i)=some w:=e
   rw[gbo]
   by_cases z:i / s.q.P=b
   ·rw[kF z]at e
    cases e
   ·rw[kB z]at e ⊢
    obtain⟨tq,e1,e2⟩:=pg.v i w e
    exact⟨tq,e1,kA.tp _ _ e2⟩
theorem q6R(T:Txt K mg t)(S:Fns K t):S.Store_wiped.OkE P w mg base 6 (λvs H Q E=>spCo t vs H (λv H'=>v=.non∧Q (.bl true) H') E):=by
 refine S.Store_wiped.F.okE q6I (λvs H Q E h=>?_) (λcdv A outer s H vs Q E hr h=>?_)
 ·repeat obtain⟨_,h⟩:=h
  all_goals subst_vars;rfl
 ·obtain⟨x,k,sh,sr,s,b,rfl,j,hb,ef,rc,nl,dk,kk⟩:=h
  refine⟨_,(qB (qZ (jW jH (pv 0) T.cl_Store T.m_Store_clear_out (q3H T S).mono hr S.Store_clear_out.b .nil (qA (pv 1) qE))) (qD (qL q2T))),?_⟩
  try dsimp-beta-proj-iota-zeta-eta only[wishK,cxK]
  exact(iV rfl (iM j.o rfl ⟨_,rfl,x,k,sh,sr,s,b,rfl,j,hb,ef,rc,nl,dk,λz H' j' k'=>(kk z H' j' k').2⟩))
theorem qF8{s:XS}{ns:List Int}(h:HeldIs s.q ns):ns=s.hl:=by
 refine qBK (h.pm.trans (List.mergeSort_perm _ _).symm) h.so ?_
 have:=List.pairwise_mergeSort (le:=λa b:Int=>decide (a≤b)) (λa b c h1 h2=>hC (pR (mL h1) (mL h2))) (λa b=>by
  by_cases z:a≤b
  ·rw[hC z];rfl
  ·rw[hG z,hC (show b≤a by omega)];rfl) (hdN s.q.V)
 exact this.imp λz=>mL z
theorem hd64{k:Tm}{s:XS}(w:WX k s):(hdN s.q.V).length<64:=by
 unfold hdN
 refine dD (mD _ _) ?_
 have:=w.l6
 rw[hI]
 omega
theorem qHG{k:Tm}{s:XS}(w:WX k s):∀y∈s.hl,0≤y∧y<64:=λy hy=>by
 have hy:=cK.mp hy
 obtain⟨a1,a2⟩:=mM.mp hy
 obtain⟨y',hy',rfl⟩:=kO.mp a1
 have:=w.qs.ok.nm y' hy'
 have:=mL a2
 omega
theorem qHH{ns:List Int}(h:∀y∈ns,0≤y∧y<64):ns.map V.int=vN (ns.map Int.toNat)∧∀u∈ns.map Int.toNat,u<64:=by
 refine⟨?_,λu hu=>?_⟩
 ·unfold vN
  rw[rA]
  refine dG λy hy=>?_
  have:=h y hy
  show V.int y=V.int ((y.toNat:Nat):Int)
  rw[show((y.toNat:Nat):Int)=y by omega]
 ·obtain⟨y,hy,rfl⟩:=kO.mp hu
  have:=h y hy
  omega
noncomputable def spVm(t:Adr):Sp:=λvs H Q E=>∃x k sh sr s,∃n p:Int,vs=[.ref x.s,.int p,.int n]∧XR t H x k sh sr s∧(n,p)∈s.q.V∧(s.lf=some 0→E (.ref t.C_PowerGone) none H)∧∀H',Same H H'→Q (.int (s.val p n)) H'
theorem q16(T:Txt K mg t)(S:Fns K t):S.Store_value_to_move.OkE P w mg base 6 (spVm t):=by
 refine S.Store_value_to_move.F.okE q13 (λvs H Q E h=>?_) (λcdv A outer s H vs Q E hr h=>?_)
 ·repeat obtain⟨_,h⟩:=h
  all_goals subst_vars;rfl
 ·obtain⟨x,k,sh,sr,s,n,p,rfl,j,hm,dk,kk⟩:=h
  obtain⟨m,hs,c,pg⟩:=j.e
  refine⟨_,(qB (jB (qO uN (pv 2) (zK rfl T.mg_ROLL ⟨_,rfl⟩ (v:=.int 64)) (qR _)) (qD (qL (qV (q6P T S).mono hr rfl T.mg_bits_of T.kp_bits_of S.bits_of.b .nil qK (qA (j0 (pv 0) T.cl_Store T.m_Store_held (q05 T S).mono hr S.Plain_held.b .nil qK) qE)))) qQ) (qD (qL (qW yQ (jW jH (qJ (pv 0) rfl) T.cl_Chip T.m_Chip_read (q41 T S).mono hr S.Chip_read.b .nil (qA (pv 1) qE)) qG (λ_ _=>rfl))))),?_⟩
  try dsimp-beta-proj-iota-zeta-eta only[wishK,cxK]
  refine⟨_,rfl,rfl,_,rfl,?_⟩
  rw[yF]
  by_cases z:n=64
  ·rw[hC z]
   refine iteT ?_
   refine(iV rfl (iM hs.o rfl ⟨x,_,_,_,_,m,s.q,rfl,hs,c.ft,hd64 j.w,λl ns H1 hn s1 n1 h1=>?_⟩))
   obtain rfl:=qF8 hn
   obtain⟨en,lt⟩:=qHH (qHG j.w)
   rw[en]at h1
   refine⟨l,_,rfl,SqL.of h1,lt,?_⟩
   have:=kk H1 s1
   unfold XS.val at this
   rw[kF z]at this
   exact this
  ·rw[hG z]
   refine iteF ?_
   obtain⟨b,f,v,a1,a2,a3,a4,a5⟩:=j.w.vl _ hm
   have a3:p=_:=a3
   obtain⟨tp,e1,e2⟩:=pg.v _ _ a5
   have hp:=(c.pgs a1 a2).1
   refine(iV rfl (iF hs.o T.cl_Store T.na_Store_chip rfl (iM hs.ch.ins rfl ⟨_,rfl,x.c,x.a,m,_,rfl,hs.ch,c.ft.ok,by rw[a3];omega,by rw[a3];exact hp,λy=>dk (by rw[←c.lf];exact y),λ_=>?_⟩)))
   have:=kk H (Same.refl H)
   unfold XS.val at this
   rw[kB z]at this
   rw[a3,kY,e1]
   rw[a3,kY,a5]at this
   exact(iT (k:=1) (v:=_) (SqT.of e2) rfl this)
noncomputable def spGa(f:Tl→Int):Sp:=λvs H Q _=>∃x a b p n A B,vs=[x,a,b,p,n]∧TlAt H a A∧TlAt H b B∧Q (.bl (decide (f A<f B))) H
theorem q2D(T:Txt K mg t)(S:Fns K t):S.Fewest_goes_ahead.Ok0 P w mg base 1 (spGa Tl.lv):=by
 refine S.Fewest_goes_ahead.F.ok0 q27 λcdv A _ s H vs Q E hr h=>?_
 ·obtain⟨x,a,b,p,n,A,B,rfl,⟨ad,rfl,ha⟩,⟨bd,rfl,hb⟩,q⟩:=h
  refine⟨_,(qD (qL (uP q07 (qW yQ (pv 1) qG (λ_ _=>rfl)) (qW yQ (pv 2) qG (λ_ _=>rfl)) (qR _)))),?_⟩
  try dsimp-beta-proj-iota-zeta-eta only[wishK,cxK]
  exact⟨_,rfl,iT (k:=1) (v:=_) (SqT.of ha) rfl ⟨_,rfl,iT (k:=1) (v:=_) (SqT.of hb) rfl (iI q)⟩⟩
theorem q2E(T:Txt K mg t)(S:Fns K t):S.Eldest_goes_ahead.Ok0 P w mg base 1 (spGa Tl.bo):=by
 refine S.Eldest_goes_ahead.F.ok0 q28 λcdv A _ s H vs Q E hr h=>?_
 ·obtain⟨x,a,b,p,n,A,B,rfl,⟨ad,rfl,ha⟩,⟨bd,rfl,hb⟩,q⟩:=h
  refine⟨_,(qD (qL (uP q07 (qW yQ (pv 1) qG (λ_ _=>rfl)) (qW yQ (pv 2) qG (λ_ _=>rfl)) (qR _)))),?_⟩
  try dsimp-beta-proj-iota-zeta-eta only[wishK,cxK]
  exact⟨_,rfl,iT (k:=3) (v:=_) (SqT.of ha) rfl ⟨_,rfl,iT (k:=3) (v:=_) (SqT.of hb) rfl (iI q)⟩⟩
noncomputable def RuAt(t:Adr)(H:Hp)(r:Addr)(pg nw:Int)(f:Tl→Int):Prop:=(∃dx,H r=some (.ins t.C_Fewest dx [])∧f=Tl.lv)∨(∃dx,H r=some (.ins t.C_Eldest dx [])∧f=Tl.bo)
noncomputable def spUn(t:Adr)(K:W.Frag):Sp:=λvs H Q _=>∃r v l pg nw T us ts f,vs=[.ref r,v,.ref l,.int pg,.int nw]∧RuAt t H r pg nw f∧TlAt H v T∧SqL K H l us∧Tls H us ts∧T.Ok pg nw∧(∀o∈ts,o.Ok pg nw)∧pg≤16∧Q (.bl (unb f ts T)) H
theorem q6S(T:Txt K mg t)(S:Fns K t):S.is_unbeaten.Ok0 P w mg base 2 (spUn t K):=by
 refine S.is_unbeaten.F.ok0 q26 λcdv A _ s H vs Q E hr h=>?_
 ·obtain⟨r,v,l,pg,nw,A,us,ts,f,rfl,hR,hv,hl,hts,oa,os,hpg,q⟩:=h
  obtain⟨va,rfl,hva⟩:=id hv
  have hlen:=hts.len
  refine⟨_,(qB (uG gT rfl (jP (pv 2)) (qX (i:=5) q26.nd rfl (Or.inl rfl)) (qD (jB (PW.pt (q30 (qO (qFZ hr.units) (pv 5) (pv 1) (qR _)) (q0O (jY (qIV (qE4 (jE (pv 0) T.cl_Fewest T.m_Fewest_goes_ahead (q2D T S).mono hr S.Fewest_goes_ahead.b .nil qK (qA (pv 5) (qA (pv 1) (qA (pv 3) (qA (pv 4) qE))))) (jE (pv 0) T.cl_Eldest T.m_Eldest_goes_ahead (q2E T S).mono hr S.Eldest_goes_ahead.b .nil qK (qA (pv 5) (qA (pv 1) (qA (pv 3) (qA (pv 4) qE))))))))))) (qD (qL q2T)) qQ))) (qD (qL q2T))),?_⟩
  try dsimp-beta-proj-iota-zeta-eta only[wishK,cxK]
  refine⟨_,rfl,l,rfl,⟨us,hl⟩,?_⟩
  refine uD (K:=K) (xs:=us) (λi σ' H2=>∃y,σ'=[some (.ref r),some (.ref va),some (.ref l),some (.int pg),some (.int nw),y]∧H2=H∧∀j,∀hj:j<ts.length,j<i→¬f ts[j] <f A) ⟨_,rfl,rfl,λj _ z=>absurd z (pH _)⟩ (λi σ' H2 hi hp=>?_) (λi x σ' H2 hx hp=>?_) (λσ' H2 hp=>?_)
  ·obtain⟨y,rfl,rfl,_⟩:=hp
   exact hl
  ·obtain⟨y,rfl,rfl,hm⟩:=hp
   obtain⟨O,hO,ho⟩:=Paired.at hts hx
   obtain⟨xa,rfl,hxa⟩:=id ho
   have hi:i<ts.length:=(kC.mp hO).1
   obtain rfl:ts[i]=O:=(kC.mp hO).2
   have ok:(ts[i]).Ok pg nw:=os _ (gJ hi)
   refine⟨_,rfl,_,rfl,xa,va,(ts[i]).ns,A.ns,rfl,rfl,SqT.of hxa,SqT.of hva,rfl,_,rfl,?_⟩
   by_cases e:(ts[i]).ns=A.ns
   ·rw[hC e]
    refine iteF (iteF ⟨_,rfl,rfl,λj hj z=>?_⟩)
    by_cases ej:j=i
    ·subst ej
     rw[Tl.eq_of e]
     exact Int.lt_irrefl _
    ·exact hm j hj (by omega)
   ·rw[hG e]
    refine iteT ?_
    refine⟨λv' H'=>v'=.bl (decide (f ts[i] <f A))∧H'=H2,?_,?_⟩
    ·rcases hR with⟨dx,hins,rfl⟩|⟨dx,hins,rfl⟩
     ·exact .inl ⟨_,rfl,r,dx,_,rfl,hins,rfl,_,rfl,_,rfl,_,rfl,_,rfl,_,_,_,_,_,ts[i],A,rfl,ho,hv,rfl,rfl⟩
     ·exact .inr (⟨_,rfl,r,dx,_,rfl,hins,rfl,_,rfl,_,rfl,_,rfl,_,rfl,_,_,_,_,_,ts[i],A,rfl,ho,hv,rfl,rfl⟩)
    ·rintro v' H' ⟨rfl,rfl⟩
     refine⟨_,rfl,?_⟩
     by_cases g:f ts[i] <f A
     ·rw[hC g]
      refine iteT ?_
      have z:unb f ts A=false:=by
       cases z:unb f ts A with
       |false=>rfl
       |true=>exact absurd (q5L.mp z _ (gJ hi)) (by omega)
      rw[z]at q
      exact q
     ·rw[hG g]
      refine iteF ⟨_,rfl,rfl,λj hj z=>?_⟩
      by_cases ej:j=i
      ·subst ej
       exact g
      ·exact hm j hj (by omega)
  ·obtain⟨y,rfl,rfl,hm⟩:=hp
   have z:unb f ts A=true:=q5L.mpr λo ho=>by
    obtain⟨j,hj,rfl⟩:=cC ho
    have:=hm j hj (by omega)
    omega
   rw[z]at q
   exact q
noncomputable def spFu(t:Adr)(K:W.Frag):Sp:=λvs H Q _=>∃r l pg nw us ts f,vs=[.ref r,.ref l,.int pg,.int nw]∧RuAt t H r pg nw f∧SqL K H l us∧Tls H us ts∧(∀o∈ts,o.Ok pg nw)∧pg≤16∧ts≠[]∧Q (.int (pk f ts)) H
theorem q47(T:Txt K mg t)(S:Fns K t):S.first_unbeaten.Ok0 P w mg base 3 (spFu t K):=by
 refine S.first_unbeaten.F.ok0 v3 λcdv A _ s H vs Q E hr h=>?_
 ·obtain⟨r,l,pg,nw,us,ts,f,rfl,hR,hl,hts,os,hpg,hne,q⟩:=h
  have hlen:=hts.len
  obtain⟨i,hi,hu,hn⟩:=q64 f ts hne
  have at':∀j,∀hj:j<ts.length,∃x,us[j]?=some x∧TlAt H x ts[j]:=λj hj=>by
   have e:us[j]?=some (us[j]'(by omega)):=hV (by omega)
   obtain⟨O,hO,ho⟩:=Paired.at hts e
   obtain rfl:ts[j]=O:=(kC.mp hO).2
   exact⟨_,e,ho⟩
  refine⟨_,(qB (qU (i:=4) v3.nd rfl (Or.inl rfl) qG) (qB (q8Z gT (yH (jY (qV (q6S T S).mono hr rfl T.mg_is_unbeaten T.kp_is_unbeaten S.is_unbeaten.b .nil qK (qA (pv 0) (qA (qW qY (pv 1) (pv 4) (λ_ _=>rfl)) (qA (pv 1) (qA (pv 2) (qA (pv 3) qE)))))))) (qD (qHP (i:=4) v3.nd rfl (Or.inl rfl) qG q5T))) (qD (qL (qW yQ (qW qY (pv 1) (pv 4) (λ_ _=>rfl)) qG (λ_ _=>rfl)))))),?_⟩
  try dsimp-beta-proj-iota-zeta-eta only[wishK,cxK]
  refine⟨λm σ' H2=>H2=H∧∃p:Nat,σ'=[some (.ref r),some (.ref l),some (.int pg),some (.int nw),some (.int p)]∧p≤i∧m=i-p,⟨i,rfl,0,rfl,m8 _,rfl⟩,?_⟩
  rintro m σ' H2 ⟨rfl,p,rfl,hpi,rfl⟩
  obtain⟨x,hx,tx⟩:=at' p (by omega)
  refine⟨_,rfl,_,rfl,_,rfl,l,us,p,x,rfl,rfl,hl,yT hx,_,rfl,_,rfl,_,rfl,r,x,l,pg,nw,ts[p],us,ts,f,rfl,hR,tx,hl,hts,os _ (gJ _),os,hpg,?_⟩
  by_cases e:p=i
  ·subst e
   rw[hu]
   refine⟨_,rfl,iteF ?_⟩
   obtain⟨xa,rfl,hxa⟩:=tx
   refine⟨_,rfl,_,rfl,l,us,p,_,rfl,rfl,hl,yT hx,iT (k:=0) (v:=_) (SqT.of hxa) rfl ?_⟩
   rw[qHC hi hu hn]at q
   exact q
  ·rw[hn p (by omega)]
   refine⟨_,rfl,iteT ⟨_,λ_ _ z=>z,?_⟩⟩
   exact⟨_,rfl,iI ⟨i-(p+1),by omega,rfl,p+1,rfl,by omega,rfl⟩⟩
theorem q2F(T:Txt K mg t)(S:Fns K t):S.Rule_choose.Ok0 P w mg base 4 (spFu t K):=by
 refine S.Rule_choose.F.ok0 q6K λcdv A _ s H vs Q E hr h=>?_
 ·obtain⟨r,l,pg,nw,us,ts,f,rfl,z⟩:=h
  refine⟨_,(qD (qL (qV (q47 T S).mono hr rfl T.mg_first_unbeaten T.kp_first_unbeaten S.first_unbeaten.b .nil qK (qA (pv 0) (qA (pv 1) (qA (pv 2) (qA (pv 3) qE))))))),?_⟩
  try dsimp-beta-proj-iota-zeta-eta only[wishK,cxK]
  exact⟨_,rfl,_,rfl,_,rfl,_,rfl,r,l,pg,nw,us,ts,f,rfl,z⟩
theorem qC0{H:Hp}{m:CM}{q:QM}:∀{rs:List V} {L:List Nat},Tys H m q rs L→Tls H rs (L.map (tlOf m q))
 |_,_,.nil=>.nil
 |_,_,.cons ⟨p,e,h⟩ r=>.cons ⟨p,e,h⟩ (qC0 r)
noncomputable def RuX(t:Adr)(H:Hp)(r:Addr)(rl:List Addr):Rl→Prop
 | .rk f=>(∃dx,H r=some (.ins t.C_Fewest dx [])∧f=λ_ _=>Tl.lv)∨(∃dx,H r=some (.ins t.C_Eldest dx [])∧f=λ_ _=>Tl.bo)
 |_=>False
theorem RuX.ok{H:Hp}{r:Addr}{rl:List Addr}{g:Rl}(h:RuX t H r rl g):g.Ok:=by
 cases g with
 |rk f=>trivial
 |win m=>exact h.elim
 |fol row u=>exact h.elim
theorem RuX.map{H H':Hp}{r:Addr}{rl:List Addr}{g:Rl}(h:RuX t H r rl g)(h1:∀y∈r::rl,∀o,H y=some o→H' y=some o):RuX t H' r rl g:=by
 have h1:=h1 r kW
 cases g with
 |rk f=>
  rcases h with⟨dx,a,b⟩|⟨dx,a,b⟩
  ·exact .inl ⟨dx,h1 _ a,b⟩
  ·exact .inr (⟨dx,h1 _ a,b⟩)
 |win m=>exact h.elim
 |fol row u=>exact h.elim
theorem RuX.keep{H H':Hp}{r:Addr}{rl:List Addr}{F:List Addr}{g:Rl}(h:RuX t H r rl g)(k:Keep F H H')(n:∀y∈r::rl,y∉F):RuX t H' r rl g:=h.map λy hy o e=>k.k _ _ (n y hy) e
theorem RuX.ins{H:Hp}{r:Addr}{rl:List Addr}{g:Rl}(h:RuX t H r rl g):∃C d fs,H r=some (.ins C d fs):=by
 cases g with
 |rk f=>
  rcases h with⟨dx,a,b⟩|⟨dx,a,b⟩
  ·exact⟨_,_,_,a⟩
  ·exact⟨_,_,_,a⟩
 |win m=>exact h.elim
 |fol row u=>exact h.elim
noncomputable def spCr(t:Adr)(K:W.Frag):Sp:=λvs H Q _=>∃x r2 r3 r4 r5 m q r rl g op rs ts,vs=[.ref x.s,.ref op]∧StAt t H x r2 r3 r4 r5 m q∧Fit m q∧x.ru=.ref r∧RuX t H r rl g∧H op=some (.lst rs)∧Tls H rs ts∧ts≠[]∧ts.length≤16∧(∀o∈ts,o.Ok (q.P:Int) q.nx)∧(∀a∈ts,∀c∈ts,a.b=c.b→a=c)∧∀p H',Keep [r] H H'→RuX t H' r rl (g.ch (q.P:Int) q.nx ts).2→H' p=some (.tup [.str "rule",.int (g.ch (q.P:Int) q.nx ts).1])→Q (.ref p) H'
theorem q0L(T:Txt K mg t)(S:Fns K t):S.Store_choice_by_rule.Ok0 P w mg base 5 (spCr t K):=by
 refine S.Store_choice_by_rule.F.ok0 q0H λcdv A _ s H vs Q E hr h=>?_
 ·obtain⟨x,r2,r3,r4,r5,m,q,r,rl,g,op,rs,ts,rfl,hs,ft,er,hR,hop,tl,ne,l16,ok,unl,k⟩:=h
  have eP:=ft.eP
  have p1:=ft.oq.p1
  have p2:=ft.oq.p2
  have te:=hs.te
  rw[eP]at te
  refine⟨_,(qD (qL (uQ (qA vX (qA (qE4 (jE (qJ (pv 0) rfl) T.cl_Fewest T.m_Fewest_choose (q2F T S).mono hr S.Rule_choose.b .nil qK (qA (pv 1) (qA (qJ (qJ (pv 0) rfl) rfl) (qA (qJ (qJ (pv 0) rfl) rfl) qE)))) (jE (qJ (pv 0) rfl) T.cl_Eldest T.m_Eldest_choose (q2F T S).mono hr S.Rule_choose.b .nil qK (qA (pv 1) (qA (qJ (qJ (pv 0) rfl) rfl) (qA (qJ (qJ (pv 0) rfl) rfl) qE))))) qE))))),?_⟩
  try dsimp-beta-proj-iota-zeta-eta only[wishK,cxK]
  cases g with
  |rk f=>
   have sz2:2≤sizeLine:=by decide
   rcases id hR with⟨dx,hins,rfl⟩|⟨dx,hins,rfl⟩
   ·exact .inl (iV rfl (iF hs.o T.cl_Store T.na_Store_rule rfl ⟨r,dx,_,er,hins,rfl,_,rfl,iV rfl (iF hs.o T.cl_Store T.na_Store_terms rfl (iF te T.cl_Terms T.na_Terms_pages rfl (iV rfl (iF hs.o T.cl_Store T.na_Store_book rfl (iF hs.bk.o T.cl_Book T.na_Book_stamp rfl ⟨r,op,_,_,rs,ts,_,(by rw[er];rfl),.inl ⟨dx,hins,rfl⟩,SqL.of hop,tl,ok,by omega,ne,sz2,λp H2 n2 s2 e2=>k p H2 (Keep.same s2) (hR.keep (Keep.same s2) (F:=[]) (by simp)) e2⟩)))))⟩))
   ·exact .inr ((iV rfl (iF hs.o T.cl_Store T.na_Store_rule rfl ⟨r,dx,_,er,hins,rfl,_,rfl,iV rfl (iF hs.o T.cl_Store T.na_Store_terms rfl (iF te T.cl_Terms T.na_Terms_pages rfl (iV rfl (iF hs.o T.cl_Store T.na_Store_book rfl (iF hs.bk.o T.cl_Book T.na_Book_stamp rfl ⟨r,op,_,_,rs,ts,_,(by rw[er];rfl),.inr (⟨dx,hins,rfl⟩),SqL.of hop,tl,ok,by omega,ne,sz2,λp H2 n2 s2 e2=>k p H2 (Keep.same s2) (hR.keep (Keep.same s2) (F:=[]) (by simp)) e2⟩)))))⟩)))
  |win m=>exact hR.elim
  |fol row u=>exact hR.elim
section
variable{H H':Hp}{x:Sto}{k:Tm}{sh sr:Int}{s:XS}{r:Addr}{rl:List Addr}{g:Rl}
theorem TbF.keepR(h:TbF t H){C d:Addr}{fs:List (Str×V)}(e:H r=some (.ins C d fs))(k:Keep [r] H H'):TbF t H':=by
 obtain⟨ps,hT,h⟩:=h
 have ne:∀{b:Addr} {o:HO},H b=some o→(∀C d fs,o≠ .ins C d fs)→H' b=some o:=fun {b o} hb n=>k.k _ _ (λz=>by
  rw[kI.mp z,e]at hb
  exact n _ _ _ (kP hb).symm) hb
 refine⟨ps,ne hT (λ_ _ _ z=>by cases z),?_⟩
 rcases h with h|⟨c,h,hc⟩
 ·exact .inl h
 ·exact .inr ⟨c,h,ne hc (λ_ _ _ z=>by cases z)⟩
noncomputable def Off(t:Adr)(x:Sto)(R:List Addr):Prop:=∀y∈[x.s,x.tm]++(x.a.li::t.T_Plain_free::sf x),y∉R
theorem Off.n{R:List Addr}(o:Off t x R){y:Addr}(hy:y∈R):y∉t.T_Plain_free::sf x:=λz=>o y (by simp at z ⊢;rcases z with z|z<;>simp[z]) hy
theorem XR.kR(j:XR t H x k sh sr s)(o:Off t x (r::rl))(kk:Keep [r] H H')(hR:RuX t H r rl g):XR t H' x k sh sr s:=by
 obtain⟨C,d,fs,e⟩:=hR.ins
 refine j.keep kk (λy hy z=>o y ?_ (by rw[kI.mp z];exact kW)) (j.tb.keepR e kk)
 have hy:y=x.s∨y=x.tm∨y=x.a.li∨y∈sf x:=by simpa using hy
 rcases hy with h|h|h|h<;>simp[h]
theorem XR.opts(j:XR t H x k sh sr s)(ev:k.ev=false){Q:VK}{E:XK}(kk:∀p rs H',H p=none→XR t H' x k sh sr s→Keep [t.T_Plain_free] H H'→H' p=some (.lst rs)→Tls H' rs (s.ots k)→Q (.ref p) H'):spOp t [.ref x.s] H Q E:=by
 obtain⟨m,hs,c,_⟩:=j.e
 refine⟨x,_,_,_,m,s.q,_,rfl,hs,c.ft,λl p rs H' hl np k1 tb1 h1 ty=>kk p rs H' np (j.kT k1 tb1) k1 h1 ?_⟩
 have ty:=qC0 ty
 rw[c.br,c.cl]at hl
 rw[qEU j.w c.br hl,qKJ c.cl]at ty
 unfold XS.ots XS.opt
 rw[ev]
 exact ty
theorem q0M{H H':Hp}{F:List Addr}(k:Keep F H H'):∀{rs:List V} {ts:List Tl},Tls H rs ts→Tls H' rs ts
 |_,_,.nil=>.nil
 |_,_,.cons ⟨p,e,h⟩ r=>.cons ⟨p,e,k.tp _ _ h⟩ (q0M k r)
end
noncomputable def spCh(t:Adr):Sp:=λvs H Q E=>∃x k sh sr s r rl g,vs=[.ref x.s]∧XR t H x k sh sr s∧k.ev=false∧x.ru=.ref r∧RuX t H r rl g∧Off t x (r::rl)∧s.rc.length<1000000∧(match s.tk k g with
 |none=>∀H',XR t H' x k sh sr s→Keep [t.T_Plain_free] H H'→E (.ref t.C_NoRoom) none H'
 |some (y,b,g')=>∀p H',Keep [t.T_Plain_free,r] H H'→XR t H' x k sh sr s→RuX t H' r rl g'→H' p=some (.tup [.str y,.int (b:Int)])→Q (.ref p) H')
theorem q5G(T:Txt K mg t)(S:Fns K t)(B:BmIn base mg):S.Store_choice.OkE P w mg base 13 (spCh t):=by
 refine S.Store_choice.F.okE q1A (λvs H Q E h=>?_) (λcdv A outer s H vs Q E hr h=>?_)
 ·repeat obtain⟨_,h⟩:=h
  all_goals subst_vars;rfl
 ·obtain⟨x,k,sh,sr,s,r,rl,g,rfl,j,ev,er,hR,of,rc,kk⟩:=h
  refine⟨_,(qB (qU (i:=1) q1A.nd rfl (Or.inl rfl) (j0 (pv 0) T.cl_Store T.m_Store_options (vC T S B).mono hr S.Store_options.b .nil qK)) (qB (jB (qO (qAE hr.units) (pv 1) (jZ qE) (qR _)) (qD (q9A jH rfl rfl T.mg_NoRoom T.x_NoRoom (qA vX qE))) qQ) (qD (qL (jE (pv 0) T.cl_Store T.m_Store_choice_by_rule (q0L T S).mono hr S.Store_choice_by_rule.b .nil qK (qA (pv 1) qE)))))),?_⟩
  try dsimp-beta-proj-iota-zeta-eta only[wishK,cxK]
  refine(iV rfl (iM j.o rfl ?_))
  dsimp only[tNil,rS]
  refine j.opts ev λp rs H1 np j1 k1 h1 ty=>?_
  refine⟨_,rfl,sz0,λe6 H6 n6 s6 h6=>⟨p,_,e6,rfl,rfl,SqL.of (s6 _ _ h1),SqL.of h6,_,rfl,?_⟩⟩
  have k6:Keep [t.T_Plain_free] H H6:=k1.trans (Keep.same s6)
  have j6:=j1.same s6
  have ln:=ty.len
  unfold XS.tk at kk
  cases rs with
  |nil=>
   have e0:s.opt k=[]:=pO.mp (List.eq_nil_of_length_eq_zero ln.symm)
   rw[kF e0,ev,kB (by decide)]at kk
   exact iteT ⟨sz1,kk H6 j6 k6⟩
  |cons u us=>
   have ne:s.opt k≠[]:=λz=>by
    unfold XS.ots at ln
    rw[z]at ln
    cases ln
   rw[kB ne]at kk
   refine iteF ?_
   obtain⟨m,hs6,c,_⟩:=j6.e
   have oT:=of t.T_Plain_free (by simp)
   have hR6:=hR.keep k6 (λy hy z=>oT (by rw[←kI.mp z];exact hy))
   have ne':s.ots k≠[]:=λz=>ne (pO.mp z)
   have okT:∀o∈s.ots k,o.Ok (s.q.P:Int) s.q.nx:=λo ho=>by
    obtain⟨b,hb,rfl⟩:=kO.mp ho
    exact qKK j.w rc (vE.mp hb).1.1.b
   refine(iV rfl (iM hs6.o rfl ⟨_,rfl,x,_,_,_,_,m,s.q,r,rl,g,p,_,_,rfl,hs6,c.ft,er,hR6,s6 _ _ h1,ty.same s6,ne',by unfold XS.ots;rw[hI];exact qJD j.w,okT,qGP,λpp H7 k7 hR7 h7=>?_⟩))
   have cm:=qEW (pg:=(s.q.P:Int)) (nw:=s.q.nx) hR.ok ne'
   refine kk pp H7 ((k6.mono (by simp)).trans (k7.mono (by simp))) (j6.kR of k7 hR6) hR7 ?_
   rw[h7]
   obtain⟨b,hb,e⟩:=kO.mp cm
   obtain⟨c',_,rfl⟩:=kO.mp hb
   have e:(c':Int)=(g.ch (s.q.P:Int) s.q.nx (s.ots k)).1:=e
   rw[←e,kY]
noncomputable def spPp(K:W.Frag):Sp:=λvs H Q _=>∃wy bl wi l1 l2 rs us,vs=[wy,.ref l1,bl,.ref l2,wi]∧H l1=some (.lst rs)∧H l2=some (.lst us)∧∀pa a1 a2 H',Same H H'→H pa=none→H a1=none→H a2=none→H' pa=some (.tup [wy,.ref a1,bl,.ref a2,wi])→H' a1=some (.lst rs)→H' a2=some (.lst us)→Q (.ref pa) H'
theorem q55(T:Txt K mg t)(S:Fns K t):S.paper_of.Ok0 P w mg base 1 (spPp K):=by
 refine S.paper_of.F.ok0 q9V λcdv A _ s H vs Q E hr h=>?_
 ·obtain⟨wy,bl,wi,l1,l2,rs,us,rfl,h1,h2,k⟩:=h
  refine⟨_,(qD (qL (uQ (qA (pv 0) (qA (q4F zO (by rfl) T.b_list (by kernel_rfl) (qA (pv 1) qE)) (qA (pv 2) (qA (q4F zO (by rfl) T.b_list (by kernel_rfl) (qA (pv 3) qE)) (qA (pv 4) qE)))))))),?_⟩
  try dsimp-beta-proj-iota-zeta-eta only[wishK,cxK]
  refine⟨_,rfl,_,rfl,l1,rs,rfl,.inl (SqL.of h1),λa1 H1 n1 s1 e1=>?_⟩
  refine⟨_,rfl,_,rfl,l2,us,rfl,.inl (SqL.of (s1 _ _ h2)),λa2 H2 n2 s2 e2=>?_⟩
  refine⟨_,rfl,sz5,λpa H3 n3 s3 e3=>?_⟩
  exact k pa a1 a2 H3 ((s1.trans s2).trans s3) ((s1.trans s2).free n3) n1 (s1.free n2) e3 (s3 _ _ (s2 _ _ e1)) (s3 _ _ e2)
theorem qH2{s:XS}{k:Tm}{b:Nat}{rs:List (List Int)}(w:WX k s)(pm:rs.Perm (lpK s.q.P b s.q.V))(so:rs.Pairwise λa b=>lx b a=false):rs=lvP s.q.P b s.q.V:=by
 refine qGO w.qs.ok.p1 w.pd ?_ (λkk=>?_) so
 ·refine pm.nodup_iff.mpr ?_
  unfold lpK
  refine g9.mpr (((g9.mp w.qs.ok.nd).imp fun {a c} hne z=>hne ?_).filter _)
  injection z with _ z
  injection z with z _
 ·rw[pm.mem_iff]
  unfold lpK
  rw[kO]
  constructor
  ·rintro⟨y,hy,rfl⟩
   obtain⟨a1,a2⟩:=mM.mp hy
   exact⟨y.1,y.2,rfl,a1,mL a2⟩
  ·rintro⟨n,p,rfl,a1,a2⟩
   exact⟨(n,p),mM.mpr ⟨a1,hC a2⟩,rfl⟩
noncomputable def spMv(t:Adr):Sp:=λvs H Q E=>∃x k sh sr s,∃b:Nat,vs=[.ref x.s,.int (b:Int)]∧XR t H x k sh sr s∧Full k s b∧s.rc.length+100<1000000∧(match XS.mvs (lvP s.q.P b s.q.V) s with
 |(s',none)=>∀H',XR t H' x k sh sr s'→Keep (t.T_Plain_free::sf x) H H'→E (.ref t.C_PowerGone) none H'
 |(s',some ms)=>∀ml us H',XR t H' x k sh sr s'→H ml=none→H' ml=some (.lst us)→Paired (TupD H') us ms→Mvd k s b s' (lvP s.q.P b s.q.V).length→(∀y∈s'.q.V,¬y.2 / (s'.q.P:Int)=(b:Int))→Keep (t.T_Plain_free::sf x) H H'→Q (.ref ml) H')
theorem q6T(T:Txt K mg t)(S:Fns K t)(B:BmIn base mg):S.Store_moved.OkE P w mg base 12 (spMv t):=by
 refine S.Store_moved.F.okE uZ (λvs H Q E h=>?_) (λcdv A outer s H vs Q E hr h=>?_)
 ·repeat obtain⟨_,h⟩:=h
  all_goals subst_vars;rfl
 ·obtain⟨x,k,sh,sr,s,b,rfl,j,fl,rc,kk⟩:=h
  have s9:(99999:Nat)<sizeLine:=by decide
  have spR:=fl.sp j.w
  have l6:=j.w.l6
  refine⟨_,(qB (qU (i:=2) uZ.nd rfl (Or.inl rfl) (jZ qE)) (qB (uG wV rfl (jP (jE (qJ (pv 0) rfl) T.cl_Book T.m_Book_live_pages (q3G T S).mono hr S.Book_live_pages.b .nil qK (qA (pv 1) qE))) (q5S rfl (yX (qX (i:=3) uZ.nd rfl (Or.inl rfl)) (yX (qX (i:=4) uZ.nd rfl (Or.inl rfl)) q3J))) (qD (qZ (qB5 wG wA wB vV (pv 2) (qA (uQ (qA (pv 4) (qA (pv 3) (qA (jW jH (pv 0) T.cl_Store T.m_Store_lay (q15 T S B).mono hr S.Plain_lay.b .nil (qA (pv 4) (qA (jW jH (pv 0) T.cl_Store T.m_Store_value_to_move (q16 T S).mono hr S.Store_value_to_move.b .nil (qA (pv 3) (qA (pv 4) qE))) qE))) qE)))) qE q3R))))) (qD (qL (pv 2))))),?_⟩
  try dsimp-beta-proj-iota-zeta-eta only[wishK,cxK]
  refine⟨sz0,λml H1 n1 s1 h1=>?_⟩
  obtain⟨m,hs1,c,_⟩:=(j.same s1).e
  refine(iV rfl (iF hs1.o T.cl_Store T.na_Store_book rfl (iM hs1.bk.o rfl ⟨_,rfl,x.k,s.q,b,rfl,hs1.bk,j.w.qs.ok,by omega,λll ps rs H2 s2 n2 h2 pr2 pm so=>?_⟩)))
  obtain rfl:=qH2 j.w pm so
  have s02:=s1.trans s2
  have mlF:=j.off n1
  have llF:=(j.same s1).off n2
  have llm:ll≠ml:=(qF h1 n2).symm
  have lps:=pr2.len
  have lr:(lvP s.q.P b s.q.V).length≤16:=by
   have:=j.w.qs.ok.p2
   unfold lvP
   refine mI (dS _ _) ?_
   rw[mH]
   exact this
  refine⟨ll,rfl,⟨_,SqL.of h2⟩,?_⟩
  refine uD (K:=K) (xs:=ps) (λi σ' H'=>∃y3 y4 us s' ms,σ'=[some (.ref x.s),some (.int (b:Int)),some (.ref ml),y3,y4]∧XR t H' x k sh sr s'∧MvI k s b (lvP s.q.P b s.q.V) i s' ms∧H' ml=some (.lst us)∧Paired (TupD H') us ms∧Keep (ml::t.T_Plain_free::sf x) H2 H') ⟨_,_,[],s,[],rfl,j.same s02,MvI.zero j.w fl.f,s2 _ _ h1,.nil,Keep.refl⟩ (λi σ' H' hi hp=>?_) (λi v σ' H' hv hp=>?_) (λσ' H' hp=>?_)
  ·obtain⟨y3,y4,us,s',ms,rfl,j',mi,hml,pr,kk'⟩:=hp
   refine SqL.of (kk'.k _ _ (λz=>?_) h2)
   rcases kL.mp z with e|e
   ·exact llm e
   ·exact llF e
  ·obtain⟨y3,y4,us,s',ms,rfl,j',mi,hml,pr,kk'⟩:=hp
   obtain⟨kv,hk,tp,rfl,htp⟩:=Paired.at pr2 hv
   obtain⟨hi,ekv⟩:=kC.mp hk
   obtain⟨n,p,er,hnp,n0,n64⟩:=mi.at hi
   rw[er]at ekv
   subst ekv
   have htp':=kk'.tp _ _ htp
   have rce:=mi.rc
   have rme:=mi.rm
   have kH:∀{G},Keep (t.T_Plain_free::sf x) H' G→Keep (t.T_Plain_free::sf x) H G:=fun {G} kG=>by
    refine⟨λy o ny e=>kG.k y o ny (kk'.k y o (λz=>?_) (s02 _ _ e)),λy ys e=>kG.tp _ _ (kk'.tp _ _ (s02 _ _ e))⟩
    rcases kL.mp z with z|z
    ·rw[z,n1]at e;cases e
    ·exact ny z
   refine⟨tp,_,rfl,SqT.of htp',rfl,_,_,rfl,_,_,rfl,rfl,?_⟩
   refine⟨_,rfl,.inl ⟨rfl,_,SqL.of hml⟩,_,rfl,_,rfl,iV rfl (iM j'.o rfl ⟨_,rfl,iV rfl (iM j'.o rfl ⟨_,rfl,_,rfl,x,k,sh,sr,s',n,p,rfl,j',hnp,λdk=>?_,λH3 s3=>?_⟩)⟩)⟩
   ·rw[mi.dark hi dk]at kk
    exact kk H' j' (kH Keep.refl)
   dsimp only[tNil,pA,rS,gY]
   have hml3:=s3 _ _ hml
   refine(j'.same s3).set n0 n64 (by omega) (by rw[mi.eP];omega) (.inl ⟨p,hnp⟩) (λdk H5 j5 k5=>?_) (λdk H5 j5 k5=>?_)
   ·rw[mi.dark hi dk]at kk
    exact kk H5 j5 (kH ((Keep.same s3).trans k5))
   have hml5:=k5.k _ _ mlF hml3
   refine⟨sz3,λtu H6 n6 s6 h6=>⟨ml,us,_,rfl,rfl,s6 _ _ hml5,by have:=pr.len;have:=mi.l;omega,?_⟩⟩
   have hml6:=s6 _ _ hml5
   have k7:=Keep.upd (F:=[ml]) (o:=.lst (us++[.ref tu])) hml6 (λ_ z=>by cases z) (by simp)
   have hml7:(upd H6 ml (.lst (us++[.ref tu]))) ml=_:=qI
   have j7:=(j5.same s6).lst (o:=.lst (us++[.ref tu])) hml6 mlF
   generalize upd H6 ml (.lst (us++[.ref tu]))=H7 at k7 hml7 j7 ⊢
   have kA:Keep (ml::t.T_Plain_free::sf x) H' H7:=(((Keep.same s3).trans (k5.mono (λy hy=>hU _ hy))).trans (Keep.same s6)).trans (k7.mono (by simp))
   exact⟨some (.int p),some (.int n),us++[.ref tu],_,_,rfl,j7,mi.step q6F hi spR dk er,hml7,L2.Paired.snoc (Paired.mapP pr λv d ⟨p',e',h'⟩=>⟨p',e',kA.tp _ _ h'⟩) ⟨tu,rfl,k7.tp _ _ h6⟩,kk'.trans kA⟩
  obtain⟨y3,y4,us,s',ms,rfl,j',mi,hml,pr,kk'⟩:=hp
  rw[lps]at mi
  obtain⟨e,nl⟩:=mi.fin rfl
  rw[e]at kk
  have kH:Keep (t.T_Plain_free::sf x) H H':=by
   refine⟨λy o ny e=>kk'.k y o (λz=>?_) (s02 _ _ e),λy ys e=>kk'.tp _ _ (s02 _ _ e)⟩
   rcases kL.mp z with z|z
   ·rw[z,n1]at e;cases e
   ·exact ny z
  exact⟨_,rfl,kk ml us H' j' n1 hml pr (mi.mvd (kN _)) nl kH⟩
noncomputable abbrev fx(t:Adr)(x:Sto)(r pp:Addr):List Addr:=pp::r::t.T_Plain_free::sf x
noncomputable def PapA(H:Hp)(F:List Addr)(v:V)(p:Pa):Prop:=∃pa l1 l2 us rs,v=.ref pa∧H pa=some (.tup [.str p.why,.ref l1,.int (p.b:Int),.ref l2,.bl true])∧H l1=some (.lst rs)∧Tls H rs p.ts∧H l2=some (.lst us)∧Paired (TupD H) us p.mv∧l1∉F∧l2∉F
theorem PapA.keep{H H':Hp}{F G:List Addr}{v:V}{p:Pa}(h:PapA H F v p)(k:Keep G H H')(s:∀y∈G,y∈F):PapA H' F v p:=by
 obtain⟨pa,l1,l2,us,rs,e,a,b,c,d,f,g1,g2⟩:=h
 exact⟨pa,l1,l2,us,rs,e,k.tp _ _ a,k.k _ _ (λz=>g1 (s _ z)) b,q0M k c,k.k _ _ (λz=>g2 (s _ z)) d,Paired.mapP f λv d ⟨p',e',h'⟩=>⟨p',e',k.tp _ _ h'⟩,g1,g2⟩
structure XX(t:Adr)(H:Hp)(x:Sto)(k:Tm)(sh sr:Int)(r:Addr)(rl:List Addr)(pp:Addr)(X:Sx):Prop where
 j:XR t H x k sh sr X.s
 er:x.ru=.ref r
 ru:RuX t H r rl X.g
 of:Off t x (r::rl)
 ep:x.pa=.ref pp
 hp:∃ps,H pp=some (.lst ps)∧Paired (PapA H (fx t x r pp)) ps X.ps
 np:pp∉t.T_Plain_free::sf x
 nr:pp∉r::rl
section
variable{H H':Hp}{x:Sto}{k:Tm}{sh sr:Int}{r:Addr}{rl:List Addr}{pp:Addr}{X:Sx}
theorem XX.kT(h:XX t H x k sh sr r rl pp X)(kk:Keep [t.T_Plain_free] H H')(tb:TbF t H'):XX t H' x k sh sr r rl pp X:=by
 obtain⟨ps,h1,h2⟩:=h.hp
 have oT:=h.of t.T_Plain_free (by simp)
 exact⟨h.j.kT kk tb,h.er,h.ru.keep kk (λy hy z=>oT (by rw[←kI.mp z];exact hy)),h.of,h.ep,⟨ps,kk.k _ _ (λz=>h.np (by rw[kI.mp z];simp)) h1,Paired.mapP h2 λ_ _ z=>z.keep kk (by simp)⟩,h.np,h.nr⟩
theorem XX.same(h:XX t H x k sh sr r rl pp X)(s:Same H H'):XX t H' x k sh sr r rl pp X:=h.kT (Keep.same s) (h.j.tb.same s)
theorem XX.on(h:XX t H x k sh sr r rl pp X){s:XS}(kk:Keep (t.T_Plain_free::sf x) H H')(j:XR t H' x k sh sr s):XX t H' x k sh sr r rl pp ⟨s,X.g,X.ps⟩:=by
 obtain⟨ps,h1,h2⟩:=h.hp
 exact⟨j,h.er,h.ru.keep kk (λy hy=>h.of.n hy),h.of,h.ep,⟨ps,kk.k _ _ h.np h1,Paired.mapP h2 λ_ _ z=>z.keep kk (by intro y hy;simp at hy ⊢;rcases hy with e|e<;>simp[e])⟩,h.np,h.nr⟩
end
noncomputable def rfE(t:Adr)(e:Rf)(E:XK)(H:Hp):Prop:=match e with
 | .dark=>E (.ref t.C_PowerGone) none H
 | .room=>E (.ref t.C_NoRoom) none H
noncomputable def qKU(t:Adr):Sp:=λvs H Q E=>∃x k sh sr r rl pp X,vs=[.ref x.s]∧XX t H x k sh sr r rl pp X∧k.ev=false∧X.s.rc.length+200<1000000∧X.ps.length<90000∧(match X.room k with
 |(Y,.error e)=>∀H',XX t H' x k sh sr r rl pp Y→Keep (fx t x r pp) H H'→rfE t e E H'
 |(Y,.ok p)=>∀v H',XX t H' x k sh sr r rl pp Y→Keep (fx t x r pp) H H'→Q v H')
theorem q3I(T:Txt K mg t)(S:Fns K t)(B:BmIn base mg):S.Store_make_room.OkE P w mg base 14 (qKU t):=by
 refine S.Store_make_room.F.okE yA (λvs H Q E h=>?_) (λcdv A outer s H vs Q E hr h=>?_)
 ·repeat obtain⟨_,h⟩:=h
  all_goals subst_vars;rfl
 ·obtain⟨x,k,sh,sr,r,rl,pp,X,rfl,h,ev,rc,lp,kk⟩:=h
  have s9:(99999:Nat)<sizeLine:=by decide
  refine⟨_,(qB (qU (i:=1) yA.nd rfl (Or.inl rfl) (j0 (pv 0) T.cl_Store T.m_Store_options (vC T S B).mono hr S.Store_options.b .nil qK)) (qB (qU (i:=2) yA.nd rfl (Or.inl rfl) (v7 jH (pv 0) T.cl_Store T.m_Store_choice (q5G T S B).mono hr S.Store_choice.b .nil)) (qB (qU (i:=3) yA.nd rfl (Or.inl rfl) (jW jH (pv 0) T.cl_Store T.m_Store_moved (q6T T S B).mono hr S.Store_moved.b .nil (qA (qW yQ (pv 2) qG (λ_ _=>rfl)) qE))) (qB (qU (i:=4) yA.nd rfl (Or.inl rfl) (jW jH (pv 0) T.cl_Store T.m_Store_wiped (q6R T S).mono hr S.Store_wiped.b .nil (qA (qW yQ (pv 2) qG (λ_ _=>rfl)) qE))) (qB (qZ (qB5 wG wA wB vV (qJ (pv 0) rfl) (qA (qV (q55 T S).mono hr rfl T.mg_paper_of T.kp_paper_of S.paper_of.b .nil qK (qA (qW yQ (pv 2) qG (λ_ _=>rfl)) (qA (pv 1) (qA (qW yQ (pv 2) qG (λ_ _=>rfl)) (qA (pv 3) (qA (pv 4) qE)))))) qE))) (qD (qL (qV (q55 T S).mono hr rfl T.mg_paper_of T.kp_paper_of S.paper_of.b .nil qK (qA (qW yQ (pv 2) qG (λ_ _=>rfl)) (qA (pv 1) (qA (qW yQ (pv 2) qG (λ_ _=>rfl)) (qA (pv 3) (qA (pv 4) qE))))))))))))),?_⟩
  try dsimp-beta-proj-iota-zeta-eta only[wishK,cxK]
  refine(iV rfl (iM h.j.o rfl ?_))
  dsimp only[tNil,rS]
  refine h.j.opts ev λop rs H1 np j1 k1 h1 ty=>?_
  have h1':=h.kT k1 j1.tb
  have mT:∀y∈[t.T_Plain_free],y∈fx t x r pp:=by simp
  refine(iV rfl (iM j1.o rfl ⟨x,k,sh,sr,X.s,r,rl,X.g,rfl,j1,ev,h.er,h1'.ru,h.of,by omega,?_⟩))
  unfold Sx.room at kk
  cases htk:X.s.tk k X.g with
  |none=>
   rw[htk]at kk
   exact λH2 j2 k2=>kk H2 (h1'.kT k2 j2.tb) ((k1.mono mT).trans (k2.mono mT))
  |some ybg=>
   obtain⟨y,b,g'⟩:=ybg
   rw[htk]at kk
   have fb:=q3Y h.ru.ok htk
   refine λcp H2 k2 j2 hR2 h2=>?_
   have m2:∀y∈[t.T_Plain_free,r],y∈fx t x r pp:=by simp
   have mS:∀y∈t.T_Plain_free::sf x,y∈fx t x r pp:=λy hy=>hU _ (hU _ hy)
   have k02:Keep (fx t x r pp) H H2:=(k1.mono mT).trans (k2.mono m2)
   have npr:pp∉r::t.T_Plain_free::sf x:=λz=>(kL.mp z).elim (λe=>h.nr (by rw[e];exact kW)) h.np
   have np2:pp∉[t.T_Plain_free,r]:=λz=>npr (by simp at z ⊢;rcases z with z|z<;>simp[z])
   obtain⟨ps,hp0,hpp0⟩:=h.hp
   have lps:=hpp0.len
   have h2':XX t H2 x k sh sr r rl pp ⟨X.s,g',X.ps⟩:=⟨j2,h.er,hR2,h.of,h.ep,⟨ps,k2.k _ _ np2 (k1.k _ _ (λz=>h.np (by rw[kI.mp z];simp)) hp0),Paired.mapP hpp0 λ_ _ z=>(z.keep k1 mT).keep k2 m2⟩,h.np,h.nr⟩
   have opn:=h.j.off np
   obtain⟨C0,d0,f0,er0⟩:=h.ru.ins
   have opr:op≠r:=λz=>by rw[z,er0]at np;cases np
   have opp:op≠pp:=λz=>by rw[z,hp0]at np;cases np
   have opH2:H2 op=some (.lst rs):=k2.k _ _ (λz=>by
    have z:op=t.T_Plain_free∨op=r:=by simpa using z
    rcases z with z|z
    ·exact opn (by rw[z];simp)
    ·exact opr z) h1
   refine(iV rfl (iM j2.o rfl ⟨_,rfl,iT (k:=1) (v:=.int (b:Int)) (SqT.of h2) rfl ⟨x,k,sh,sr,X.s,b,rfl,j2,fb,by omega,?_⟩⟩))
   cases hmv:XS.mvs (lvP X.s.q.P b X.s.q.V) X.s with
   |mk s o=>
    dsimp only at kk
    rw[hmv]at kk
    cases o with
    |none=>exact λH3 j3 k3=>kk H3 (h2'.on k3 j3) (k02.trans (k3.mono mS))
    |some ms=>
     refine λml us H3 j3 nm hml prm md nl k3=>?_
     dsimp only at kk
     have h3:=k3.tp _ _ h2
     have mrc:=md.rc
     have l16:(lvP X.s.q.P b X.s.q.V).length≤16:=by
      have:=h.j.w.qs.ok.p2
      unfold lvP
      refine mI (dS _ _) ?_
      rw[mH]
      exact this
     refine(iV rfl (iM j3.o rfl ⟨_,rfl,iT (k:=1) (v:=.int (b:Int)) (SqT.of h3) rfl ⟨x,k,sh,sr,s,b,rfl,j3,by rw[md.eB];exact fb.b,by rw[md.eP];exact md.fb,by omega,nl,λdk=>?_,λdk H4 j4 k4=>⟨rfl,?_⟩⟩⟩))
     ·rw[kF dk]at kk
      exact kk H3 (h2'.on k3 j3) (k02.trans (k3.mono mS))
     rw[kB dk]at kk
     have k34:Keep (t.T_Plain_free::sf x) H2 H4:=k3.trans k4
     have h4x:=h2'.on k34 j4
     obtain⟨ps4,hpp4,prp4⟩:=h4x.hp
     have lps4:=prp4.len
     have hR4:=h4x.ru
     obtain⟨C4,d4,f4,er4⟩:=hR4.ins
     have h4:=k34.tp _ _ h2
     have hop4:=k34.k _ _ opn opH2
     have mln:=j2.off nm
     have hml4:=k4.k _ _ mln hml
     have o4:=j4.o
     rw[h.ep]at o4
     refine(iV rfl (iF o4 T.cl_Store T.na_Store_papers rfl ⟨.inl ⟨rfl,_,SqL.of hpp4⟩,_,rfl,iT (k:=0) (v:=_) (SqT.of h4) rfl ⟨_,rfl,_,rfl,iT (k:=1) (v:=_) (SqT.of h4) rfl ⟨_,rfl,_,rfl,.str y,.int (b:Int),.bl true,op,ml,rs,us,rfl,hop4,hml4,λpa a1 a2 H5 s5 npa na1 na2 e5 e51 e52=>⟨pp,ps4,_,rfl,rfl,s5 _ _ hpp4,by simp only at lps4;omega,?_⟩⟩⟩⟩))
     have hpp5:=s5 _ _ hpp4
     have k6:=Keep.upd (F:=[pp]) (o:=.lst (ps4++[.ref pa])) hpp5 (λ_ z=>by cases z) (by simp)
     have hpp6:(upd H5 pp (.lst (ps4++[.ref pa]))) pp=_:=qI
     have j6:=(j4.same s5).lst (o:=.lst (ps4++[.ref pa])) hpp5 h.np
     generalize upd H5 pp (.lst (ps4++[.ref pa]))=H6 at k6 hpp6 j6 ⊢
     have m6:∀y∈[pp],y∈fx t x r pp:=by simp
     have npp:∀{y:Addr},H4 y=none→y∉[pp]:=fun {y} e z=>by
      rw[kI.mp z,hpp4]at e
      cases e
     have inF:∀{y:Addr},H4 y=none→y∉fx t x r pp:=fun {y} e z=>by
      rcases kL.mp z with z|z
      ·rw[z,hpp4]at e;cases e
      ·rcases kL.mp z with z|z
       ·rw[z,er4]at e;cases e
       ·exact(j4.off e) z
     have opp6:op∉[pp]:=λz=>opp (kI.mp z)
     have mlp:ml∉[pp]:=λz=>by
      obtain⟨ps2,e2,_⟩:=h2'.hp
      rw[kI.mp z,e2]at nm
      cases nm
     refine⟨_,rfl,iT (k:=0) (v:=_) (SqT.of (k6.tp _ _ (s5 _ _ h4))) rfl ⟨_,rfl,_,rfl,iT (k:=1) (v:=_) (SqT.of (k6.tp _ _ (s5 _ _ h4))) rfl ⟨_,rfl,_,rfl,.str y,.int (b:Int),.bl true,op,ml,rs,us,rfl,k6.k _ _ opp6 (s5 _ _ hop4),k6.k _ _ mlp (s5 _ _ hml4),λpb c1 c2 H7 s7 npb nc1 nc2 e7 e71 e72=>?_⟩⟩⟩
     have k47:Keep [pp] H4 H7:=((Keep.same s5).trans k6).trans (Keep.same s7)
     have k07:Keep (fx t x r pp) H H7:=(k02.trans (k34.mono mS)).trans (k47.mono m6)
     have ty7:Tls H7 rs (X.s.ots k):=q0M k47 (q0M k34 (q0M k2 ty))
     have prm7:Paired (TupD H7) us ms:=Paired.mapP prm λv d ⟨p',e',h'⟩=>⟨p',e',k47.tp _ _ (k4.tp _ _ h')⟩
     exact kk (.ref pb) H7 ⟨j6.same s7,h.er,(hR4.keep k47 (λy hy z=>h.nr (by rw[←kI.mp z];exact hy))),h.of,h.ep,⟨ps4++[.ref pa],s7 _ _ hpp6,L2.Paired.snoc (Paired.mapP prp4 λ_ _ z=>z.keep k47 m6) ⟨pa,a1,a2,us,rs,rfl,s7 _ _ (k6.tp _ _ e5),s7 _ _ (k6.k _ _ (npp na1) e51),ty7,s7 _ _ (k6.k _ _ (npp na2) e52),prm7,inF na1,inF na2⟩⟩,h.np,h.nr⟩ k07
noncomputable def spMr(t:Adr):Sp:=λvs H Q E=>∃x k sh sr r rl pp X,∃i Z,vs=[.ref x.s]∧XX t H x k sh sr r rl pp X∧k.ev=false∧X.s.rc.length+100*i+200<1000000∧X.ps.length+i<90000∧X.rooms k i=some Z∧(match Z with
 |(Y,.error e)=>∀H',XX t H' x k sh sr r rl pp Y→Keep (fx t x r pp) H H'→rfE t e E H'
 |(Y,.ok _)=>∀H',XX t H' x k sh sr r rl pp Y→Keep (fx t x r pp) H H'→Q .non H')
theorem q2S(T:Txt K mg t)(S:Fns K t)(B:BmIn base mg):S.Store_make_rooms.OkE P w mg base 15 (spMr t):=by
 refine S.Store_make_rooms.F.okE q2P (λvs H Q E h=>?_) (λcdv A outer s H vs Q E hr h=>?_)
 ·repeat obtain⟨_,h⟩:=h
  all_goals subst_vars;rfl
 ·obtain⟨x,k,sh,sr,r,rl,pp,X,i,Z,rfl,h,ev,rc,lp,hZ,kk⟩:=h
  refine⟨_,(qD (q8Z wV (yH (jY (j0 (pv 0) T.cl_Store T.m_Store_ready (q2B T S B).mono hr S.Plain_ready.b .nil qK))) (qD (qZ (v7 jH (pv 0) T.cl_Store T.m_Store_make_room (q3I T S B).mono hr S.Store_make_room.b .nil))))),?_⟩
  try dsimp-beta-proj-iota-zeta-eta only[wishK,cxK]
  refine⟨λn σ' H2=>σ'=[some (.ref x.s)]∧∃Y,XX t H2 x k sh sr r rl pp Y∧Keep (fx t x r pp) H H2∧Y.rooms k n=some Z∧Y.s.rc.length+100*n+200<1000000∧Y.ps.length+n<90000,⟨i,rfl,X,h,Keep.refl,hZ,rc,lp⟩,?_⟩
  rintro n σ' H2 ⟨rfl,Y,hY,k2,eY,rcY,lpY⟩
  obtain⟨m,hs,c,_⟩:=hY.j.e
  have mT:∀y∈[t.T_Plain_free],y∈fx t x r pp:=by simp
  refine(iV rfl (iM hs.o rfl ⟨x,_,_,_,m,Y.s.q,_,rfl,hs,c.ft,λl H3 hl k3 tb3=>⟨_,rfl,?_⟩⟩))
  rw[c.br,c.cl]at hl
  rw[c.br,qAQ hY.j.w hl]
  have hY3:=hY.kT k3 tb3
  have k03:=k2.trans (k3.mono mT)
  cases n with
  |zero=>
   unfold Sx.rooms at eY
   cases z:Y.s.rd k with
   |false=>rw[z,kB (by decide)]at eY;cases eY
   |true=>
    rw[z,kF rfl]at eY
    cases eY
    exact iteF (kk H3 hY3 k03)
  |succ n=>
   unfold Sx.rooms at eY
   cases z:Y.s.rd k with
   |true=>
    rw[z,kF rfl]at eY
    cases eY
    exact iteF (kk H3 hY3 k03)
   |false=>
    rw[z,kB (by decide)]at eY
    refine iteT ⟨_,λ_ _ z=>z,?_⟩
    refine(iV rfl (iM hY3.j.o rfl ⟨x,k,sh,sr,r,rl,pp,Y,rfl,hY3,ev,by omega,by omega,?_⟩))
    cases hr':Y.room k with
    |mk W o=>
     rw[hr']at eY
     cases o with
     |error e=>
      cases eY
      exact λH4 h4 k4=>kk H4 h4 (k03.trans k4)
     |ok p=>
      obtain⟨r1,r2⟩:=qEY hY.j.w hY.ru.ok hr'
      exact λv H4 h4 k4=>⟨n,dN _,rfl,W,h4,k03.trans k4,eY,by omega,by omega⟩
theorem vR(T:Txt K mg t)(S:Fns K t)(B:BmIn base mg):S.Store_make_ready.OkE P w mg base 16 (spMr t):=by
 refine S.Store_make_ready.F.okE q2O (λvs H Q E h=>?_) (λcdv A outer s H vs Q E hr h=>?_)
 ·repeat obtain⟨_,h⟩:=h
  all_goals subst_vars;rfl
 ·obtain⟨x,k,sh,sr,r,rl,pp,X,i,Z,rfl,h⟩:=h
  refine⟨_,(qD (qZ (v7 jH (pv 0) T.cl_Store T.m_Store_make_rooms (q2S T S B).mono hr S.Store_make_rooms.b .nil))),?_⟩
  try dsimp-beta-proj-iota-zeta-eta only[wishK,cxK]
  exact(iV rfl (iM h.1.j.o rfl ⟨x,k,sh,sr,r,rl,pp,X,i,Z,rfl,h⟩))
noncomputable def qKV(t:Adr):Sp:=λvs H Q E=>∃x k sh sr r rl pp X,∃n v:Int,∃i Z,vs=[.ref x.s,.int n,.int v]∧XX t H x k sh sr r rl pp X∧k.ev=false∧X.s.rc.length+100*i+300<1000000∧X.ps.length+i<90000∧sh≤64∧inB (.int n) 0 (sh-1)=true∧inB (.int v) 0 (10 ^ 30-1)=true∧¬(hold X.s.q n=false∧sr≤((hdN X.s.q.V).length:Int))∧((∃p,(n,p)∈X.s.q.V)∨X.s.q.V.length<59)∧X.ask k i n v=some Z∧(match Z with
 |(Y,.error e)=>∀H',XX t H' x k sh sr r rl pp Y→Keep (fx t x r pp) H H'→rfE t e E H'
 |(Y,.ok p)=>∀H',XX t H' x k sh sr r rl pp Y→Keep (fx t x r pp) H H'→Q (.int (p:Int)) H')
theorem XX.lay{H H2:Hp}{x:Sto}{k:Tm}{sh sr:Int}{r:Addr}{rl:List Addr}{pp:Addr}{X Y:Sx}{i:Nat}{n v:Int}{Z:Sx×Except Rf Nat}(h:XX t H x k sh sr r rl pp X)(rc:X.s.rc.length+100*i+300<1000000)(hl:(∃p,(n,p)∈X.s.q.V)∨X.s.q.V.length<59)(hZ:X.ask k i n v=some Z)(hY:X.rooms k i=some (Y,.ok ()))(n0:0≤n)(n1:n≤64)(h2:XX t H2 x k sh sr r rl pp Y){Q:VK}{E:XK}
 (kk:match Z with
  |(Y,.error e)=>∀H',XX t H' x k sh sr r rl pp Y→Keep (t.T_Plain_free::sf x) H2 H'→rfE t e E H'
  |(Y,.ok p)=>∀H',XX t H' x k sh sr r rl pp Y→Keep (t.T_Plain_free::sf x) H2 H'→Q (.int (p:Int)) H'):qBX t [.ref x.s,.int n,.int v] H2 Q E:=by
 obtain⟨_,_,kp,r1,_,rd⟩:=q0F h.j.w h.ru.ok hY
 have rd:=mL (rd rfl)
 rw[rE,rF]at rd
 unfold Sx.ask at hZ
 rw[hY]at hZ
 dsimp only at hZ
 refine h2.j.set n0 n1 (by omega) (by omega) ?_ (λdk H' j' k'=>?_) (λdk H' j' k'=>?_)
 ·rw[kp.lV]
  exact hl.imp (λz=>(kp.nm n).mpr z) id
 ·rw[kF dk]at hZ
  cases hZ
  exact kk H' (h2.on k' j') k'
 ·rw[kB dk]at hZ
  cases hZ
  exact kk H' (h2.on k' j') k'
theorem q6U(T:Txt K mg t)(S:Fns K t)(B:BmIn base mg):S.Plain_write.OkE P w mg base 17 (qKV t):=by
 refine S.Plain_write.F.okE q6G (λvs H Q E h=>?_) (λcdv A outer s H vs Q E hr h=>?_)
 ·repeat obtain⟨_,h⟩:=h
  all_goals subst_vars;rfl
 ·obtain⟨x,k,sh,sr,r,rl,pp,X,n,v,i,Z,rfl,h,ev,rc,lp,sh64,z,w,ff,hl,hZ,kk⟩:=h
  obtain⟨m,hs,c,_⟩:=h.j.e
  refine⟨_,(qB (qZ (jE (pv 0) T.cl_Store T.m_Store_check_sheet (vI T S).mono hr S.Plain_check_sheet.b .nil qK (qA (pv 1) qE))) (qB (jB (yH (jY (qV (q9Z T S).mono hr rfl T.mg_is_value T.kp_is_value S.is_value.b .nil qK (qA (pv 2) qE)))) (qD jF) qQ) (qB (qZ (jE (pv 0) T.cl_Store T.m_Store_check_share (q2A T S).mono hr S.Plain_check_share.b .nil qK (qA (pv 1) qE))) (qB (qZ (v7 jH (pv 0) T.cl_Store T.m_Store_make_ready (vR T S B).mono hr S.Store_make_ready.b .nil)) (qD (qL (jW jH (pv 0) T.cl_Store T.m_Store_lay (q15 T S B).mono hr S.Plain_lay.b .nil (qA (pv 1) (qA (pv 2) qE))))))))),?_⟩
  try dsimp-beta-proj-iota-zeta-eta only[wishK,cxK]
  refine(iV rfl (iM hs.o rfl ⟨_,rfl,x,.int sr,_,_,m,X.s.q,.int n,sh,rfl,hs,.int _,?_⟩))
  rw[kF z]
  obtain⟨n',e,n0,n1⟩:=qFS z
  injection e with e
  subst e
  refine⟨_,rfl,.int v,rfl,.int _,_,rfl,?_⟩
  rw[w]
  refine iteF ?_
  refine(iV rfl (iM hs.o rfl ⟨_,rfl,x,.int sh,_,_,m,X.s.q,n,sr,rfl,hs,c.ft,hd64 h.j.w,λH1 s1=>?_⟩))
  rw[kB ff]
  have h1:=h.same s1
  have hZ':=hZ
  unfold Sx.ask at hZ'
  cases hR:X.rooms k i with
  |none=>rw[hR]at hZ';cases hZ'
  |some YR=>
   obtain⟨Y,o⟩:=YR
   refine(iV rfl (iM h1.j.o rfl ⟨x,k,sh,sr,r,rl,pp,X,i,(Y,o),rfl,h1,ev,by omega,lp,hR,?_⟩))
   rw[hR]at hZ'
   cases o with
   |error e=>
    cases hZ'
    exact λH2 h2 k2=>kk H2 h2 ((Keep.same s1).trans k2)
   |ok u=>
    refine λH2 h2 k2=>?_
    refine(iV rfl (iM h2.j.o rfl ⟨_,rfl,_,rfl,?_⟩))
    dsimp only[tNil,pA,rS,gY]
    refine h.lay rc hl hZ hR n0 (by omega) h2 ?_
    have mS:∀y∈t.T_Plain_free::sf x,y∈fx t x r pp:=λy hy=>hU _ (hU _ hy)
    obtain⟨W,o⟩:=Z
    cases o with
    |error e=>exact λH3 h3 k3=>kk H3 h3 (((Keep.same s1).trans k2).trans (k3.mono mS))
    |ok p=>exact λH3 h3 k3=>kk H3 h3 (((Keep.same s1).trans k2).trans (k3.mono mS))
theorem XR.forg{H H':Hp}{x:Sto}{k:Tm}{sh sr:Int}{s:XS}(j:XR t H x k sh sr s)(n:Int)(hb:∀{m},StAt t H x (.int sh) (.int sr) (.int (k.ie:Int)) (.int k.sp) m s.q→BkAt t H' x.k (s.q.forget n))(kb:Keep (bf x.k) H H'):XR t H' x k sh sr (s.forg n):=by
 obtain⟨m,st,c,pg⟩:=j.e
 exact⟨⟨m,st.note (hb st) kb,⟨⟨c.ft.ok,c.ft.oq.forget n,c.ft.eB,c.ft.eP⟩,c.br,c.li,c.mo,c.cl,c.lf,c.rc⟩,pg.keep kb⟩,j.w.forg n⟩
noncomputable def spGu(t:Adr):Sp:=λvs H Q E=>∃x k sh sr r rl pp X,∃l0:Addr,∃ss:List Int,vs=[.ref x.s,.ref l0]∧XX t H x k sh sr r rl pp X∧k.ev=false∧H l0=some (.lst (ss.map V.int))∧(∀n∈ss,inB (.int n) 0 (sh-1)=true)∧(gvn X.s.hl ss=[]→∀H',Same H H'→Q (.int 0) H')∧(gvn X.s.hl ss≠[]→∃i Z,X.s.rc.length+100*i+300<1000000∧X.ps.length+i<90000∧((∃p,((64:Int),p)∈X.s.q.V)∨X.s.q.V.length<59)∧X.ask k i 64 (XS.bits (rst X.s.hl (gvn X.s.hl ss)))=some Z∧(match Z with
 |(Y,.error e)=>∀H',XX t H' x k sh sr r rl pp Y→Keep (fx t x r pp) H H'→rfE t e E H'
 |(Y,.ok p)=>∀H',XX t H' x k sh sr r rl pp ⟨Y.s.forgs (gvn X.s.hl ss),Y.g,Y.ps⟩→Keep (fx t x r pp) H H'→Q (.int ((gvn X.s.hl ss).length:Nat)) H'))
theorem q4V(T:Txt K mg t)(S:Fns K t)(B:BmIn base mg):S.Plain_give_up.OkE P w mg base 17 (spGu t):=by
 refine S.Plain_give_up.F.okE yI (λvs H Q E h=>?_) (λcdv A outer s H vs Q E hr h=>?_)
 ·repeat obtain⟨_,h⟩:=h
  all_goals subst_vars;rfl
 ·obtain⟨x,k,sh,sr,r,rl,pp,X,l0,ss,rfl,h,ev,hl0,hin,kn,kk⟩:=h
  have s9:(99999:Nat)<sizeLine:=by decide
  obtain⟨m,hs,c,_⟩:=h.j.e
  refine⟨_,(qB (uG wV rfl (jP (pv 1)) (qX (i:=2) yI.nd rfl (Or.inl rfl)) (qD (qZ (jE (pv 0) T.cl_Store T.m_Store_check_sheet (vI T S).mono hr S.Plain_check_sheet.b .nil qK (qA (pv 2) qE))))) (qB (qU (i:=3) yI.nd rfl (Or.inl rfl) (j0 (pv 0) T.cl_Store T.m_Store_held (q05 T S).mono hr S.Plain_held.b .nil qK)) (qB (qU (i:=4) yI.nd rfl (Or.inr rfl) (yU ["sheets","sheet"] [1] rfl (jP (pv 3)) (λ_ _ _ _ _=>(qX (i:=1) (show List.Nodup (["sheets","sheet"]:List Str)from by decide) rfl (Or.inl rfl))) (λ_ _ _ _ _=>(yD (qO (q65 (K:=K) rfl) (pv 1) (pv 0) rfl))) (λ_ _ _ _ _=>(pv 1)) (by kernel_rfl) (jQ (by decide)))) (qB (jB (qO (qAE hr.units) (pv 4) (jZ qE) (qR _)) (qD (qL qG)) qQ) (qB (qZ (v7 jH (pv 0) T.cl_Store T.m_Store_make_ready (vR T S B).mono hr S.Store_make_ready.b .nil)) (qB (qZ (jW jH (pv 0) T.cl_Store T.m_Store_lay (q15 T S B).mono hr S.Plain_lay.b .nil (qA (zK rfl T.mg_ROLL ⟨_,rfl⟩ (v:=.int 64)) (qA (qV (q6P T S).mono hr rfl T.mg_bits_of T.kp_bits_of S.bits_of.b .nil qK (qA (yU ["gone","sheet"] [4] rfl (jP (pv 3)) (λ_ _ _ _ _=>(qX (i:=1) (show List.Nodup (["gone","sheet"]:List Str)from by decide) rfl (Or.inl rfl))) (λ_ _ _ _ _=>(yD (qO (q6W (K:=K) rfl) (pv 1) (pv 0) rfl))) (λ_ _ _ _ _=>(pv 1)) (by kernel_rfl) (jQ (by decide))) qE)) qE)))) (qB (uG wV rfl (jP (pv 4)) (qX (i:=2) yI.nd rfl (Or.inl rfl)) (qD (qZ (jE (qJ (pv 0) rfl) T.cl_Book T.m_Book_forget (q29 T S).mono hr S.Book_forget.b .nil qK (qA (pv 2) qE))))) (qD (qL (j8 jD (by rfl) T.b_len gO (qA (pv 4) qE))))))))))),?_⟩
  try dsimp-beta-proj-iota-zeta-eta only[wishK,cxK]
  refine⟨_,rfl,l0,rfl,⟨_,SqL.of hl0⟩,?_⟩
  refine uD (K:=K) (xs:=ss.map V.int) (λi σ' H2=>∃y,σ'=[some (.ref x.s),some (.ref l0),y,none,none]∧H=H2) ⟨_,rfl,rfl⟩ (λi σ' H2 hi hp=>?_) (λi v σ' H2 hv hp=>?_) (λσ' H2 hp=>?_)
  ·obtain⟨y,rfl,rfl⟩:=hp
   exact SqL.of hl0
  ·obtain⟨y,rfl,rfl⟩:=hp
   rw[mB]at hv
   obtain⟨n,hw,rfl⟩:=mU.mp hv
   refine(iV rfl (iM hs.o rfl ⟨_,rfl,x,_,_,_,m,X.s.q,.int n,sh,rfl,hs,.int _,?_⟩))
   rw[kF (hin n (gK hw))]
   exact⟨_,rfl,rfl⟩
  obtain⟨y,rfl,rfl⟩:=hp
  refine(iV rfl (iM hs.o rfl ⟨x,.int sh,_,_,_,m,X.s.q,rfl,hs,c.ft,hd64 h.j.w,λhl ns H1 hn s1 n1 h1=>?_⟩))
  have l64:ns.length<64:=by rw[hn.pm.length_eq];exact hd64 h.j.w
  obtain rfl:=qF8 hn
  refine⟨_,rfl,hl,rfl,⟨_,SqL.of h1⟩,λD H2 nD s2 hD=>?_⟩
  refine uS (K:=K) (xs:=X.s.hl.map V.int) (D:=D) (λi H3=>Same H1 H3∧H3 D=some (.lst ((gvn (X.s.hl.take i) ss).map V.int))) ⟨s2,hD⟩ (λi H3 hp=>SqL.of (hp.1 _ _ h1)) (λi v H3 hv hp=>?_) (λH3 hp=>?_)
  ·obtain⟨sm,hd⟩:=hp
   rw[mB]at hv
   obtain⟨n,hw,rfl⟩:=mU.mp hv
   have hi:=(kC.mp hw).1
   have ev':=(kC.mp hw).2
   refine⟨_,rfl,_,rfl,l0,_,rfl,.inl (SqL.of (sm _ _ (s1 _ _ hl0))),rfl,qBY,_,rfl,?_⟩
   show if inV (.int n) (ss.map V.int)=true then _ else _
   rw[q46]
   have eg:gvn (X.s.hl.take (i+1)) ss=gvn (X.s.hl.take i) ss++(if n∈ss then[n]else[]):=by
    unfold gvn
    rw[←mE hi,gH,ev',mR]
    by_cases z:n∈ss
    ·rw[hC z,kF z];rfl
    ·rw[hG z,kB z];rfl
   rw[eg]
   by_cases z:n∈ss
   ·rw[hC z,kF z]
    refine iteT ?_
    refine⟨_,rfl,_,hd,?_,λb o e=>?_,?_⟩
    ·rw[hI]
     have l1:(gvn (X.s.hl.take i) ss).length≤(X.s.hl.take i).length:=mD _ _
     rw[gE]at l1
     omega
    ·rw[qC (qF e nD)]
     exact sm _ _ e
    ·rw[qI,mV]
     rfl
   ·rw[hG z,kB z,gY]
    exact iteF ⟨sm,hd⟩
  obtain⟨sm,hd⟩:=hp
  rw[hI,gC]at hd
  have s03:Same H H3:=s1.trans sm
  refine⟨_,rfl,sz0,λe H4 n4 s4 h4=>⟨D,_,e,rfl,rfl,SqL.of (s4 _ _ hd),SqL.of h4,_,rfl,?_⟩⟩
  have s04:=s03.trans s4
  by_cases z:gvn X.s.hl ss=[]
  ·rw[z]
   exact iteT (kn z H4 s04)
  rw[hG (λy=>z (by cases hq:gvn X.s.hl ss with|nil=>rfl|cons a r=>rw[hq]at y;cases y))]
  refine iteF ?_
  obtain⟨i,Z,rc,lp,hl6,hZ,kk⟩:=kk z
  have h4x:=h.same s04
  have hZ':=hZ
  unfold Sx.ask at hZ'
  cases hR:X.rooms k i with
  |none=>rw[hR]at hZ';cases hZ'
  |some YR=>
   obtain⟨Y,o⟩:=YR
   refine(iV rfl (iM h4x.j.o rfl ⟨x,k,sh,sr,r,rl,pp,X,i,(Y,o),rfl,h4x,ev,by omega,lp,hR,?_⟩))
   rw[hR]at hZ'
   cases o with
   |error e=>
    cases hZ'
    exact λH2 h2 k2=>kk H2 h2 ((Keep.same s04).trans k2)
   |ok u=>
    refine λH5 h5 k5=>?_
    obtain⟨ps0,hp0,_⟩:=h.hp
    obtain⟨C0,d0,f0,er0⟩:=h.ru.ins
    have offF:∀{y:Addr},H y=none→y∉fx t x r pp:=fun {y} e zz=>by
     rcases kL.mp zz with zz|zz
     ·rw[zz,hp0]at e;cases e
     ·rcases kL.mp zz with zz|zz
      ·rw[zz,er0]at e;cases e
      ·exact h.j.off e zz
    have dF:=offF (s1.free nD)
    have h1_5:=k5.k _ _ (offF n1) (s4 _ _ (sm _ _ h1))
    have hd5:=k5.k _ _ dF (s4 _ _ hd)
    refine(iV rfl (iM h5.j.o rfl ?_))
    refine⟨_,rfl,hl,rfl,⟨_,SqL.of h1_5⟩,λD2 H6 n6 s6 hD2=>?_⟩
    refine uS (K:=K) (xs:=X.s.hl.map V.int) (D:=D2) (λi H7=>Same H5 H7∧H7 D2=some (.lst ((rst (X.s.hl.take i) (gvn X.s.hl ss)).map V.int))) ⟨s6,hD2⟩ (λi H7 hp=>SqL.of (hp.1 _ _ h1_5)) (λi v H7 hv hp=>?_) (λH7 hp=>?_)
    ·obtain⟨sm7,hd7⟩:=hp
     rw[mB]at hv
     obtain⟨n,hw,rfl⟩:=mU.mp hv
     have hi:=(kC.mp hw).1
     have ev':=(kC.mp hw).2
     refine⟨_,rfl,_,rfl,D,_,rfl,.inl (SqL.of (sm7 _ _ hd5)),rfl,qBY,_,rfl,?_⟩
     show if(!inV (.int n) ((gvn X.s.hl ss).map V.int))=true then _ else _
     rw[q46]
     have eg:rst (X.s.hl.take (i+1)) (gvn X.s.hl ss)=rst (X.s.hl.take i) (gvn X.s.hl ss)++(if n∈gvn X.s.hl ss then[]else[n]):=by
      unfold rst
      rw[←mE hi,gH,ev',mR]
      by_cases y:n∈gvn X.s.hl ss
      ·rw[hC y,kF y];rfl
      ·rw[hG y,kB y];rfl
     rw[eg]
     by_cases y:n∈gvn X.s.hl ss
     ·rw[hC y,kF y,gY]
      exact iteF ⟨sm7,hd7⟩
     ·rw[hG y,kB y]
      refine iteT ?_
      refine⟨_,rfl,_,hd7,?_,λb o e=>?_,?_⟩
      ·rw[hI]
       have l1:(rst (X.s.hl.take i) (gvn X.s.hl ss)).length≤(X.s.hl.take i).length:=mD _ _
       rw[gE]at l1
       omega
      ·rw[qC (qF e n6)]
       exact sm7 _ _ e
      ·rw[qI,mV]
       rfl
    obtain⟨sm7,hd7⟩:=hp
    rw[hI,gC]at hd7
    obtain⟨en,lt⟩:=qHH (ns:=rst X.s.hl (gvn X.s.hl ss)) (λn hn'=>qHG h.j.w n (mM.mp hn').1)
    rw[en]at hd7
    refine⟨D2,_,rfl,SqL.of hd7,lt,?_⟩
    have h7:=h5.same sm7
    have mS:∀y∈t.T_Plain_free::sf x,y∈fx t x r pp:=λy hy=>hU _ (hU _ hy)
    dsimp only[tNil,pA,rS,gY]
    refine h.lay (Z:=Z) rc hl6 hZ hR (by decide) (by decide) h7 ?_
    obtain⟨W,o⟩:=Z
    have k07:Keep (fx t x r pp) H H7:=((Keep.same s04).trans k5).trans (Keep.same sm7)
    cases o with
    |error e=>exact λH8 h8 k8=>kk H8 h8 (k07.trans (k8.mono mS))
    |ok p=>
     refine λH8 h8 k8=>?_
     have hd8:=k8.k _ _ (λy=>dF (mS _ y)) (sm7 _ _ hd5)
     refine⟨_,rfl,D,rfl,⟨_,SqL.of hd8⟩,?_⟩
     refine uD (K:=K) (xs:=(gvn X.s.hl ss).map V.int) (λi σ' H'=>∃y',σ'=[some (.ref x.s),some (.ref l0),y',some (.ref hl),some (.ref D)]∧XR t H' x k sh sr (W.s.forgs ((gvn X.s.hl ss).take i))∧Keep (bf x.k) H8 H') ⟨_,rfl,h8.j,Keep.refl⟩ (λi σ' H' hi hp=>?_) (λi v σ' H' hv hp=>?_) (λσ' H' hp=>?_)
     ·obtain⟨y',rfl,j',kb⟩:=hp
      exact SqL.of (kb.k _ _ (λw=>dF (mS _ (by simp[sf,w]))) hd8)
     ·obtain⟨y',rfl,j',kb⟩:=hp
      rw[mB]at hv
      obtain⟨n,hw,rfl⟩:=mU.mp hv
      obtain⟨m',st,c',_⟩:=j'.e
      refine(iV rfl (iF st.o T.cl_Store T.na_Store_book rfl (iM st.bk.o rfl ⟨_,rfl,x.k,_,n,rfl,st.bk,j'.w.qs.ok,st.ds,λH9 hb9 k9=>?_⟩)))
      have k9:Keep (bf x.k) H' H9:=k9.mono (by intro b hb;simp at hb;rcases hb with rfl|rfl<;>simp[bf])
      refine⟨_,rfl,?_,kb.trans k9⟩
      rw[qAS hw]
      exact j'.forg n (λ_=>hb9) k9
     ·obtain⟨y',rfl,j',kb⟩:=hp
      rw[hI,gC]at j'
      have hd9:=kb.k _ _ (λw=>dF (mS _ (by simp[sf,w]))) hd8
      refine⟨_,rfl,D,_,rfl,.inl (SqL.of hd9),?_⟩
      rw[hI]
      have kb':Keep (t.T_Plain_free::sf x) H8 H':=kb.mono (λb hb=>by simp[sf,hb])
      exact kk H' (h8.on kb' j') ((k07.trans (k8.mono mS)).trans (kb'.mono mS))
theorem TbF.updD{H:Hp}{p:Addr}{kvs:List (Key×V)}{o:HO}(h:TbF t H)(e:H p=some (.dK kvs)):TbF t (upd H p o):=by
 obtain⟨ps,hT,h⟩:=h
 refine⟨ps,by rw[qC (jS hT e (by intro z;cases z))];exact hT,?_⟩
 rcases h with h|⟨c,h,hc⟩
 ·exact .inl h
 ·exact .inr ⟨c,h,by rw[qC (jS hc e (by intro z;cases z))];exact hc⟩
section
variable{H H':Hp}{x:Sto}{k:Tm}{sh sr:Int}{r:Addr}{rl:List Addr}{pp:Addr}{X:Sx}
theorem XX.dct(h:XX t H x k sh sr r rl pp X){p:Addr}{kvs kvs':List (Key×V)}(e:H p=some (.dK kvs))(np:p∉x.a.li::fx t x r pp)(nr:p∉rl):XX t (upd H p (.dK kvs')) x k sh sr r rl pp X:=by
 have kk:=Keep.upd (F:=[p]) (o:=.dK kvs') e (λ_ z=>by cases z) (by simp)
 obtain⟨ps,h1,h2⟩:=h.hp
 obtain⟨m,st,_⟩:=h.j.e
 have fr:∀{y:Addr} {xs:List V},H y=some (.lst xs)→(upd H p (.dK kvs')) y=some (.lst xs):=fun {y xs} e'=>kk.k _ _ (λz=>by
  rw[kI.mp z,e]at e'
  cases e') e'
 refine⟨h.j.keep kk (λy hy z=>?_) (TbF.updD st.tb e),h.er,h.ru.keep kk (λy hy z=>?_),h.of,h.ep,⟨ps,fr h1,Paired.mapP h2 λv pa ⟨a,l1,l2,us,rs,e1,e2,e3,e4,e5,e6,e7,e8⟩=>⟨a,l1,l2,us,rs,e1,kk.tp _ _ e2,fr e3,q0M kk e4,fr e5,Paired.mapP e6 λv d ⟨p',e',h'⟩=>⟨p',e',kk.tp _ _ h'⟩,e7,e8⟩⟩,h.np,h.nr⟩
 ·rw[kI.mp z]at hy
  rcases gM.mp hy with hy|hy
  ·have hy:p=x.s∨p=x.tm:=by simpa using hy
   rcases hy with h|h
   ·rw[h,st.o]at e;cases e
   ·rw[h,st.te]at e;cases e
  ·rcases kL.mp hy with h|h
   ·exact np (by rw[h];simp)
   ·exact np (by simp[h])
 ·rw[kI.mp z]at hy
  rcases kL.mp hy with h|h
  ·exact np (by rw[h];simp)
  ·exact nr h
theorem XX.chip(h:XX t H x k sh sr r rl pp X):∃m,ChipAt t.C_Chip H x.c x.a m∧m.Ok∧m.lf=X.s.lf∧m.rc=X.s.rc∧m.cl=X.s.cl∧m.bl=(X.s.q.B:Int)∧m.pg=(X.s.q.P:Int)∧PgAt H m.bo X.s.pg∧∀l,(∀i,l=some i→0≤i)→∀H',ChipAt t.C_Chip H' x.c x.a { m with lf:=l }→Keep (foot x.c x.a) H H'→XX t H' x k sh sr r rl pp ⟨{ X.s with lf:=l },X.g,X.ps⟩:=by
 obtain⟨m,st,c,pg⟩:=h.j.e
 refine⟨m,st.ch,c.ft.ok,c.lf,c.rc,c.cl,c.ft.eB,c.ft.eP,pg,λl hl H' hc k'=>?_⟩
 have k2:Keep (t.T_Plain_free::sf x) H H':=k'.mono (λy hy=>by unfold sf;exact hU _ (gU _ hy))
 have ok':({ m with lf:=l }:CM).Ok:=⟨c.ft.ok.bl1,c.ft.ok.bl2,c.ft.ok.pg1,c.ft.ok.pg2,c.ft.ok.nbo,c.ft.ok.ncl,c.ft.ok.ndc,c.ft.ok.nbr,c.ft.ok.lim,c.ft.ok.nrc⟩
 exact h.on k2 ⟨⟨_,st.put hc k' rfl rfl,⟨⟨ok',c.ft.oq,c.ft.eB,c.ft.eP⟩,c.br,c.li,c.mo,c.cl,rfl,c.rc⟩,pg.keep k'⟩,h.j.w.lf hl⟩
theorem XX.inF(h:XX t H x k sh sr r rl pp X):∀y∈fx t x r pp,∃o,H y=some o:=λy hy=>by
 rcases kL.mp hy with e|hy
 ·obtain⟨ps,e',_⟩:=h.hp
  exact⟨_,by rw[e];exact e'⟩
 ·rcases kL.mp hy with e|hy
  ·obtain⟨_,_,_,z⟩:=h.ru.ins
   exact⟨_,by rw[e];exact z⟩
  ·exact h.j.inH y hy
end
structure KX(t:Adr)(H:Hp)(x:Sto)(k:Tm)(sh:Int)(sr:Nat)(r:Addr)(rl:List Addr)(pp:Addr)(X:Sx)(kd:Addr)(KD:Mp)(n:Nat):Prop where
 h:XX t H x k sh (sr:Int) r rl pp X
 d:Kd k sh sr X KD
 hk:H kd=some (.dK (dI KD))
 nk:kd∉x.a.li::fx t x r pp
 nr:kd∉rl
 rcn:X.s.rc.length≤300*n
 psn:X.ps.length≤20*n
section
variable{H H':Hp}{x:Sto}{k:Tm}{sh:Int}{sr:Nat}{r:Addr}{rl:List Addr}{pp:Addr}{X X':Sx}{kd:Addr}{KD KD':Mp}{n n':Nat}
theorem KX.same(h:KX t H x k sh sr r rl pp X kd KD n)(s:Same H H'):KX t H' x k sh sr r rl pp X kd KD n:={ h with h:=h.h.same s,hk:=s _ _ h.hk }
theorem KX.nkF(h:KX t H x k sh sr r rl pp X kd KD n):kd∉fx t x r pp:=λz=>h.nk (hU _ z)
theorem KX.hold(h:KX t H x k sh sr r rl pp X kd KD n){y:Int}:hold X.s.q y=decide (y∈KD.map (·.1)):=by
 unfold W1.hold
 exact decide_eq_decide.mpr h.d.pm.mem_iff
theorem KX.set(h:KX t H x k sh sr r rl pp X kd KD n)(hx:XX t H' x k sh (sr:Int) r rl pp X')(kk:Keep (fx t x r pp) H H')(d:Kd k sh sr X' KD')(rc:X'.s.rc.length≤300*n')(ps:X'.ps.length≤20*n'):KX t (upd H' kd (.dK (dI KD'))) x k sh sr r rl pp X' kd KD' n':=
 ⟨hx.dct (kk.k _ _ h.nkF h.hk) h.nk h.nr,d,qI,h.nk,h.nr,rc,ps⟩
theorem KX.stay(h:KX t H x k sh sr r rl pp X kd KD n)(hx:XX t H' x k sh (sr:Int) r rl pp X')(kk:Keep (fx t x r pp) H H')(d:Kd k sh sr X' KD)(rc:X'.s.rc.length≤300*n')(ps:X'.ps.length≤20*n'):KX t H' x k sh sr r rl pp X' kd KD n':=
 ⟨hx,d,kk.k _ _ h.nkF h.hk,h.nk,h.nr,rc,ps⟩
theorem KX.lf(h:KX t H x k sh sr r rl pp X kd KD n){l:Option Int}(hl:∀i,l=some i→0≤i)(hx:XX t H' x k sh (sr:Int) r rl pp ⟨{ X.s with lf:=l },X.g,X.ps⟩)(kk:Keep (foot x.c x.a) H H'):KX t H' x k sh sr r rl pp ⟨{ X.s with lf:=l },X.g,X.ps⟩ kd KD n:=
 ⟨hx,h.d.lf hl,kk.k _ _ (λz=>h.nkF (by simp[sf,z])) h.hk,h.nk,h.nr,h.rcn,h.psn⟩
end
theorem qH3{KD:Mp}{n:Int}(nd:(KD.map (·.1)).Nodup):(valV (dI KD) (Sum.inl n:Key)).isSome=decide (n∈KD.map (·.1)):=by
 by_cases z:n∈KD.map (·.1)
 ·obtain⟨y,hy,rfl⟩:=kO.mp z
  rw[q3U (m:=y.2) nd hy,hC z]
  rfl
 ·rw[q0S z,hG z]
  rfl
noncomputable def spSz(K:W.Frag):Sp:=λvs H Q _=>∃a ns,vs=[.ref a]∧SqL K H a (List.map V.int ns)∧∀c P i s:Nat,1≤c→c≤4→1≤P→P≤4→i≤2→1≤s→s+2≤c*P→NewO H (.lst [.int ((c+1+i:Nat):Int),.int (P:Int),.int (s:Int),.int (i:Int)]) Q
theorem q8T(T:Txt K mg t)(S:Fns K t):S.law_shape.Ok0 P w mg base 2 (spSz K):=by
 refine S.law_shape.F.ok0 yP λcdv A _ s H vs Q E hr h=>?_
 ·obtain⟨a,ns,rfl,hS,k⟩:=h
  refine⟨_,(qB (qU (i:=1) yP.nd rfl (Or.inl rfl) (qS uH qG (qS uI (qV (jR T S).mono hr rfl T.mg_law_cell_at T.kp_law_cell_at S.law_cell_at.b .nil qK (qA (pv 0) (qA qG qE))) qG))) (qB (qU (i:=2) yP.nd rfl (Or.inl rfl) (qS uH qG (qS uI (qV (jR T S).mono hr rfl T.mg_law_cell_at T.kp_law_cell_at S.law_cell_at.b .nil qK (qA (pv 0) (qA qG qE))) qG))) (zM (jB (qO q07 (qS v6 (pv 2) (pv 1)) qG (qR _)) (qD (qU (i:=2) yP.nd rfl (Or.inl rfl) qG)) qQ) (qB (qU (i:=3) yP.nd rfl (Or.inl rfl) (qS uI (qV (jR T S).mono hr rfl T.mg_law_cell_at T.kp_law_cell_at S.law_cell_at.b .nil qK (qA (pv 0) (qA qG qE))) qG)) (qB (qU (i:=4) yP.nd rfl (Or.inl rfl) (qS vJ (qS v6 (pv 2) (pv 1)) qG)) (zM (jB (qO uN (qS uI (qV (jR T S).mono hr rfl T.mg_law_cell_at T.kp_law_cell_at S.law_cell_at.b .nil qK (qA (pv 0) (qA qG qE))) qG) qG (qR _)) (qD (qU (i:=4) yP.nd rfl (Or.inl rfl) (qS uH qG (qS uI (qS uF (qV (jR T S).mono hr rfl T.mg_law_cell_at T.kp_law_cell_at S.law_cell_at.b .nil qK (qA (pv 0) (qA qG qE))) qG) (pv 4))))) qQ) (qD (qL (jZ (qA (qS uH (qS uH (pv 2) qG) (pv 3)) (qA (pv 1) (qA (pv 4) (qA (pv 3) qE))))))))))))),?_⟩
  try dsimp-beta-proj-iota-zeta-eta only[wishK,cxK]
  refine⟨_,rfl,a,ns,0,rfl,hS,by decide,_,_,rfl,rfl,(by show(0:Int)<4;decide),iI ?_⟩
  refine⟨_,rfl,a,ns,1,rfl,hS,by decide,_,_,rfl,rfl,(by show(0:Int)<4;decide),iI ?_⟩
  try dsimp only
  have c0:=vZ (jV ns 0) 4 (by decide)
  have c1:=vZ (jV ns 1) 4 (by decide)
  obtain⟨P0,eP0⟩:∃n:Nat,1+jV ns 0%4=(n:Int):=⟨(1+jV ns 0%4).toNat,by omega⟩
  obtain⟨c',ec⟩:∃n:Nat,1+jV ns 1%4=(n:Int):=⟨(1+jV ns 1%4).toNat,by omega⟩
  rw[eP0,ec]
  have hP1:1≤P0:=by omega
  have hP2:P0≤4:=by omega
  have hc1:1≤c':=by omega
  have hc2:c'≤4:=by omega
  clear c0 c1 eP0 ec
  refine⟨λσ' H'=>∃c:Nat,σ'=[some (.ref a),some (.int (P0:Int)),some (.int (c:Int)),none,none]∧H=H'∧1≤c∧c≤4∧3≤c*P0,?_,?_⟩
  ·refine⟨_,rfl,_,rfl,iI ⟨.inl ⟨by omega,by omega⟩,iI ⟨_,rfl,?_⟩⟩⟩
   refine ite2 (λz=>?_) (λz=>?_)
   ·exact⟨3,rfl,rfl,by decide,by decide,by omega⟩
   ·have z:¬(c':Int)*(P0:Int)<3:=λy=>z (hC y)
    rw[←gZ]at z
    exact⟨c',rfl,rfl,hc1,hc2,by omega⟩
  rintro σ' _ ⟨c,rfl,rfl,p1,p2,cp⟩
  refine⟨_,rfl,a,ns,2,rfl,hS,by decide,_,_,rfl,rfl,(by show(0:Int)<3;decide),?_⟩
  have c2:=vZ (jV ns 2) 3 (by decide)
  try dsimp only
  obtain⟨i,ei⟩:∃n:Nat,jV ns 2%3=(n:Int):=⟨(jV ns 2%3).toNat,by omega⟩
  rw[ei]
  have hi:i≤2:=by omega
  clear c2 ei
  refine⟨_,rfl,_,rfl,iI ⟨.inl ⟨by omega,by omega⟩,iI ?_⟩⟩
  try dsimp only
  obtain⟨M,eM⟩:∃n:Nat,(c:Int)*(P0:Int)-2=(n:Int):=⟨c*P0-2,by rw[←gZ];omega⟩
  rw[eM]
  have hM:M+2=c*P0:=by
   rw[←gZ]at eM
   omega
  refine⟨λσ' H'=>∃s:Nat,σ'=[some (.ref a),some (.int (P0:Int)),some (.int (c:Int)),some (.int (i:Int)),some (.int (s:Int))]∧H=H'∧1≤s∧s≤M,?_,?_⟩
  ·refine⟨_,rfl,a,ns,3,rfl,hS,by decide,_,_,rfl,rfl,(by show(0:Int)<3;decide),rfl,_,rfl,?_⟩
   refine ite2 (λz=>?_) (λz=>?_)
   ·refine⟨_,rfl,a,ns,3,rfl,hS,by decide,_,_,rfl,rfl,⟨by decide,by decide⟩,_,rfl,iI ⟨(by show(0:Int)<(M:Int);omega),iI ?_⟩⟩
    have c3:=vZ (jV ns 3 / 3) (M:Int) (by omega)
    try dsimp only
    obtain⟨s,es⟩:∃n:Nat,1+jV ns 3 / 3%(M:Int)=(n:Int):=⟨(1+jV ns 3 / 3%(M:Int)).toNat,by omega⟩
    rw[es]
    exact⟨s,rfl,rfl,by omega,by omega⟩
   ·exact⟨M,rfl,rfl,by omega,by omega⟩
  rintro σ' _ ⟨s,rfl,rfl,s1,s2⟩
  refine⟨_,rfl,iI ⟨_,rfl,iI ⟨_,rfl,_,rfl,_,rfl,sz4,?_⟩⟩⟩
  exact k c P0 i s p1 p2 hP1 hP2 hi s1 (by omega)
theorem q7V{n:Int}:∀{kvs:List (Key×V)} {ks:List Int},kvs.map (·.1)=ks.map Sum.inl→(valV kvs (Sum.inl n:Key)).isSome=decide (n∈ks)
 | [],[],_=>rfl
 | [],_::_,h=>by cases h
 |_::_,[],h=>by cases h
 |y::kvs,a::ks,h=>by
  rw[mG,mG]at h
  injection h with h1 h2
  by_cases e:a=n
  ·rw[q08 (by rw[h1,e]),hC (by rw[e];simp)]
   rfl
  ·rw[vF (λz=>e (rV (h1.symm.trans z))),q7V h2]
   by_cases z:n∈ks
   ·rw[hC z,hC (hU _ z)]
   ·rw[hG z,hG (λw=>?_)]
    rcases kL.mp w with w|w
    ·exact e w.symm
    ·exact z w
noncomputable def qKW:Sp:=λvs H Q _=>∃kd kvs,∃ks:List Int,∃cell:Int,∃w s:Nat,vs=[.int cell,.ref kd,.int (w:Int),.int (s:Int)]∧1≤w∧H kd=some (.dK kvs)∧kvs.map (·.1)=ks.map Sum.inl∧(∀n∈ks,0≤n∧n<(w:Int))∧ks.length<64∧1≤s∧∀(n:Int) H',Same H H'→0≤n→n<(w:Int)→(n∈ks∨ks.length<s)→Q (.int n) H'
theorem q8U(T:Txt K mg t)(S:Fns K t):S.law_sheet.Ok0 P w mg base 1 qKW:=by
 refine S.law_sheet.F.ok0 q14 λcdv A _ s H vs Q E hr h=>?_
 ·obtain⟨kd,kvs,ks,cell,w',s',rfl,w1,hk,ek,kb,l64,s1,k⟩:=h
  have hu:=q1G hr
  have lk:kvs.length=ks.length:=by
   have:=g0 List.length ek
   rw[hI,hI]at this
   exact this
  refine⟨_,(qB (qU (i:=4) q14.nd rfl (Or.inl rfl) (qS uI (pv 0) (pv 2))) (qB (jB (qDU (PW.pt (q5R (qA2 (q81 hu (pv 4) (pv 1))) (q2Z (qO q07 (j8 qCE (by rfl) T.b_len gO (qA (pv 1) qE)) (pv 3) (qR _)))))) (qD (qL (pv 4))) qQ) (qB (qU (i:=5) q14.nd rfl (Or.inl rfl) (j8 (q6X rfl) (by rfl) T.b_sorted (by kernel_rfl) (qA (pv 1) qE))) (qD (qL (qW qY (pv 5) (qS uI (pv 0) (j8 jD (by rfl) T.b_len gO (qA (pv 5) qE))) (λ_ _=>rfl))))))),?_⟩
  try dsimp-beta-proj-iota-zeta-eta only[wishK,cxK]
  refine⟨_,rfl,_,rfl,iI ⟨(by show(0:Int)<(w':Int);omega),?_⟩⟩
  have mm:=vZ cell (w':Int) (by omega)
  try dsimp only
  generalize cell%(w':Int)=n at mm ⊢
  refine⟨λb H'=>H=H'∧b=decide (n∈ks∨ks.length<s'),?_,?_⟩
  ·refine⟨_,rfl,_,rfl,kd,_,rfl,DGet.k (k:=Sum.inl n) hk,_,rfl,?_⟩
   rw[q7V ek]
   by_cases z:n∈ks
   ·rw[hC z,hC (.inl z)]
    exact iteT ⟨rfl,rfl⟩
   ·rw[hG z]
    refine iteF ?_
    refine⟨_,rfl,kd,_,rfl,hk,_,rfl,iI ⟨_,rfl,rfl,?_⟩⟩
    rw[lk]
    by_cases y:ks.length<s'
    ·rw[hC (show n∈ks∨ks.length<s' from .inr y),hC (by omega)]
    ·rw[hG (show ¬(n∈ks∨ks.length<s')from λw=>w.elim z y),hG (by omega)]
  rintro b H' ⟨rfl,rfl⟩
  by_cases z:n∈ks∨ks.length<s'
  ·rw[hC z]
   exact iteT ⟨_,rfl,k n H (Same.refl H) mm.1 mm.2 z⟩
  ·rw[hG z]
   refine iteF ?_
   refine⟨_,rfl,kd,kvs,ks,rfl,hk,ek,l64,λns pn so l H1 n1 s1' h1=>?_⟩
   have ln:=pn.length_eq
   have pos:0<ns.length:=by
    have:¬ks.length<s':=λy=>z (.inr y)
    omega
   refine⟨_,rfl,_,rfl,_,rfl,l,_,rfl,.inl (SqL.of h1),iI ⟨(by rw[hI];show(0:Int)<(ns.length:Int);omega),?_⟩⟩
   rw[hI]
   have m2:=vZ cell (ns.length:Int) (by omega)
   try dsimp only
   obtain⟨i,ei⟩:∃i:Nat,cell%(ns.length:Int)=(i:Int):=⟨(cell%(ns.length:Int)).toNat,by omega⟩
   rw[ei]
   have hi:i<ns.length:=by omega
   refine(iL (k:=_) (v:=.int ns[i]) (SqL.of h1) (yT (by rw[mB,hV hi];rfl)) ?_)
   have mk:=pn.mem_iff.mp (gJ hi)
   exact k _ H1 s1' (kb _ mk).1 (kb _ mk).2 (.inl mk)
theorem Pw.forgs{k:Tm}{s:XS}{g:List Int}(h:Pw s)(x:Ix k s)(ne:∀m∈g,m≠64):Pw (s.forgs g):=⟨h.1.forgs ne,h.2.forgs x g⟩
theorem q2N{hl:List Int}{y:Int}:(∀m,m∈gvn hl [y]↔m=y∧y∈hl)∧(gvn hl [y]=[]↔y∉hl):=by
 have a:∀m,m∈gvn hl [y]↔m=y∧y∈hl:=λm=>by
  unfold gvn
  rw[mM,kU,kI]
  constructor
  ·rintro⟨h,e⟩
   exact⟨e,by rw[←e];exact h⟩
  ·rintro⟨e,h⟩
   exact⟨by rw[e];exact h,e⟩
 refine⟨a,?_⟩
 rw[List.eq_nil_iff_forall_not_mem]
 constructor
 ·intro h z
  exact h y ((a y).mpr ⟨rfl,z⟩)
 ·intro h m hm
  exact h ((a m).mp hm).2
noncomputable def spLa(t:Adr):Sp:=λvs H Q _=>∃x k sh sr r rl pp X kd KD,∃n:Nat,∃way y num:Int,vs=[.ref x.s,.ref kd,.int way,.int y,.int num]∧KX t H x k sh sr r rl pp X kd KD n∧k.ev=false∧Pw X.s∧n<1000∧0≤y∧y<sh∧(y∈KD.map (·.1)∨KD.length<sr)∧0≤num∧num≤10 ^ 30-1∧
 ∀wd X' KD' H',KX t H' x k sh sr r rl pp X' kd KD' (n+1)→Keep (kd::fx t x r pp) H H'→Pw X'.s→X'.s.q.B=X.s.q.B→X'.s.q.P=X.s.q.P→(wd=Str.ofString "dark"∨wd=Str.ofString "done")→Q (.str wd) H'
theorem qAW(T:Txt K mg t)(S:Fns K t)(B:BmIn base mg):S.law_ask.Ok0 P w mg base 18 (spLa t):=by
 refine S.law_ask.F.ok0 q3F λcdv A _ s H vs Q E hr h=>?_
 ·obtain⟨x,k,sh,sr,r,rl,pp,X,kd,KD,n,way,y,num,rfl,h,ev,cn,n9,y0,y1,y2,v0,v1,kk⟩:=h
  have hu:=q1G hr
  have h64:=h.d.h64
  have rcn:=h.rcn
  have psn:=h.psn
  have nd17:=qGT h.d.x
  have ok:=h.d.ok
  have s99:(99:Nat)<sizeLine:=by decide
  have w0:=h.d.x.w
  refine⟨_,(qB (qU (i:=5) q3F.nd rfl (Or.inl rfl) vX) (zM (qIR (λpins XE ES tk1 po1=>(qD (jB (qO uN (pv 2) qG (qR _)) (qD (qZ (jW tk1 (pv 0) T.cl_Store T.m_Store_give_up (q4V T S B).mono hr S.Plain_give_up.b .nil (qA (jZ (qA (pv 3) qE)) qE qDV)))) (qD (qZ (jW tk1 (pv 0) T.cl_Store T.m_Store_write (q6U T S B).mono hr S.Plain_write.b .nil (qA (pv 3) (qA (pv 4) qE)))))))) (qFQ (λea=>(zK rfl T.mg_PowerGone rfl (v:=.ref t.C_PowerGone))) rfl (λea=>(qD (qU (i:=5) q3F.nd rfl (Or.inl rfl) vX))) (qIQ q1I))) (qB (jB (PW.pt (q30 (qO uN (pv 5) vX (qR _)) (q0O (qO uN (pv 2) qG (qR _))))) (qD (qZ (qDL (pv 1) (pv 3) u7 ⟨rfl,rfl,rfl,rfl⟩))) qQ) (qB (jB (PW.pt (q30 (qO uN (pv 5) vX (qR _)) (q0O (qO q4W (pv 2) qG (qR _))))) (qD (q82 hu (pv 1) (pv 3) (pv 4) rfl)) qQ) (qD (qL (pv 5))))))),?_⟩
  try dsimp-beta-proj-iota-zeta-eta only[wishK,cxK]
  refine⟨λσ' H'=>∃wd X',σ'=[some (.ref x.s),some (.ref kd),some (.int way),some (.int y),some (.int num),some (.str wd)]∧XX t H' x k sh (sr:Int) r rl pp X'∧Keep (fx t x r pp) H H'∧Pw X'.s∧((wd=Str.ofString "dark"∧∃qs,AskD k 17 X X' qs)∨(wd=Str.ofString "done"∧((way≠0∧∃qs p,AskO k 17 X y num X' qs p)∨(way=0∧y∉KD.map (·.1)∧X'=X)∨(way=0∧y∈KD.map (·.1)∧∃Y b qs p,AskO k 17 X 64 b Y qs p∧X'=⟨Y.s.forgs (gvn X.s.hl [y]),Y.g,Y.ps⟩)))),?_,?_⟩
  ·refine⟨_,rfl,rfl,_,rfl,?_⟩
   by_cases wz:way=0
   ·rw[yF,hC wz]
    refine iteT ?_
    refine(iV rfl (iM h.h.j.o rfl ⟨_,rfl,sz1,λl0 H2 n2 s2 h2=>?_⟩))
    refine⟨x,k,sh,_,r,rl,pp,X,l0,[y],rfl,h.h.same s2,ev,h2,λm hm=>by rw[kI.mp hm];exact inBi y0 (by omega),λz H3 s3=>?_,λz=>?_⟩
    ·have z':y∉KD.map (·.1):=λw=>q2N.2.mp z (h.d.hl.mpr w)
     exact⟨_,X,rfl,(h.h.same s2).same s3,Keep.same (s2.trans s3),cn,.inr ⟨rfl,.inr (.inl ⟨wz,z',rfl⟩)⟩⟩
    ·have z':y∈KD.map (·.1):=dM λw=>z (q2N.2.mpr λv=>w (h.d.hl.mp v))
     have hc:=h.d.can64 (λw=>by rw[w]at z';cases z')
     rcases qBT (n:=64) (v:=XS.bits (rst X.s.hl (gvn X.s.hl [y]))) h.d.x h.d.wt ok nd17 (by decide) (by decide) hc with⟨Y,qs,p,hZ,a⟩|⟨Y,qs,hZ,a⟩
     ·refine⟨17,_,by omega,by omega,hc.imp id λw=>w.1,hZ,λH3 h3 k3=>?_⟩
      exact⟨_,_,rfl,h3,(Keep.same s2).trans k3,((q8E.ask w0 ok (by decide) (by decide) hZ cn).forgs a.x (λm hm=>by rw[((q2N.1 m).mp hm).1];omega)),.inr ⟨rfl,.inr (.inr ⟨wz,z',Y,_,qs,p,a,rfl⟩)⟩⟩
     ·refine⟨17,_,by omega,by omega,hc.imp id λw=>w.1,hZ,λH3 h3 k3=>?_⟩
      intro ea hea
      refine⟨_,T.xm_PowerGone_PowerGone,iteT ?_⟩
      exact⟨_,Y,rfl,h3,(Keep.same s2).trans k3,q8E.ask w0 ok (by decide) (by decide) hZ cn,.inl ⟨rfl,qs,a⟩⟩
   ·rw[yF,hG wz]
    refine iteF ?_
    have hc:=h.d.can y0 y1 y2
    have ff:¬(hold X.s.q y=false∧(sr:Int)≤((hdN X.s.q.V).length:Int)):=λ⟨f1,f2⟩=>by
     rw[h.hold]at f1
     have f1:=gX f1
     have pl:=h.d.pm.length_eq
     rw[hI]at pl
     have f2:(sr:Int)≤((((X.s.q.V.map (·.1)).filter λn=>decide (n≠64)).length:Nat):Int):=f2
     rcases y2 with w|w
     ·exact f1 w
     ·omega
    rcases qBT (n:=y) (v:=num) h.d.x h.d.wt ok nd17 y0 (by omega) hc with⟨Y,qs,p,hZ,a⟩|⟨Y,qs,hZ,a⟩
    ·refine(iV rfl (iM h.h.j.o rfl ⟨_,rfl,_,rfl,x,k,sh,_,r,rl,pp,X,y,num,17,_,rfl,h.h,ev,by omega,by omega,h64,inBi y0 (by omega),inBi v0 v1,ff,hc.imp id λw=>w.1,hZ,λH3 h3 k3=>?_⟩))
     exact⟨_,_,rfl,h3,k3,q8E.ask w0 ok y0 (by omega) hZ cn,.inr ⟨rfl,.inl ⟨wz,qs,p,a⟩⟩⟩
    ·refine(iV rfl (iM h.h.j.o rfl ⟨_,rfl,_,rfl,x,k,sh,_,r,rl,pp,X,y,num,17,_,rfl,h.h,ev,by omega,by omega,h64,inBi y0 (by omega),inBi v0 v1,ff,hc.imp id λw=>w.1,hZ,λH3 h3 k3=>?_⟩))
     intro ea hea
     refine⟨_,T.xm_PowerGone_PowerGone,iteT ?_⟩
     exact⟨_,Y,rfl,h3,k3,q8E.ask w0 ok y0 (by omega) hZ cn,.inl ⟨rfl,qs,a⟩⟩
  rintro σ' H1 ⟨wd,X',rfl,hX,k1,cn',hc⟩
  have hk1:=k1.k _ _ h.nkF h.hk
  have kM:Keep (kd::fx t x r pp) H H1:=k1.mono (λy hy=>hU _ hy)
  rcases hc with⟨rfl,qs,a⟩|⟨rfl,⟨wz,qs,p,a⟩|⟨wz,z,rfl⟩|⟨wz,z,Y,b,qs,p,a,rfl⟩⟩
  ·have:=a.rl
   have:=a.ln
   refine⟨_,rfl,rfl,_,rfl,iteF ⟨_,rfl,rfl,_,rfl,iteF ?_⟩⟩
   exact⟨_,rfl,kk _ X' KD H1 (h.stay hX k1 (h.d.dark a) (by omega) (by rw[a.ps,mC];omega)) kM cn' a.kp.eB a.kp.eP (.inl rfl)⟩
  ·have:=a.rl
   have:=a.ln
   refine⟨_,rfl,rfl,_,rfl,iteT ⟨_,rfl,rfl,_,rfl,?_⟩⟩
   rw[yF,hG wz]
   refine iteF ⟨_,rfl,rfl,_,rfl,iteT ⟨_,rfl,rfl,_,rfl,?_⟩⟩
   rw[yF,hG wz]
   refine iteT ?_
   have ld:KD.length≤57:=mI h.d.ls h.d.s57
   refine⟨_,rfl,_,rfl,_,rfl,kd,_,rfl,.inl ⟨_,Sum.inl y,hk1,rfl,by unfold dI;rw[hI];omega,rfl⟩,?_⟩
   rw[qBJ]
   have g:=h.set hX k1 (h.d.wrote y0 y1 y2 a) (n':=n+1) (by omega) (by rw[a.ps,mC];omega)
   exact⟨_,rfl,kk _ X' _ _ g (kM.trans (Keep.upd hk1 (λ_ z=>by cases z) (by simp))) cn' a.eB a.eP (.inr rfl)⟩
  ·refine⟨_,rfl,rfl,_,rfl,iteT ⟨_,rfl,rfl,_,rfl,?_⟩⟩
   rw[yF,hC wz]
   refine iteT ?_
   refine⟨_,rfl,kd,rfl,.inl ⟨_,.inl hk1⟩,_,rfl,_,Sum.inl y,hk1,rfl,λv ev=>?_,λ_=>?_⟩
   ·rw[q0S z]at ev
    cases ev
   refine⟨_,rfl,rfl,_,rfl,iteT ⟨_,rfl,rfl,_,rfl,?_⟩⟩
   rw[yF,hC wz]
   refine iteF ?_
   exact⟨_,rfl,kk _ _ KD H1 (h.stay hX k1 h.d (by omega) (by omega)) kM cn' rfl rfl (.inr rfl)⟩
  ·have:=a.rl
   have:=a.ln
   refine⟨_,rfl,rfl,_,rfl,iteT ⟨_,rfl,rfl,_,rfl,?_⟩⟩
   rw[yF,hC wz]
   refine iteT ?_
   refine⟨_,rfl,kd,rfl,.inl ⟨_,.inl hk1⟩,_,rfl,_,Sum.inl y,hk1,rfl,λv ev=>?_,λhn=>?_⟩
   ·rw[q9K]
    have yl:y∈X.s.hl:=h.d.hl.mpr z
    have eD:(KD.filter λq=>!decide (q.1∈gvn X.s.hl [y]))=jI KD y:=by
     unfold jI
     refine wT λq _=>?_
     by_cases e:q.1=y
     ·rw[hC ((q2N.1 q.1).mpr ⟨e,yl⟩),hG (λw=>w e)]
      rfl
     ·rw[hG (λw=>e ((q2N.1 q.1).mp w).1),hC e]
      rfl
    have d':=h.d.gave a (g:=gvn X.s.hl [y]) (λm hm=>by rw[((q2N.1 m).mp hm).1];omega)
    rw[eD]at d'
    obtain⟨_,f2,f3,_,_,f6,f7,_⟩:=q34 a.x (gvn X.s.hl [y])
    have rcE:(Y.s.forgs (gvn X.s.hl [y])).rc.length≤300*(n+1):=by rw[f3];omega
    have psE:(⟨Y.s.forgs (gvn X.s.hl [y]),Y.g,Y.ps⟩:Sx).ps.length≤20*(n+1):=by show Y.ps.length≤_;rw[a.ps,mC];omega
    have g:=h.set hX k1 d' (n':=n+1) rcE psE
    refine⟨_,rfl,rfl,_,rfl,iteT ⟨_,rfl,rfl,_,rfl,?_⟩⟩
    rw[yF,hC wz]
    refine iteF ?_
    exact⟨_,rfl,kk _ _ _ _ g (kM.trans (Keep.upd hk1 (λ_ z=>by cases z) (by simp))) cn' (f6.trans a.eB) (f7.trans a.eP) (.inr rfl)⟩
   ·obtain⟨q,hq,e⟩:=kO.mp z
    have e:q.1=y:=e
    subst e
    rw[q3U (m:=q.2) h.d.nd hq]at hn
    cases hn
noncomputable def FLt(pg:Nat→Option (Int×Int))(H:Hp)(v:V)(p:Int):Prop:=∃a u,v=.ref a∧pg p.toNat=some u∧H a=some (.tup [.int (u.1 / 128),.int p])
noncomputable def spLv:Sp:=λvs H Q _=>∃sl bs kd KD pg,vs=[.ref sl,.ref kd]∧H sl=some (.lst bs)∧bs.length≤256∧PgAt H bs pg∧H kd=some (.dK (dI KD))∧(KD.map (·.1)).Nodup∧(∀i v,pg i=some v→128≤v.1)∧∀W l H',Lat pg (λn=>n=64∨n∈KD.map (·.1)) bs.length W→Same H H'→H l=none→H' l=some (.lst ((W.map (·.2)).map V.int))→Q (.ref l) H'
theorem q8V(T:Txt K mg t)(S:Fns K t):S.law_lives.Ok0 P w mg base 1 spLv:=by
 refine S.law_lives.F.ok0 v4 λcdv A _ s H vs Q E hr h=>?_
 ·obtain⟨sl,bs,kd,KD,pg,rfl,hs,l256,pa,hk,knd,mr,kk⟩:=h
  have hu:=q1G hr
  have s9:(99999:Nat)<sizeLine:=by decide
  refine⟨_,(qB (qU (i:=2) v4.nd rfl (Or.inl rfl) q3P) (qB (uG gT rfl (q06 rfl T.b_range (qA (j8 jD (by rfl) T.b_len gO (qA (pv 0) qE)) qE)) (qX (i:=3) v4.nd rfl (Or.inl rfl)) (qD (jB (qO q2H (qW qY (pv 0) (pv 3) (λ_ _=>rfl)) u7 (qR _)) (qB (q31 (j8 q92 (by rfl) T.b_divmod (by kernel_rfl) (qA (qW yQ (qW qY (pv 0) (pv 3) (λ_ _=>rfl)) qG (λ_ _=>rfl)) (qA qG qE))) (q5S rfl (yX (qX (i:=4) v4.nd rfl (Or.inl rfl)) (yX (qX (i:=5) v4.nd rfl (Or.inl rfl)) q3J)))) (qD (jB (qDU (PW.pt (q30 (PW.pt (q5R (qO uN (pv 5) qG (qR _)) (q2Z (qA2 (q81 hu (pv 5) (pv 1)))))) (q0O (qO q7D (pv 4) (qW yQ (qDJ hu (pv 2) (pv 5) (uQ (qA qG (qA qG qE))) ⟨rfl,rfl,rfl,rfl⟩) qG (λ_ _=>rfl)) (qR _)))))) (qD (q82 hu (pv 2) (pv 5) (uQ (qA (pv 4) (qA (pv 3) qE))) rfl)) qQ))) qQ))) (qD (qL (yU ["_law_spot"] [] rfl (qJ1 (qDD dY PySem.F.slot_dict_values PySem.F.type_dict_values qCJ (pv 2))) (λ_ _ _ _ _=>(qX (i:=0) (show List.Nodup (["_law_spot"]:List Str)from by decide) rfl (Or.inl rfl))) (λ_ _ _ _ _=>q83) (λ_ _ _ _ _=>(qW (vS (K:=K) rfl) (pv 0) qG (λ_ _=>rfl))) (by kernel_rfl) (jQ (by decide))))))),?_⟩
  try dsimp-beta-proj-iota-zeta-eta only[wishK,cxK]
  refine λld nld=>?_
  have sd:Same H (upd H ld (.dK [])):=Same.upd nld
  have hd:(upd H ld (.dK [])) ld=some (.dK []):=qI
  generalize upd H ld (.dK [])=H1 at sd hd ⊢
  refine⟨_,rfl,sl,bs,rfl,.inl (SqL.of (sd _ _ hs)),_,rfl,by omega,by omega,?_⟩
  rw[kY]
  refine q0U (λj σ' H'=>∃y3 y4 y5 kvs W,σ'=[some (.ref sl),some (.ref kd),some (.ref ld),y3,y4,y5]∧H' ld=some (.dK kvs)∧Paired (KvP (FLt pg H')) kvs W∧Lat pg (λn=>n=64∨n∈KD.map (·.1)) j W∧W.length≤j∧∀b o,b≠ld→H1 b=some o→H' b=some o) ⟨_,_,_,[],[],rfl,hd,.nil,Lat.zero,kN _,λ_ _ _ e=>e⟩ (λj σ' H' D' nxt hj hp=>?_) (λσ' H' hp=>?_)
  ·obtain⟨y3,y4,y5,kvs,W,rfl,hd',pr,la,lw,kp⟩:=hp
   have hs':=kp _ _ (qF hs nld) (sd _ _ hs)
   have hk':=kp _ _ (qF hk nld) (sd _ _ hk)
   have at1:atI bs (0+(j:Int))=some (bs.getD j .non):=by
    rw[sQ]
    exact yT (by rw[kJ,hV hj];rfl)
   refine⟨_,rfl,_,rfl,sl,bs,_,_,rfl,rfl,SqL.of hs',at1,rfl,_,rfl,?_⟩
   cases hpg:pg j with
   |none=>
    rw[pa.n j hpg,hC rfl]
    exact iteF (nxt _ _ ⟨_,_,_,kvs,W,rfl,hd',pr,la.skip (λv e=>by rw[hpg]at e;cases e),by omega,kp⟩)
   |some v=>
    obtain⟨tp,e1,e2⟩:=pa.v j v hpg
    have htp:=kp _ _ (qF e2 nld) (sd _ _ e2)
    rw[e1]at at1
    rw[e1,hG (λz=>by cases z)]
    refine iteT ?_
    refine⟨_,rfl,_,rfl,sl,bs,_,.ref tp,rfl,rfl,SqL.of hs',at1,iT (k:=0) (v:=.int v.1) (SqT.of htp) rfl ⟨_,_,rfl,⟨by decide,by decide⟩,λtd ntd=>?_⟩⟩
    have s2:Same H' (upd H' td (.tup [.int (v.1 / 128),.int (v.1%128)])):=Same.upd ntd
    have htd:(upd H' td (.tup [.int (v.1 / 128),.int (v.1%128)])) td=_:=qI
    generalize upd H' td (.tup [.int (v.1 / 128),.int (v.1%128)])=H2 at s2 htd ⊢
    refine⟨td,_,rfl,SqT.of htd,rfl,_,_,rfl,_,_,rfl,rfl,?_⟩
    have hd2:=s2 _ _ hd'
    have hk2:=s2 _ _ hk'
    have pr2:Paired (KvP (FLt pg H2)) kvs W:=Paired.mapP pr λa d ⟨g1,x,u,g2,g3,g4⟩=>⟨g1,x,u,g2,g3,s2 _ _ g4⟩
    have v128:=mr j v hpg
    generalize en:v.1%128=n
    refine⟨λc H3=>Same H2 H3∧(c=true→(n=64∨n∈KD.map (·.1))∧∀p u,(n,p)∈W→pg p.toNat=some u→u.1 / 128<v.1 / 128)∧(c=false→(n=64∨n∈KD.map (·.1))→∃p u,(n,p)∈W∧pg p.toNat=some u∧v.1 / 128≤u.1 / 128),?_,?_⟩
    ·have two:∀{H3:Hp},Same H2 H3→(n=64∨n∈KD.map (·.1))→qD0 (tOp (rI0 λi j=>V.bl (decide (j<i))) (tVar 4) (tOp (rIxT K) (qDI (tVar 2) (tVar 5) (qHA (q93 (tC (V.int 0)) (q93 (tC (V.int 0)) tNil)))) (tC (V.int 0)))) [some (.ref sl),some (.ref kd),some (.ref ld),some (.int (0+(j:Int))),some (.int (v.1 / 128)),some (.int n)] H3 λc H4=>Same H2 H4∧(c=true→(n=64∨n∈KD.map (·.1))∧∀p u,(n,p)∈W→pg p.toNat=some u→u.1 / 128<v.1 / 128)∧(c=false→(n=64∨n∈KD.map (·.1))→∃p u,(n,p)∈W∧pg p.toNat=some u∧v.1 / 128≤u.1 / 128):=fun {H3} s3 ok=>by
      refine⟨_,rfl,_,rfl,ld,rfl,.inl ⟨_,.inl (s3 _ _ hd2)⟩,_,rfl,sz2,λt0 H4 n4 s4 h4=>⟨_,DGet.k (k:=Sum.inl n) (s4 _ _ (s3 _ _ hd2)),?_⟩⟩
      by_cases z:n∈W.map (·.1)
      ·obtain⟨d,hd,ed⟩:=kO.mp z
       have hd:(n,d.2)∈W:=by rw[←ed];exact hd
       obtain⟨x,e,a,u,rfl,g3,g4⟩:=qBW pr2 la.nd hd
       rw[e]
       refine(iT (k:=0) (v:=.int (u.1 / 128)) (SqT.of (s4 _ _ (s3 _ _ g4))) rfl (iI ⟨_,rfl,s3.trans s4,λc=>⟨ok,λp u' hp e'=>?_⟩,λc _=>⟨d.2,u,hd,g3,Int.not_lt.mp (gX c)⟩⟩))
       rw[q8A la.nd hp hd,g3]at e'
       cases e'
       exact mL c
      ·rw[qF3 pr2 z]
       refine(iT (k:=0) (v:=.int 0) (SqT.of h4) rfl (iI ⟨_,rfl,s3.trans s4,λc=>⟨ok,λp u' hp _=>absurd (kO.mpr ⟨_,hp,rfl⟩) z⟩,λc _=>?_⟩))
       have:=gX c
       omega
     refine⟨_,rfl,rfl,_,rfl,?_⟩
     rw[yF]
     by_cases z:n=64
     ·rw[hC z]
      exact iteT (iteT (two (Same.refl _) (.inl z)))
     ·rw[hG z]
      refine iteF ⟨_,rfl,_,rfl,kd,_,rfl,DGet.k (k:=Sum.inl n) hk2,_,rfl,?_⟩
      rw[qH3 knd]
      by_cases y:n∈KD.map (·.1)
      ·rw[hC y]
       exact iteT (two (Same.refl _) (.inr y))
      ·rw[hG y]
       exact iteF ⟨Same.refl _,λc=>(by cases c),λ_ o=>absurd o (λq=>Or.elim q z y)⟩
    rintro c H3 ⟨s3,c1,c2⟩
    have hd3:=s3 _ _ hd2
    have pr3:Paired (KvP (FLt pg H3)) kvs W:=Paired.mapP pr2 λa d ⟨g1,x,u,g2,g3,g4⟩=>⟨g1,x,u,g2,g3,s3 _ _ g4⟩
    have kp3:∀b o,b≠ld→H1 b=some o→H3 b=some o:=λb o nb e=>s3 _ _ (s2 _ _ (kp b o nb e))
    cases c with
    |false=>
     refine iteF (nxt _ _ ⟨_,_,_,kvs,W,rfl,hd3,pr3,la.skip (λv' e o=>?_),by omega,kp3⟩)
     rw[hpg]at e
     cases e
     rw[en]at o ⊢
     exact c2 rfl o
    |true=>
     obtain⟨o,nw⟩:=c1 rfl
     have lk:=q9Q pr3
     have lk:kvs.length=W.length:=pr3.len
     refine iteT ⟨_,rfl,_,rfl,sz2,λtn H4 n4 s4 h4=>⟨_,rfl,_,rfl,ld,_,rfl,.inl ⟨_,Sum.inl n,s4 _ _ hd3,rfl,by omega,rfl⟩,?_⟩⟩
     rw[sQ]at h4
     have hd4:=s4 _ _ hd3
     have nt:∀{a xs},H4 a=some (.tup xs)→(upd H4 ld (.dK (putK kvs (Sum.inl n:Key) (.ref tn)))) a=some (.tup xs):=fun {a xs} e=>by
      rw[qC (λz=>by rw[z,hd4]at e;cases e)]
      exact e
     refine nxt _ _ ⟨_,_,_,_,putW W n (j:Int),rfl,qI,qGU (Paired.mapP pr3 λa d ⟨g1,x,u,g2,g3,g4⟩=>⟨g1,x,u,g2,g3,nt (s4 _ _ g4)⟩) ⟨tn,v,rfl,by rw[kY];exact hpg,nt h4⟩,?_,?_,λb o nb e=>?_⟩
     ·rw[←en]at o nw ⊢
      exact la.take hpg o nw
     ·unfold putW
      split
      ·rw[hI];omega
      ·rw[mC];exact pE lw 1
     ·rw[qC nb]
      exact s4 _ _ (kp3 b o nb e)
  ·obtain⟨y3,y4,y5,kvs,W,rfl,hd',pr,la,lw,kp⟩:=hp
   have lk:kvs.length=W.length:=pr.len
   refine⟨_,rfl,.inr (.inr (.inl ⟨rfl,.inl ⟨_,hd'⟩⟩)),ld,kvs,rfl,rfl,hd',λvw nv=>?_⟩
   refine⟨vw,ld,kvs,rfl,qI,by rw[qC (qF hd' nv)];exact hd',λob D H2 nD s2 hD=>?_⟩
   have hF:(upd (upd H' vw (q7P vw ld)) ld (.frz ob (.dK kvs))) ld=some (.frz ob (.dK kvs)):=qI
   have oF:∀b o,b≠ld→H' b=some o→(upd (upd H' vw (q7P vw ld)) ld (.frz ob (.dK kvs))) b=some o:=λb o nb e=>by
    rw[qC nb,qC (qF e nv)]
    exact e
   generalize upd (upd H' vw (q7P vw ld)) ld (.frz ob (.dK kvs))=HF at hF oF s2 nD
   refine qGV (D:=D) (λi H3=>H3 ld=some (.frz ob (.dK kvs))∧H3 D=some (.lst (((W.map (·.2)).take i).map V.int))∧Same HF H3) ⟨s2 _ _ hF,hD,s2⟩ (λi H3 z=>z.1) (λi kv H3 hi hp=>?_) (λH3 hp=>?_)
   ·obtain⟨g1,g2,g3⟩:=hp
    obtain⟨d,ed,ek,a,u,ea,_,ha⟩:=Paired.at pr hi
    have nl:a≠ld:=λz=>by rw[z,hd']at ha;cases ha
    obtain⟨iW,ed'⟩:=kC.mp ed
    rw[ea]
    refine⟨_,rfl,iT (k:=1) (v:=.int d.2) (SqT.of (g3 _ _ (oF _ _ nl ha))) rfl ⟨_,g2,?_,?_,?_,λb o e=>?_⟩⟩
    ·rw[hI,gE,hI]
     omega
    ·rw[qC (qF hF nD)]
     exact g1
    ·have iM:i<(W.map (·.2)).length:=by rw[hI];exact iW
     rw[qI,←mE iM,mV,c8,ed']
     rfl
    ·rw[qC (qF e nD)]
     exact g3 _ _ e
   ·obtain⟨g1,g2,g3⟩:=hp
    rw[lk,←hI (f:=(·.2)),gC]at g2
    have nD1:H1 D=none:=by
     cases z:H1 D with
     |none=>rfl
     |some o=>
      have nb:D≠ld:=λy=>by rw[y,hF]at nD;cases nD
      rw[oF _ _ nb (kp _ _ nb z)]at nD
      cases nD
    exact kk W D H3 la (λb o e=>g3 _ _ (oF _ _ (qF e nld) (kp _ _ (qF e nld) (sd _ _ e)))) (sd.free nD1) g2
noncomputable def spTa(t:Adr):Sp:=λvs H Q _=>∃x k sh sr r rl pp X kd KD,∃n:Nat,vs=[.ref x.c,.int (X.s.q.B:Int),.int (X.s.q.P:Int),.ref kd]∧KX t H x k sh sr r rl pp X kd KD n∧Pw X.s∧X.s.lf≠some 0∧n≤1000∧∀l us H',H l=none→Same H H'→H' l=some (.lst us)→Paired (TupD H') us ((List.range X.s.q.B).map (rowT X.s))→Q (.ref l) H'
theorem q6V(T:Txt K mg t)(S:Fns K t):S.law_tallies.Ok0 P w mg base 6 (spTa t):=by
 refine S.law_tallies.F.ok0 jC λcdv A _ s H vs Q E hr h=>?_
 ·obtain⟨x,k,sh,sr,r,rl,pp,X,kd,KD,n,rfl,h,⟨pgs,wps⟩,dk,n9,kk⟩:=h
  have s9:(99999:Nat)<sizeLine:=by decide
  have hu:=q1G hr
  have w:=h.d.x.w
  have p1:=w.qs.ok.p1
  have p2:=w.qs.ok.p2
  have b2:=w.qs.ok.b2
  obtain⟨m,hc,mok,elf,erc,ecl,ebl,epg,pat,_⟩:=h.h.chip
  have bp:X.s.q.B*X.s.q.P≤16*16:=Nat.mul_le_mul b2 p2
  have ebp:(X.s.q.B:Int)*(X.s.q.P:Int)=((X.s.q.B*X.s.q.P:Nat):Int):=by rw[gZ]
  refine⟨_,(qB (qU (i:=4) jC.nd rfl (Or.inr rfl) (yU ["_law_chip","_law_page"] [0] rfl (q06 rfl T.b_range (qA (qS v6 (pv 1) (pv 2)) qE)) (λ_ _ _ _ _=>(qX (i:=1) (show List.Nodup (["_law_chip","_law_page"]:List Str)from by decide) rfl (Or.inl rfl))) (λ_ _ _ _ _=>q83) (λ_ _ _ _ _=>(jW q1I (pv 0) T.cl_Chip T.m_Chip_read (q41 T S).mono hr S.Chip_read.b .nil (qA (pv 1) qE))) (by kernel_rfl) (jQ (by decide)))) (qB (qU (i:=5) jC.nd rfl (Or.inr rfl) (qV (q8V T S).mono hr rfl T.mg_law_lives T.kp_law_lives S.law_lives.b .nil qK (qA (pv 4) (qA (pv 3) qE)))) (qB (qU (i:=6) jC.nd rfl (Or.inl rfl) (qS zL (jZ (qA qG qE)) (pv 1))) (qB (uG gT rfl (jP (j0 (pv 0) T.cl_Chip T.m_Chip_deeds (q74 T S).mono hr S.Chip_deeds.b .nil qK)) (q5S rfl (yX (qX (i:=7) jC.nd rfl (Or.inl rfl)) (yX (qX (i:=8) jC.nd rfl (Or.inl rfl)) (yX (qX (i:=9) jC.nd rfl (Or.inl rfl)) q3J)))) (qD (jB (qO uN (pv 7) vX (qR _)) (qD (q31 (qS uH (qW qY (pv 6) (pv 8) (λ_ _=>rfl)) qG) (q4B (pv 6) (pv 8) yZ))) qQ))) (qB (qU (i:=10) jC.nd rfl (Or.inl rfl) (jZ qE)) (qB (uG gT rfl (q06 rfl T.b_range (qA (pv 1) qE)) (qX (i:=11) jC.nd rfl (Or.inl rfl)) (qB (q0B (i:=12) ["_law_stuff","_law_page"] [4] rfl (q4C rfl T.b_range (qA (qS v6 (pv 11) (pv 2)) (qA (qS uH (qS v6 (pv 11) (pv 2)) (pv 2)) qE))) (λ_ _ _ _ _=>(qX (i:=1) (show List.Nodup (["_law_stuff","_law_page"]:List Str)from by decide) rfl (Or.inl rfl))) (λ_ _ _ _ _=>(yD (qO q2H (qW (q0A (K:=K) rfl) (pv 0) (pv 1) (λ_ _=>rfl)) u7 (qR _)))) (λ_ _ _ _ _=>(pv 1)) (by kernel_rfl) (jQ (by decide)) jC.nd rfl (Or.inl rfl)) (qB (qU (i:=13) jC.nd rfl (Or.inl rfl) qG) (zM (jB (qO (qJ3 hr.units) (pv 12) (jZ qE) (qR _)) (qD (qU (i:=13) jC.nd rfl (Or.inl rfl) (qS uF (qW yQ (qW qY (pv 4) (qW qY (pv 12) qG (λ_ _=>rfl)) (λ_ _=>rfl)) qG (λ_ _=>rfl)) qG))) qQ) (qD (qZ (qB5 wG wA wB vV (pv 10) (qA (uQ (qA (pv 11) (qA (j8 jD (by rfl) T.b_len gO (qA (yU ["_law_lives_here","_law_page"] [5] rfl (jP (pv 12)) (λ_ _ _ _ _=>(qX (i:=1) (show List.Nodup (["_law_lives_here","_law_page"]:List Str)from by decide) rfl (Or.inl rfl))) (λ_ _ _ _ _=>(yD (qO (q65 (K:=K) rfl) (pv 1) (pv 0) rfl))) (λ_ _ _ _ _=>(pv 1)) (by kernel_rfl) (jQ (by decide))) qE)) (qA (qW qY (pv 6) (pv 11) (λ_ _=>rfl)) (qA (pv 13) (qA (j8 jD (by rfl) T.b_len gO (qA (pv 12) qE)) qE)))))) qE q3R)))))))) (qD (qL (pv 10))))))))),?_⟩
  try dsimp-beta-proj-iota-zeta-eta only[wishK,cxK]
  refine⟨_,rfl,_,rfl,iI ⟨.inl ⟨by omega,by omega⟩,_,rfl,by omega,by omega,λD H2 nD s2 hD=>?_⟩⟩
  rw[ebp,kY]
  refine q4J (D:=D) (λi H3=>Same H H3∧H3 D=some (.lst (((List.range (X.s.q.B*X.s.q.P)).take i).map λi=>m.bo.getD i .non))) ⟨s2,hD⟩ (λi H3 hi hp=>?_) (λH3 hp=>?_)
  ·obtain⟨sm,hd⟩:=hp
   have hi':i<((List.range (X.s.q.B*X.s.q.P))).length:=by rw[mH];exact hi
   refine⟨_,rfl,x.c,x.a.dx,_,rfl,(hc.same sm).ins,rfl,_,rfl,x.c,x.a,m,_,rfl,hc.same sm,mok,by omega,by rw[ebl,epg,ebp];omega,λz=>absurd (elf.symm.trans z) dk,λ_=>?_⟩
   rw[show(0+(i:Int)).toNat=i by omega]
   refine⟨_,hd,?_,λb o e=>?_,?_⟩
   ·rw[hI,gE,mH]
    omega
   ·rw[qC (qF e nD)]
    exact sm _ _ e
   ·rw[qI,←mE hi',mV]
    simp
  ·obtain⟨s3,hd3⟩:=hp
   rw[List.take_of_length_le (by rw[mH];exact kN _)]at hd3
   obtain⟨bs,ebs⟩:∃bs:List V,bs=(List.range (X.s.q.B*X.s.q.P)).map λi=>m.bo.getD i .non:=⟨_,rfl⟩
   rw[←ebs]at hd3
   have lbs:bs.length=X.s.q.B*X.s.q.P:=by rw[ebs,hI,mH]
   have gbs:∀i,i<X.s.q.B*X.s.q.P→bs.getD i .non=m.bo.getD i .non:=λi hi=>by
    rw[ebs,kJ,mB,pP hi]
    rfl
   have pat3:PgAt H3 bs X.s.pg:=⟨λi e=>by
    by_cases z:i<X.s.q.B*X.s.q.P
    ·rw[gbs i z]
     exact pat.n i e
    ·rw[kJ,dA (by omega)]
     rfl,λi v e=>by
    have z:=wps.bd i v e
    obtain⟨tp,e1,e2⟩:=pat.v i v e
    exact⟨tp,by rw[gbs i z];exact e1,s3 _ _ e2⟩⟩
   have h3:=h.same s3
   refine⟨_,rfl,_,rfl,D,bs,kd,KD,X.s.pg,rfl,hd3,by omega,pat3,h3.hk,h.d.nd,λi v e=>(pgs.mr i v e).1,λW ll H4 la s4 nl hl=>?_⟩
   have s04:=s3.trans s4
   have h4:=h.same s04
   have ov:∀n,(n=64∨n∈KD.map (·.1))↔n=64∨∃q,(n,q)∈X.s.q.V:=λn=>by
    by_cases z:n=64
    ·exact⟨λ_=>.inl z,λ_=>.inl z⟩
    ·rw[h.d.eq n z]
   have vn:∀y∈X.s.q.V,0≤y.2∧y.2.toNat<bs.length:=λy hy=>by
    obtain⟨b,f,v,hb,hf,e,_⟩:=w.vl y hy
    rw[e,lbs,kY]
    exact⟨by omega,qEE hb hf⟩
   have live:=la.live pgs ov vn
   refine⟨sz1,λl0 H5 n5 s5 h5=>⟨_,rfl,l0,_,_,rfl,rfl,h5,by omega,by omega,λwl H6 n6 s6 h6=>?_⟩⟩
   rw[kY]at h6
   have s46:=s5.trans s6
   have hc6:=hc.same (s04.trans s46)
   refine(iV rfl (iM hc6.ins rfl ⟨x.c,x.a,m,rfl,hc6,λrs er prr p H7 n7 s7 h7=>?_⟩))
   have pr7:Recd H7 rs m.rc:=Paired.mapP prr λv d ⟨p',e',h'⟩=>⟨p',e',s7 _ _ h'⟩
   have h67:=s7 _ _ h6
   have plw:p≠wl:=(qF h6 n7).symm
   have lr:=pr7.len
   have lrc:m.rc.length≤300*n:=by rw[erc];exact h.rcn
   refine⟨p,rfl,⟨_,SqL.of h7⟩,?_⟩
   refine qCT (K:=K) (xs:=rs) (λi σ' H'=>∃y7 y8 y9,σ'=[some (.ref x.c),some (.int (X.s.q.B:Int)),some (.int (X.s.q.P:Int)),some (.ref kd),some (.ref D),some (.ref ll),some (.ref wl),y7,y8,y9,none,none,none,none]∧H' wl=some (.lst (((m.rc.take i).foldl wpS (List.replicate X.s.q.B 0)).map V.int))∧((m.rc.take i).foldl wpS (List.replicate X.s.q.B 0)).length=X.s.q.B∧∀b o,b≠wl→H7 b=some o→H' b=some o) ⟨_,_,_,rfl,by rw[h67,List.take_zero,pX,wM],by rw[List.take_zero,pX,gG],λ_ _ _ e=>e⟩ (λi σ' H' hi hp=>?_) (λi v σ' H' D' nxt hv hp=>?_) (λσ' H' hp=>?_)
   ·obtain⟨y7,y8,y9,rfl,hw,_,kp⟩:=hp
    exact SqL.of (kp _ _ plw h7)
   ·obtain⟨y7,y8,y9,rfl,hw,lw,kp⟩:=hp
    obtain⟨d,hd,tp,rfl,htp⟩:=Paired.at pr7 hv
    obtain⟨hi,ed⟩:=kC.mp hd
    have ntp:tp≠wl:=λz=>by rw[z,h67]at htp;cases htp
    have htp':=kp _ _ ntp htp
    have et:(m.rc.take (i+1)).foldl wpS (List.replicate X.s.q.B 0)=wpS ((m.rc.take i).foldl wpS (List.replicate X.s.q.B 0)) d:=by
     rw[←mE hi,wU,ed]
     rfl
    rw[et]at nxt
    generalize (m.rc.take i).foldl wpS (List.replicate X.s.q.B 0)=cs at hw lw nxt
    refine⟨tp,_,rfl,SqT.of htp',rfl,_,_,rfl,_,_,rfl,_,_,rfl,rfl,?_⟩
    refine⟨_,rfl,rfl,_,rfl,?_⟩
    by_cases z:d.1=Str.ofString "wipe"
    ·rw[show decide (V.str d.1=V.str (Str.ofString "wipe"))=true from hC (by rw[z])]
     obtain⟨j,ej,hj⟩:=wps.r d (by rw[←erc,←ed];exact gJ hi) z
     refine iteT ?_
     rw[ej]
     refine⟨_,rfl,_,rfl,iL (k:=_) (v:=.int (cs.getD j 0)) (SqL.of hw) (atV (by omega)) (iI ⟨_,rfl,_,rfl,wl,_,_,j,rfl,rfl,hw,q33 (by rw[hI];omega),?_⟩)⟩
     rw[setV]
     have ew:wpS cs d=cs.set j (cs.getD j 0+1):=by
      unfold wpS
      rw[kF z,ej,kY]
     rw[ew]at nxt
     exact nxt _ _ ⟨_,_,_,rfl,qI,by rw[gF];exact lw,λb o nb e=>by rw[qC nb];exact kp b o nb e⟩
    ·rw[show decide (V.str d.1=V.str (Str.ofString "wipe"))=false from hG (λy=>z (V.str.inj y))]
     have ew:wpS cs d=cs:=by
      unfold wpS
      rw[kB z]
     rw[ew]at nxt
     exact iteF (nxt _ _ ⟨_,_,_,rfl,hw,lw,kp⟩)
   obtain⟨y7,y8,y9,rfl,hw,lw,kp⟩:=hp
   rw[lr,gC,erc,wps.e]at hw
   refine⟨sz0,λfl H8 n8 s8 h8=>?_⟩
   have nw:∀{y:Addr} {o:HO},H6 y=some o→y≠wl→H8 y=some o:=fun {y o} e ny=>s8 _ _ (kp _ _ ny (s7 _ _ e))
   have hD8:H8 D=some (.lst bs):=nw (s46 _ _ (s4 _ _ hd3)) (qF (s5 _ _ (s4 _ _ hd3)) n6)
   have hL8:H8 ll=some (.lst ((W.map (·.2)).map V.int)):=nw (s46 _ _ hl) (qF (s5 _ _ hl) n6)
   have hw8:=s8 _ _ hw
   have nfl:∀{y:Addr} {o:HO},H8 y=some o→y≠fl→True:=λ_ _=>trivial
   have tp8:∀{y:Addr} {xs:List V},H3 y=some (.tup xs)→H8 y=some (.tup xs):=fun {y xs} e=>nw (s46 _ _ (s4 _ _ e)) (qF (s5 _ _ (s4 _ _ e)) n6)
   have dfl:D≠fl:=qF (kp _ _ (qF (s5 _ _ (s4 _ _ hd3)) n6) (s7 _ _ (s46 _ _ (s4 _ _ hd3)))) n8
   have lfl:ll≠fl:=qF (kp _ _ (qF (s5 _ _ hl) n6) (s7 _ _ (s46 _ _ hl))) n8
   have wfl:wl≠fl:=qF hw n8
   have n0f:H fl=none:=by
    cases z:H fl with
    |none=>rfl
    |some o=>
     have e4:=s04 _ _ z
     have:=kp _ _ (qF (s5 _ _ e4) n6) (s7 _ _ (s46 _ _ e4))
     rw[n8]at this
     cases this
   refine⟨_,rfl,_,rfl,by omega,by omega,?_⟩
   rw[kY]
   refine q0U (λb σ' H'=>∃y11 y12 y13 us,σ'=[some (.ref x.c),some (.int (X.s.q.B:Int)),some (.int (X.s.q.P:Int)),some (.ref kd),some (.ref D),some (.ref ll),some (.ref wl),y7,y8,y9,some (.ref fl),y11,y12,y13]∧H' fl=some (.lst us)∧Paired (TupD H') us ((List.range b).map (rowT X.s))∧∀y o,y≠fl→H8 y=some o→H' y=some o) ⟨_,_,_,[],rfl,h8,.nil,λ_ _ _ e=>e⟩ (λb σ' H' D' nxt hb hp=>?_) (λσ' H' hp=>?_)
   ·obtain⟨y11,y12,y13,us,rfl,hf,prf,kf⟩:=hp
    obtain⟨f,ef,fP⟩:=w.qs.ok.wr b hb
    have lus:=prf.len
    rw[hI,mH]at lus
    have bPe:((b:Int))*(X.s.q.P:Int)=((b*X.s.q.P:Nat):Int):=by rw[gZ]
    have bP:b*X.s.q.P+X.s.q.P≤X.s.q.B*X.s.q.P:=by
     rw[←wK]
     exact gN _ hb
    rw[sQ]
    refine⟨_,rfl,_,rfl,iI ⟨.inl ⟨by omega,by omega⟩,_,rfl,_,rfl,iI ⟨.inl ⟨by omega,by omega⟩,_,rfl,iI ⟨_,_,rfl,⟨by omega,by omega,by omega,by omega⟩,λml H9 n9 s9' h9=>?_⟩⟩⟩⟩
    rw[bPe,show(((b*X.s.q.P:Nat):Int)+(X.s.q.P:Int)-((b*X.s.q.P:Nat):Int)).toNat=X.s.q.P by omega]
    refine q4J (D:=ml) (λi HA=>Same H' HA∧HA ml=some (.lst (((List.range (min i f)).map λj=>((b*X.s.q.P+j:Nat):Int)).map V.int))) ⟨s9',by rw[Nat.zero_min];exact h9⟩ (λi HA hi hp=>?_) (λHA hp=>?_)
    ·obtain⟨sA,hA⟩:=hp
     have iN:b*X.s.q.P+i<bs.length:=by omega
     have at1:atI bs (((b*X.s.q.P:Nat):Int)+(i:Int))=some (bs.getD (b*X.s.q.P+i) .non):=by
      rw[←pJ]
      exact yT (by rw[kJ,hV iN];rfl)
     refine⟨_,rfl,_,rfl,D,bs,_,_,rfl,rfl,SqL.of (sA _ _ (kf _ _ dfl hD8)),at1,rfl,_,rfl,?_⟩
     cases hpg:X.s.pg (b*X.s.q.P+i)with
     |none=>
      have fi:f≤i:=pU.mp λy=>by
       obtain⟨v,e⟩:=pgs.wr b i hb hi (by rw[ef];omega)
       rw[hpg]at e
       cases e
      rw[pat3.n _ hpg,hC rfl]
      refine iteF ⟨sA,?_⟩
      rw[sO fi]at hA
      rw[sO (by omega)]
      exact hA
     |some v=>
      have fi:i<f:=Nat.not_le.mp λy=>by
       rw[w.cr b i hb (by rw[ef];omega) hi]at hpg
       cases hpg
      obtain⟨tp,e1,_⟩:=pat3.v _ v hpg
      rw[e1,hG (λz=>by cases z)]
      rw[Nat.min_eq_left (by omega)]at hA
      refine iteT ⟨_,rfl,_,hA,?_,λy o e=>?_,?_⟩
      ·rw[hI,hI,mH]
       omega
      ·rw[qC (qF e n9)]
       exact sA _ _ e
      ·rw[qI,Nat.min_eq_left (by omega),pK,mV,mV,pW,pW,pJ]
    ·obtain⟨sA,hA⟩:=hp
     rw[sO fP]at hA
     obtain⟨b1,b2'⟩:=pgs.bn b hb
     refine⟨λσ' H'=>σ'=[some (.ref x.c),some (.int (X.s.q.B:Int)),some (.int (X.s.q.P:Int)),some (.ref kd),some (.ref D),some (.ref ll),some (.ref wl),y7,y8,y9,some (.ref fl),some (.int (b:Int)),some (.ref ml),some (.int (X.s.q.bo.getD b 0))]∧Same HA H',?_,?_⟩
     ·refine⟨_,rfl,sz0,λl0 HB nB sB hB=>?_⟩
      have hAB:=sB _ _ hA
      refine⟨ml,_,l0,rfl,rfl,SqL.of hAB,SqL.of hB,_,rfl,?_⟩
      by_cases z:f=0
      ·rw[hG (λy=>y (by rw[z];rfl)),b1 (by rw[ef,z];rfl)]
       exact iteF ⟨rfl,sB⟩
      ·obtain⟨v,e1,e2⟩:=b2' (by rw[ef];omega)
       have ne:((List.range f).map λj=>((b*X.s.q.P+j:Nat):Int)).map V.int≠[]:=λy=>z (by
        have:=g0 List.length y
        rw[hI,hI,mH]at this
        exact this)
       rw[hC ne]
       obtain⟨tp,g1,g2⟩:=pat3.v _ v e1
       have iN:b*X.s.q.P<bs.length:=by omega
       refine iteT ⟨_,rfl,_,rfl,iL (k:=0) (v:=.int ((b*X.s.q.P:Nat):Int)) (SqL.of hAB) (show atI _ ((0:Nat):Int)=_ from yT ?_) ⟨D,bs,_,.ref tp,rfl,rfl,SqL.of (sB _ _ (sA _ _ (kf _ _ dfl hD8))),yT (by rw[←g1,kJ,hV iN];rfl),iT (k:=0) (v:=.int v.1) (SqT.of (sB _ _ (sA _ _ (kf _ _ (λy=>?_) (tp8 g2))))) rfl (iI ⟨⟨by decide,by decide⟩,?_⟩)⟩⟩
       ·rw[mB,mB,pP (by omega)]
        rfl
       ·rw[y]at g2
        rw[tp8 g2]at h8
        cases h8
       ·exact⟨by rw[e2];rfl,sB⟩
     rintro σ' HC ⟨rfl,sC⟩
     have hAC:=sC _ _ hA
     have hLC:=sC _ _ (sA _ _ (kf _ _ lfl hL8))
     have hwC:=sC _ _ (sA _ _ (kf _ _ wfl hw8))
     have hfC:=sC _ _ (sA _ _ hf)
     refine⟨_,rfl,.inl ⟨rfl,_,SqL.of hfC⟩,_,rfl,_,rfl,ml,rfl,⟨_,SqL.of hAC⟩,λel HD nD' sD' hD'=>?_⟩
     refine uS (K:=K) (xs:=((List.range f).map λj=>((b*X.s.q.P+j:Nat):Int)).map V.int) (D:=el) (λi HE=>Same HC HE∧HE el=some (.lst (((((List.range f).map λj=>((b*X.s.q.P+j:Nat):Int)).take i).filter λq=>decide (q∈W.map (·.2))).map V.int))) ⟨sD',hD'⟩ (λi HE hp=>SqL.of (hp.1 _ _ hAC)) (λi v HE hv hp=>?_) (λHE hp=>?_)
     ·obtain⟨sE,hE⟩:=hp
      rw[mB]at hv
      obtain⟨q,hq,rfl⟩:=mU.mp hv
      obtain⟨iq,eq⟩:=kC.mp hq
      refine⟨_,rfl,_,rfl,ll,_,rfl,.inl (SqL.of (sE _ _ hLC)),rfl,qBY,_,rfl,?_⟩
      show if inV (.int q) _=true then _ else _
      rw[q46,←mE iq,eq,gH]
      by_cases z:q∈W.map (·.2)
      ·rw[kF (hC z),mR,kF (hC z),rU]
       refine⟨_,rfl,_,hE,?_,λy o e=>?_,?_⟩
       ·rw[hI]
        refine dD (mD _ _) ?_
        rw[gE,hI,mH]
        omega
       ·rw[qC (qF e nD')]
        exact sE _ _ e
       ·rw[qI,mV]
        rfl
      ·rw[kB (λy=>z (mL y)),mR,kB (λy=>z (mL y)),rU,gY]
       exact⟨sE,hE⟩
     ·obtain⟨sE,hE⟩:=hp
      rw[hI,gC]at hE
      have lc:=qF4 w hb ef fP live
      refine⟨el,_,rfl,.inl (SqL.of hE),?_⟩
      rw[hI,lc]
      have lcl:=w.lc
      refine⟨_,rfl,_,rfl,iL (k:=_) (v:=.int (X.s.cl.getD b 0)) (SqL.of (sE _ _ hwC)) (atV (by omega)) ⟨_,rfl,_,rfl,ml,_,rfl,.inl (SqL.of (sE _ _ hAC)),sz5,λtn HF nF sF hF=>⟨fl,us,_,rfl,rfl,sF _ _ (sE _ _ hfC),by omega,?_⟩⟩⟩
      rw[hI,hI,mH]at hF
      have hfF:=sF _ _ (sE _ _ hfC)
      have s8F:∀y o,H' y=some o→HF y=some o:=λy o e=>sF _ _ (sE _ _ (sC _ _ (sA _ _ e)))
      refine nxt _ _ ⟨_,_,_,us++[.ref tn],rfl,qI,?_,λy o ny e=>?_⟩
      ·rw[pK,mV]
       have up:∀{y:Addr} {xs:List V},HF y=some (.tup xs)→(upd HF fl (.lst (us++[.ref tn]))) y=some (.tup xs):=fun {y xs} e=>by
        rw[qC (λz=>by rw[z,hfF]at e;cases e)]
        exact e
       refine L2.Paired.snoc (Paired.mapP prf λv d ⟨p',e',h'⟩=>⟨p',e',up (s8F _ _ h')⟩) ⟨tn,rfl,up ?_⟩
       rw[hF]
       show _=some (HO.tup ((rowT X.s b).map V.int))
       unfold rowT
       rw[ef]
       rfl
      ·rw[qC ny]
       exact s8F _ _ (kf _ _ ny e)
   ·obtain⟨y11,y12,y13,us,rfl,hf,prf,kf⟩:=hp
    refine⟨_,rfl,kk fl us H' n0f (λy o e=>?_) hf prf⟩
    have e4:=s04 _ _ e
    exact kf _ _ (λz=>by rw[z,n0f]at e;cases e) (nw (s46 _ _ e4) (qF (s5 _ _ e4) n6))
noncomputable def qKX:Sp:=λvs H Q _=>∃l us k s,vs=[.ref l,.int (s.q.P:Int),.int ((k:Tm).ie:Int)]∧H l=some (.lst us)∧Paired (TupD H) us ((List.range s.q.B).map (rowT s))∧WX k s∧∀H',Same H H'→Q (.int (s.spc k)) H'
theorem q5H(T:Txt K mg t)(S:Fns K t):S.law_room_due.Ok0 P w mg base 1 qKX:=by
 refine S.law_room_due.F.ok0 q1B λcdv A _ s H vs Q E hr h=>?_
 ·obtain⟨l,us,k,s,rfl,hl,pr,w,kk⟩:=h
  have s9:(99999:Nat)<sizeLine:=by decide
  have b2:=w.qs.ok.b2
  have lus:=pr.len
  rw[hI,mH]at lus
  obtain⟨fl,hfl⟩:=FreeIs.ex s.q.B (noB s.q.B) s.cl s.q.fi
  have spe:=q8B w hfl
  have lfl:=q9R hfl
  have row:∀{i:Nat} {v:V},us[i]?=some v→i<s.q.B∧∃tp,v=.ref tp∧H tp=some (.tup ((rowT s i).map V.int)):=fun {i v} e=>by
   obtain⟨d,ed,tp,e1,e2⟩:=Paired.at pr e
   have hi:i<s.q.B:=by rw[←lus];exact(kC.mp e).1
   rw[mB,pP hi]at ed
   cases ed
   exact⟨hi,tp,e1,e2⟩
  refine⟨_,(qB (jB (qO q7D (j8 jD (by rfl) T.b_len gO (qA (yU ["_law_row"] [] rfl (jP (pv 0)) (λ_ _ _ _ _=>(qX (i:=0) (show List.Nodup (["_law_row"]:List Str)from by decide) rfl (Or.inl rfl))) (λ_ _ _ _ _=>(yD (qO uN (qW (vS (K:=K) rfl) (pv 0) qG (λ_ _=>rfl)) qG (qR _)))) (λ_ _ _ _ _=>(pv 0)) (by kernel_rfl) (jQ (by decide))) qE)) (pv 2) (qR _)) (qD (qL (pv 1))) qQ) (qB (uG gT rfl (jP (pv 0)) (qX (i:=3) q1B.nd rfl (Or.inl rfl)) (qD (jB (q5U q07 q07 qG (qW yQ (pv 3) qG (λ_ _=>rfl)) (pv 1)) (qD (qL (qS vJ (pv 1) (qW yQ (pv 3) qG (λ_ _=>rfl))))) qQ))) (qD (qL qG)))),?_⟩
  try dsimp-beta-proj-iota-zeta-eta only[wishK,cxK]
  refine⟨_,rfl,l,rfl,⟨_,SqL.of hl⟩,λD H2 nD s2 hD=>?_⟩
  refine uS (K:=K) (xs:=us) (D:=D) (λi H3=>∃vs:List V,Same H H3∧H3 D=some (.lst vs)∧vs.length=(((List.range s.q.B).take i).filter λb=>decide (s.q.fi.getD b 0=0)).length) ⟨[],s2,hD,rfl⟩ (λi H3 hp=>SqL.of (hp.choose_spec.1 _ _ hl)) (λi v H3 hv hp=>?_) (λH3 hp=>?_)
  ·obtain⟨vs,sm,hd,lv⟩:=hp
   obtain⟨hi,tp,rfl,htp⟩:=row hv
   have hi':i<(List.range s.q.B).length:=by rw[mH];exact hi
   refine⟨_,rfl,iT (k:=4) (v:=.int (s.q.fi.getD i 0)) (SqT.of (sm _ _ htp)) rfl ⟨rfl,_,rfl,?_⟩⟩
   rw[←mE hi',cJ,gH,mC]
   by_cases z:s.q.fi.getD i 0=0
   ·rw[yF,hC z,mR,kF (hC z),rU]
    refine iteT ⟨_,rfl,_,hd,?_,_,λy o e=>?_,qI,?_⟩
    ·rw[lv]
     refine dD (mD _ _) ?_
     rw[gE,mH]
     omega
    ·rw[qC (qF e nD)]
     exact sm _ _ e
    ·rw[mC,lv]
     rfl
   ·rw[yF,hG z,mR,kB (λy=>z (mL y)),rU]
    exact iteF ⟨vs,sm,hd,lv⟩
  ·obtain⟨vs,s3,hd,lv⟩:=hp
   rw[lus,List.take_of_length_le (by rw[mH];exact kN _),←lfl]at lv
   refine⟨D,vs,rfl,.inl (SqL.of hd),_,rfl,iI ⟨_,rfl,?_⟩⟩
   have kk3:Q (.int (s.spc k)) H3:=kk H3 s3
   rw[←spe]at kk3
   unfold spcN at kk3
   by_cases z:(k.ie:Int)<((vs.length:Nat):Int)
   ·rw[hC z]
    rw[kF (by omega)]at kk3
    exact iteT ⟨_,rfl,kk3⟩
   ·rw[hG z]
    rw[kB (by omega)]at kk3
    refine iteF ?_
    have hl3:=s3 _ _ hl
    refine⟨_,rfl,l,rfl,⟨_,SqL.of hl3⟩,?_⟩
    refine uD (K:=K) (xs:=us) (λi σ' H'=>∃y,σ'=[some (.ref l),some (.int (s.q.P:Int)),some (.int (k.ie:Int)),y]∧H'=H3∧∀c,c<i→jJ s.q.P s.q.fi c=false) ⟨_,rfl,rfl,λc hc=>absurd hc (pH _)⟩ (λi σ' H' hi hp=>by obtain⟨_,_,rfl,_⟩:=hp;exact SqL.of hl3) (λi v σ' H' hv hp=>?_) (λσ' H' hp=>?_)
    ·obtain⟨y,rfl,rfl,no⟩:=hp
     obtain⟨hi,tp,rfl,htp⟩:=row hv
     have htp3:=s3 _ _ htp
     refine⟨_,rfl,iT (k:=4) (v:=.int (s.q.fi.getD i 0)) (SqT.of htp3) rfl (iI ⟨_,rfl,?_⟩)⟩
     have go:jJ s.q.P s.q.fi i=false→∃y',[some (V.ref l),some (.int (s.q.P:Int)),some (.int (k.ie:Int)),some (.ref tp)]=[some (.ref l),some (.int (s.q.P:Int)),some (.int (k.ie:Int)),y']∧H'=H'∧∀c,c<i+1→jJ s.q.P s.q.fi c=false:=λz=>⟨_,rfl,rfl,λc hc=>by
      by_cases y:c=i
      ·rw[y];exact z
      ·exact no c (by omega)⟩
     by_cases z0:(0:Int)<s.q.fi.getD i 0
     ·rw[hC z0]
      refine iteT ⟨_,rfl,iI ⟨_,rfl,?_⟩⟩
      by_cases z1:s.q.fi.getD i 0<(s.q.P:Int)
      ·rw[hC z1]
       rw[qGX hi (by unfold jJ;rw[hC z0,hC z1];rfl) no]at kk3
       exact iteT ⟨_,rfl,_,rfl,iT (k:=4) (v:=.int (s.q.fi.getD i 0)) (SqT.of htp3) rfl (iI kk3)⟩
      ·rw[hG z1]
       exact iteF (go (by unfold jJ;rw[hG z1,Bool.and_false]))
     ·rw[hG z0]
      exact iteF ⟨_,rfl,iteF (go (by unfold jJ;rw[hG z0];rfl))⟩
    ·obtain⟨y,rfl,rfl,no⟩:=hp
     rw[qGY (λc hc=>no c (by omega))]at kk3
     exact kk3
theorem qF9{H:Hp}{rs ds:List V}{L:List (List Int)}{p r:Addr}(hp:H p=some (.lst rs))(hq:H r=some (.lst ds))(t1:Paired (TupD H) rs L)(t2:Paired (TupD H) ds L):Eqv K H 6 (.ref p) (.ref r):=by
 refine .lst (SqL.of hp) (SqL.of hq) (t1.len.trans t2.len.symm) λj x y hx hy=>?_
 obtain⟨b,hb,x',rfl,hx'⟩:=Paired.at t1 hx
 obtain⟨b',hb',y',rfl,hy'⟩:=Paired.at t2 hy
 obtain rfl:b=b':=kP (hb.symm.trans hb')
 refine .tup (SqT.of hx') (SqT.of hy') rfl λi u v hu hv=>?_
 obtain rfl:u=v:=kP (hu.symm.trans hv)
 rw[mB]at hu
 obtain⟨z,_,rfl⟩:=mU.mp hu
 exact .flat rfl
noncomputable def spRw:Sp:=λvs H Q _=>∃p r rs ds L,vs=[.ref p,.ref r]∧H p=some (.lst rs)∧H r=some (.lst ds)∧Paired (TupD H) rs L∧Paired (TupD H) ds L∧(∀b∈L,b.length=4)∧∀H',Same H H'→Q (.bl true) H'
theorem q56(T:Txt K mg t)(S:Fns K t):S.law_rows.Ok0 P w mg base 2 spRw:=by
 refine S.law_rows.F.ok0 q53 λcdv A _ s H vs Q E hr h=>?_
 ·obtain⟨p,r,rs,ds,L,rfl,hp,hq,t1,t2,g4,k⟩:=h
  refine⟨_,(qB (jB (PW.pt (q5R (yH (jY (j8 yK (by rfl) T.b_isinstance (by kernel_rfl) (qA (pv 0) (qA (q0N rfl T.b_list (by kernel_rfl) rfl (v:=.ty "list")) qE))))) (q2Z (qO (qIW hr.units) (pv 0) (pv 1) (qR _))))) (qD (qL q2T)) qQ) (qB (uG gT rfl (jP (pv 0)) (qX (i:=2) q53.nd rfl (Or.inl rfl)) (qD (jB (PW.pt (q5R (yH (jY (j8 yK (by rfl) T.b_isinstance (by kernel_rfl) (qA (pv 2) (qA (q0N rfl T.b_tuple (by kernel_rfl) rfl (v:=.ty "tuple")) qE))))) (q2Z (qO q4W (j8 jD (by rfl) T.b_len gO (qA (yU ["_law_number"] [] rfl (qHS (pv 2)) (λ_ _ _ _ _=>(qX (i:=0) (show List.Nodup (["_law_number"]:List Str)from by decide) rfl (Or.inl rfl))) (λ_ _ _ _ _=>(yD (jY (qV (q44 T S).mono hr rfl T.mg_law_whole T.kp_law_whole S.law_whole.b .nil qK (qA (pv 0) qE))))) (λ_ _ _ _ _=>(pv 0)) (by kernel_rfl) (jQ (by decide))) qE)) qG (qR _))))) (qD (qL q2T)) qQ))) (qD (qL q2T)))),?_⟩
  try dsimp-beta-proj-iota-zeta-eta only[wishK,cxK]
  refine⟨_,rfl,.ref p,_,_,.type "list",_,rfl,rfl,.inl (.lst hp),qIN,_,rfl,iteF ?_⟩
  refine⟨_,rfl,_,rfl,qF9 hp hq t1 t2,_,rfl,iteF ?_⟩
  refine⟨_,rfl,p,rfl,⟨_,SqL.of hp⟩,?_⟩
  refine uD (K:=K) (xs:=rs) (λi σ' H'=>∃v2,σ'=[some (.ref p),some (.ref r),v2]∧Same H H') ⟨_,rfl,Same.refl H⟩ (λi σ' H' _ hp'=>?_) (λi x σ' H' hx hp'=>?_) (λσ' H' hp'=>?_)
  ·obtain⟨v2,rfl,sm⟩:=hp'
   exact SqL.of (sm _ _ hp)
  ·obtain⟨v2,rfl,sm⟩:=hp'
   obtain⟨l,hl,x',rfl,hx'⟩:=Paired.at t1 hx
   have l4:=g4 l (gK hl)
   have hx2:=sm _ _ hx'
   refine⟨_,rfl,.ref x',_,_,.type "tuple",_,rfl,rfl,.inl (.tup hx2),qIM,_,rfl,iteF ?_⟩
   refine⟨_,rfl,x',rfl,⟨_,SqT.of hx2⟩,λD H1 nD s1 hD=>?_⟩
   refine qGG (K:=K) (xs:=l.map V.int) (D:=D) (λi H2=>Same H' H2∧H2 D=some (.lst ((l.take i).map V.int))) ⟨s1,hD⟩ (λi H2 hp'=>SqT.of (hp'.1 _ _ hx2)) (λi y H2 hy hp'=>?_) (λH2 hp'=>?_)
   ·obtain⟨sm2,hd⟩:=hp'
    rw[mB]at hy
    obtain⟨z,hz,rfl⟩:=mU.mp hy
    have hi:=(kC.mp hz).1
    obtain rfl:l[i]=z:=(kC.mp hz).2
    refine⟨_,rfl,_,rfl,.int _,_,rfl,iteT ?_⟩
    refine⟨_,rfl,_,hd,?_,λb o e=>?_,?_⟩
    ·rw[hI,gE]
     have:(4:Nat)<sizeLine:=by decide
     omega
    ·rw[qC (qF e nD)]
     exact sm2 _ _ e
    ·rw[qI,←mE hi,mV]
     rfl
   ·obtain⟨sm2,hd⟩:=hp'
    rw[hI,gC]at hd
    refine⟨D,_,rfl,.inl (SqL.of hd),rfl,_,rfl,?_⟩
    rw[hI,l4]
    exact iteF ⟨_,rfl,sm.trans sm2⟩
  ·obtain⟨v2,rfl,sm⟩:=hp'
   exact k H' sm
theorem qH4{X:Cx}{K:W.Frag}(e:X.K=K):SlR X (rSlT K):=e▸qHY
theorem q48{a:Addr}{us:List V}{L:List (List Int)}{D:Addr}{H H2:Hp}{g:TG}{tc:TT}{te:TE}{σ0:St}{R:Hp→Prop}(f:List Int→Bool)(cu:List Int→List Int)(ha:H a=some (.lst us))(pr:Paired (TupD H) us L)(lu:us.length<sizeLine)(nD:H D=none)(s2:Same H H2)(hD:H2 D=some (.lst []))
 (hs:∀x' d H' (N:V→Hp→Prop) (N':Hp→Prop),d∈L→Same H H'→H' x'=some (.tup (d.map V.int))→(f d=true→∀v H7,Same H' H7→TupD H7 v (cu d)→N v H7)→(f d=false→N' H')→g (.ref x') σ0 H' λσ5 H5=>tc σ5 H5 λb H6=>if b=true then te σ5 H6 N else N' H6)
 (hd:∀zs H',Same H H'→H' D=some (.lst zs)→Paired (TupD H') zs ((L.filter f).map cu)→R H'):
 ∃W:Nat→Nat→Hp→Prop,(∃m,W 0 m H2)∧∀i m H3,W i m H3→((Itl K a).stop i H3∧R H3)∨
  ((Itl K a).go i H3∧∃N:Hp→Prop,(∀H',N H'→∃m',m'<m∧W (i+1) m' H')∧∀x H4,(Itl K a).yld i H3 x H4→g x σ0 H4 λσ5 H5=>tc σ5 H5 λb H6=>
   if b=true then te σ5 H6 (λv H7=>∃vs,H7 D=some (.lst vs)∧vs.length<sizeLine∧N (upd H7 D (.lst (vs++[v]))))else N H6):=by
 refine uS (K:=K) (xs:=us) (D:=D) (λi H'=>∃zs,Same H H'∧H' D=some (.lst zs)∧Paired (TupD H') zs (((L.take i).filter f).map cu)) ⟨[],s2,hD,.nil⟩ (λi H' hp=>by obtain⟨_,sm,_⟩:=hp;exact SqL.of (sm _ _ ha)) (λi y H' hy hp=>?_) (λH' hp=>?_)
 ·obtain⟨zs,sm,hz,pz⟩:=hp
  obtain⟨d,hd',x',rfl,hx⟩:=Paired.at pr hy
  obtain⟨il,rfl⟩:=kC.mp hd'
  have lz:zs.length<sizeLine:=by
   rw[pz.len,hI]
   refine dD (mD _ _) (dD ?_ lu)
   rw[gE,pr.len]
   omega
  refine hs x' L[i] H' _ _ (gJ il) sm (sm _ _ hx) (λfd v H7 s7 hv=>⟨zs,s7 _ _ hz,lz,zs++[v],λb o e=>?_,qI,?_⟩) (λfd=>⟨zs,sm,hz,?_⟩)
  ·rw[qC (qF e nD)]
   exact s7 _ _ (sm _ _ e)
  ·rw[←mE il,gH,mR,kF fd,rU,mV]
   exact L2.Paired.snoc (Paired.mapP (yL pz s7) λx k z=>z.upd (s7 _ _ hz) (λ_ q=>by cases q)) (hv.upd (s7 _ _ hz) (λ_ q=>by cases q))
  ·rw[←mE il,gH,mR,kB (by rw[fd];decide),rU,gY]
   exact pz
 ·obtain⟨zs,sm,hz,pz⟩:=hp
  rw[pr.len,gC]at pz
  exact hd zs H' sm hz pz
theorem qFA{s:XS}:(jG s.q.B s.q.P (noB s.q.B) s.q.fi).isSome=decide (0<((List.range s.q.B).filter λb=>decide (0<s.q.fi.getD b 0)&&decide (s.q.fi.getD b 0<(s.q.P:Int))).length):=by
 unfold jG
 rw[jT,rR,List.find?_isSome,decide_eq_true_iff,List.length_pos_iff_exists_mem]
 refine exists_congr λb=>?_
 rw[mM]
 exact Iff.rfl
noncomputable def spRg(t:Adr):Sp:=λvs H Q _=>∃x k sh sr r rl pp X kd KD p0 s4,∃n:Nat,vs=[.ref x.s,.ref x.c,.ref p0,.ref kd]∧KX t H x k sh sr r rl pp X kd KD n∧Pw X.s∧X.s.lf≠some 0∧n≤1000∧H p0=some (.lst [.int (X.s.q.B:Int),.int (X.s.q.P:Int),s4,.int (k.ie:Int)])∧∀H',Keep [t.T_Plain_free] H H'→TbF t H'→Q (.bl true) H'
theorem q49(T:Txt K mg t)(S:Fns K t)(B:BmIn base mg):S.law_right.Ok0 P w mg base 13 (spRg t):=by
 refine S.law_right.F.ok0 y6 λcdv A _ s H vs Q E hr h=>?_
 ·obtain⟨x,k,sh,sr,r,rl,pp,X,kd,KD,p0,s4,n,rfl,h,pw,dk,n9,h0,kk⟩:=h
  have s9:(99999:Nat)<sizeLine:=by decide
  have hu:=q1G hr
  have w:=h.d.x.w
  have b2:=w.qs.ok.b2
  have T0:p0∉[t.T_Plain_free]:=λz=>by
   obtain⟨tb,e,_⟩:=h.h.j.tb
   rw[←kI.mp z,h0]at e
   cases e
  refine⟨_,(qB (qU (i:=4) y6.nd rfl (Or.inl rfl) (qV (q6V T S).mono hr rfl T.mg_law_tallies T.kp_law_tallies S.law_tallies.b .nil qK (qA (pv 1) (qA (qW qY (pv 2) qG (λ_ _=>rfl)) (qA (qW qY (pv 2) qG (λ_ _=>rfl)) (qA (pv 3) qE)))))) (qB (qU (i:=5) y6.nd rfl (Or.inr rfl) (qV (q5H T S).mono hr rfl T.mg_law_room_due T.kp_law_room_due S.law_room_due.b .nil qK (qA (pv 4) (qA (qW qY (pv 2) qG (λ_ _=>rfl)) (qA (qW qY (pv 2) qG (λ_ _=>rfl)) qE))))) (qB (qU (i:=6) y6.nd rfl (Or.inl rfl) (j0 (pv 0) T.cl_Store T.m_Store_space (q2C T S B).mono hr S.Store_space.b .nil qK)) (qB (jB (PW.pt (q5R (yH (jY (qV (q44 T S).mono hr rfl T.mg_law_whole T.kp_law_whole S.law_whole.b .nil qK (qA (pv 6) qE)))) (q2Z (qO q4W (pv 6) (pv 5) (qR _))))) (qD (qL q2T)) qQ) (qB (qU (i:=7) y6.nd rfl (Or.inl rfl) (j8 jD (by rfl) T.b_len gO (qA (yU ["_law_row"] [] rfl (jP (pv 4)) (λ_ _ _ _ _=>(qX (i:=0) (show List.Nodup (["_law_row"]:List Str)from by decide) rfl (Or.inl rfl))) (λ_ _ _ _ _=>(yD (qO uN (qW (vS (K:=K) rfl) (pv 0) qG (λ_ _=>rfl)) qG (qR _)))) (λ_ _ _ _ _=>(pv 0)) (by kernel_rfl) (jQ (by decide))) qE))) (qB (qU (i:=8) y6.nd rfl (Or.inl rfl) (j8 jD (by rfl) T.b_len gO (qA (yU ["_law_shape_here","_law_row"] [2] rfl (jP (pv 4)) (λ_ _ _ _ _=>(qX (i:=1) (show List.Nodup (["_law_shape_here","_law_row"]:List Str)from by decide) rfl (Or.inl rfl))) (λ_ _ _ _ _=>(yD (q5U q07 q07 qG (qW (vS (K:=K) rfl) (pv 1) qG (λ_ _=>rfl)) (qW (q0A (K:=K) rfl) (pv 0) qG (λ_ _=>rfl))))) (λ_ _ _ _ _=>(pv 1)) (by kernel_rfl) (jQ (by decide))) qE))) (qB (qU (i:=9) y6.nd rfl (Or.inl rfl) (j0 (pv 0) T.cl_Store T.m_Store_ready (q2B T S B).mono hr S.Plain_ready.b .nil qK)) (qB (jB (PW.pt (q5R (yH (jY (j8 yK (by rfl) T.b_isinstance (by kernel_rfl) (qA (pv 9) (qA (q0N rfl T.b_bool (by kernel_rfl) rfl (v:=.ty "bool")) qE))))) (q2Z (qO q4W (pv 9) (qCW (uP q7D (pv 7) (qS uH qG (qW qY (pv 2) qG (λ_ _=>rfl))) (qR _)) (vY (q1E (uP q7D (pv 8) qG (qR _)) (vY (uP q7D (pv 7) (qW qY (pv 2) qG (λ_ _=>rfl)) (qR _)))))) (qR _))))) (qD (qL q2T)) qQ) (qB (q0B (i:=10) ["_law_shape_here","_law_due","_law_row"] [2,5] rfl (jP (pv 4)) (λ_ _ _ _ _=>(qX (i:=2) (show List.Nodup (["_law_shape_here","_law_due","_law_row"]:List Str)from by decide) rfl (Or.inl rfl))) (λ_ _ _ _ _=>(yD (PW.pt (q30 (qO uN (qW (vS (K:=K) rfl) (pv 2) qG (λ_ _=>rfl)) (qW (q0A (K:=K) rfl) (pv 0) qG (λ_ _=>rfl)) (qR _)) (q0O (qO qB1 (qW (vS (K:=K) rfl) (pv 2) qG (λ_ _=>rfl)) (pv 1) (qR _))))))) (λ_ _ _ _ _=>(qD9 (qH4 (K:=K) rfl) (pv 2) qFH (qFI qG))) (by kernel_rfl) (jQ (by decide)) y6.nd rfl (Or.inl rfl)) (qB (q0B (i:=11) ["_law_shape_here","_law_row"] [2] rfl (jP (pv 10)) (λ_ _ _ _ _=>(qX (i:=1) (show List.Nodup (["_law_shape_here","_law_row"]:List Str)from by decide) rfl (Or.inl rfl))) (λ_ _ _ _ _=>(yD (qO q07 (qW (vS (K:=K) rfl) (pv 1) qG (λ_ _=>rfl)) (qW (q0A (K:=K) rfl) (pv 0) qG (λ_ _=>rfl)) (qR _)))) (λ_ _ _ _ _=>(pv 1)) (by kernel_rfl) (jQ (by decide)) y6.nd rfl (Or.inl rfl)) (qD (qL (q1E (qV (q56 T S).mono hr rfl T.mg_law_rows T.kp_law_rows S.law_rows.b .nil qK (qA (j0 (pv 0) T.cl_Store T.m_Store_full_ones (zJ T S B).mono hr S.Store_full_ones.b .nil qK) (qA (pv 10) qE))) (vY (qV (q56 T S).mono hr rfl T.mg_law_rows T.kp_law_rows S.law_rows.b .nil qK (qA (j0 (pv 0) T.cl_Store T.m_Store_options (vC T S B).mono hr S.Store_options.b .nil qK) (qA (pv 11) qE))))))))))))))))),?_⟩
  try dsimp-beta-proj-iota-zeta-eta only[wishK,cxK]
  refine⟨_,rfl,_,rfl,iL (k:=_) (v:=_) (SqL.of h0) rfl ⟨_,rfl,iL (k:=_) (v:=_) (SqL.of h0) rfl ⟨_,rfl,x,k,sh,sr,r,rl,pp,X,kd,KD,n,rfl,h,pw,dk,n9,λl us H1 n1 s1 h1 pr=>?_⟩⟩⟩
  refine⟨_,rfl,_,rfl,iL (k:=_) (v:=_) (SqL.of (s1 _ _ h0)) rfl ⟨_,rfl,iL (k:=_) (v:=_) (SqL.of (s1 _ _ h0)) rfl ⟨l,us,k,X.s,rfl,h1,pr,w,λH2 s2=>?_⟩⟩⟩
  have s02:=s1.trans s2
  have j2:=h.h.j.same s02
  obtain⟨m,hs,c,_⟩:=j2.e
  refine(iV rfl (iM j2.o rfl ⟨x,_,_,_,m,X.s.q,_,rfl,hs,c.ft,λf H3 hf k3 tb3=>?_⟩))
  rw[c.br,c.cl]at hf
  rw[c.br,q8B w hf]
  have s03:Keep [t.T_Plain_free] H H3:=(Keep.same s02).trans k3
  refine⟨_,rfl,_,rfl,.int _,_,rfl,iteF ?_⟩
  refine⟨_,rfl,_,rfl,rfl,_,rfl,?_⟩
  rw[hC rfl]
  refine iteF ?_
  have pr3:Paired (TupD H3) us ((List.range X.s.q.B).map (rowT X.s)):=Paired.mapP (yL pr s2) λ_ _ ⟨p,e,z⟩=>⟨p,e,k3.tp _ _ z⟩
  have lus:=pr.len
  rw[hI,mH]at lus
  have Tl:l∉[t.T_Plain_free]:=λz=>by
   obtain⟨tb,e,_⟩:=h.h.j.tb
   rw[←kI.mp z,n1]at e
   cases e
  have hl3:H3 l=some (.lst us):=k3.k _ _ Tl (s2 _ _ h1)
  have h03:H3 p0=some (.lst [.int (X.s.q.B:Int),.int (X.s.q.P:Int),s4,.int (k.ie:Int)]):=k3.k _ _ T0 (s02 _ _ h0)
  refine⟨_,rfl,l,rfl,⟨_,SqL.of hl3⟩,λD H4 nD s4 hD=>?_⟩
  refine q48 (λd=>decide (d.getD 4 0=0)) id hl3 pr3 (by omega) nD s4 hD (λx' d H' N N' hd sm hx kt kf=>?_) (λz1 H5 s5 h5 p5=>?_)
  ·obtain⟨b,_,rfl⟩:=kO.mp hd
   refine⟨_,rfl,iT (k:=4) (v:=.int (X.s.q.fi.getD b 0)) (SqT.of hx) rfl ⟨rfl,_,rfl,?_⟩⟩
   by_cases z:X.s.q.fi.getD b 0=0
   ·rw[yF,hC z]
    exact iteT ⟨_,rfl,kt (hC z) _ _ (Same.refl _) ⟨_,rfl,hx⟩⟩
   ·rw[yF,hG z]
    exact iteF (kf (hG z))
  have e1:z1.length=f.length:=by
   rw[p5.len,hI,rT,hI,q9R hf]
   rfl
  refine⟨D,z1,rfl,.inl (SqL.of h5),?_⟩
  rw[e1]
  have h05:=s5 _ _ h03
  have hl5:=s5 _ _ hl3
  refine⟨_,rfl,l,rfl,⟨_,SqL.of hl5⟩,λD2 H6 n6 s6 hD2=>?_⟩
  refine q48 (λd=>decide (0<d.getD 4 0)&&decide (d.getD 4 0<(X.s.q.P:Int))) id hl5 (yL pr3 s5) (by omega) n6 s6 hD2 (λx' d H' N N' hd sm hx kt kf=>?_) (λz2 H7 s7 h7 p7=>?_)
  ·obtain⟨b,_,rfl⟩:=kO.mp hd
   refine⟨_,rfl,iT (k:=4) (v:=.int (X.s.q.fi.getD b 0)) (SqT.of hx) rfl (iI ⟨_,rfl,?_⟩)⟩
   have kt:(decide (0<X.s.q.fi.getD b 0)&&decide (X.s.q.fi.getD b 0<(X.s.q.P:Int)))=true→_:=kt
   have kf:(decide (0<X.s.q.fi.getD b 0)&&decide (X.s.q.fi.getD b 0<(X.s.q.P:Int)))=false→_:=kf
   by_cases z:0<X.s.q.fi.getD b 0
   ·rw[hC z]at kt kf ⊢
    refine iteT ⟨_,rfl,iL (k:=1) (v:=_) (SqL.of (sm _ _ h05)) rfl (iI ⟨_,rfl,?_⟩)⟩
    by_cases y:X.s.q.fi.getD b 0<(X.s.q.P:Int)
    ·rw[hC y]at kt ⊢
     exact iteT ⟨_,rfl,kt rfl _ _ (Same.refl _) ⟨_,rfl,hx⟩⟩
    ·rw[hG y]at kf ⊢
     exact iteF (kf rfl)
   ·rw[hG z]at kf ⊢
    exact iteF ⟨_,rfl,iteF (kf rfl)⟩
  have e2:(jG X.s.q.B X.s.q.P (noB X.s.q.B) X.s.q.fi).isSome=decide (0<z2.length):=by
   rw[p7.len,hI,rT,hI,qFA]
   rfl
  refine⟨D2,z2,rfl,.inl (SqL.of h7),?_⟩
  have k07:Keep [t.T_Plain_free] H H7:=s03.trans (Keep.same (s5.trans s7))
  have j7:=h.h.j.kT k07 (tb3.same (s5.trans s7))
  obtain⟨m7,hs7,c7,_⟩:=j7.e
  refine(iV rfl (iM j7.o rfl ⟨x,_,_,_,m7,X.s.q,_,rfl,hs7,c7.ft,λg8 H8 hg8 k8 tb8=>?_⟩))
  rw[c7.br,c7.cl]at hg8
  rw[c7.br,qAQ w hg8,←qAQ w hf]
  have k08:Keep [t.T_Plain_free] H H8:=k07.trans k8
  have h08:=k08.k _ _ T0 h0
  have hl8:=k8.k _ _ Tl (s7 _ _ hl5)
  have pr8:Paired (TupD H8) us ((List.range X.s.q.B).map (rowT X.s)):=Paired.mapP (yL pr3 (s5.trans s7)) λ_ _ ⟨p,e,z⟩=>⟨p,e,k8.tp _ _ z⟩
  refine⟨_,rfl,.bl _,_,_,.type "bool",_,rfl,rfl,.inl (.bl _),qDM,_,rfl,iteF ?_⟩
  refine⟨_,rfl,(λu v=>v _ u:∀{q:VK} {G:VK→Prop},q (.bl (rdy (k.ie:Int) f (jG X.s.q.B X.s.q.P (noB X.s.q.B) X.s.q.fi))) H8→(∀q:VK,q (.bl (rdy (k.ie:Int) f (jG X.s.q.B X.s.q.P (noB X.s.q.B) X.s.q.fi))) H8→G q)→G q) ?_ λq hq=>?_⟩
  rotate_left
  ·show tOrV _ _ _ _ q
   refine⟨_,rfl,_,rfl,iL (k:=3) (v:=_) (SqL.of h08) rfl (iI (iI ⟨_,rfl,?_⟩))⟩
   unfold rdy at hq
   rw[e2]at hq
   by_cases z:1+(k.ie:Int)<(f.length:Int)
   ·rw[hC z]
    rw[hC (show(f.length:Int)-(1+(k.ie:Int))>0 by omega)]at hq
    exact iteT hq
   ·rw[hG z]
    rw[hG (show ¬(f.length:Int)-(1+(k.ie:Int))>0 by omega),Bool.false_or]at hq
    refine iteF ⟨_,rfl,iI ⟨_,rfl,?_⟩⟩
    by_cases y:0<z2.length
    ·rw[hC (show(0:Int)<(z2.length:Int) by omega)]
     rw[hC y,Bool.and_true]at hq
     refine iteT ⟨_,rfl,_,rfl,iL (k:=3) (v:=_) (SqL.of h08) rfl (iI ?_)⟩
     have e3:decide ((k.ie:Int)<(f.length:Int))=decide ((f.length:Int)-(1+(k.ie:Int))=0):=decide_eq_decide.mpr (by omega)
     rw[←e3]at hq
     exact hq
    ·rw[hG (show ¬(0:Int)<(z2.length:Int) by omega)]
     rw[hG y,Bool.and_false]at hq
     exact iteF hq
  refine⟨rfl,_,rfl,?_⟩
  rw[hC rfl]
  refine iteF ?_
  refine⟨_,rfl,l,rfl,⟨_,SqL.of hl8⟩,λD3 H9 m9 t9 hD3=>?_⟩
  refine q48 (λd=>decide (d.getD 4 0=(X.s.q.P:Int))&&decide (d.getD 1 0≤X.s.spc k)) (List.take 4) hl8 pr8 (by omega) m9 t9 hD3 (λx' d H' N N' hd sm hx kt kf=>?_) (λz3 Ha sa ha pa=>?_)
  ·obtain⟨b,_,rfl⟩:=kO.mp hd
   refine⟨_,rfl,iT (k:=4) (v:=.int (X.s.q.fi.getD b 0)) (SqT.of hx) rfl ⟨_,rfl,iL (k:=1) (v:=_) (SqL.of (sm _ _ h08)) rfl ⟨rfl,_,rfl,?_⟩⟩⟩
   have kt:(decide (X.s.q.fi.getD b 0=(X.s.q.P:Int))&&decide (X.s.q.lv.getD b 0≤X.s.spc k))=true→_:=kt
   have kf:(decide (X.s.q.fi.getD b 0=(X.s.q.P:Int))&&decide (X.s.q.lv.getD b 0≤X.s.spc k))=false→_:=kf
   rw[yF]
   by_cases z:X.s.q.fi.getD b 0=(X.s.q.P:Int)
   ·rw[hC z]at kt kf ⊢
    refine iteT ⟨_,rfl,iT (k:=1) (v:=.int (X.s.q.lv.getD b 0)) (SqT.of hx) rfl ⟨_,rfl,iI ⟨_,rfl,?_⟩⟩⟩
    by_cases y:X.s.q.lv.getD b 0≤X.s.spc k
    ·rw[hC y]at kt ⊢
     refine iteT ?_
     refine⟨_,rfl,4,rfl,x',_,rfl,SqT.of hx,λe=>absurd (show HT.sIx 5 5 (some 4)=5 from e.2) (by decide),λp np=>kt rfl _ _ (Same.upd np) ⟨p,rfl,qI⟩⟩
    ·rw[hG y]at kf ⊢
     exact iteF (kf rfl)
   ·rw[hG z]at kf ⊢
    exact iteF (iteF (kf rfl))
  rw[rT]at pa
  have lz3:z3.length≤X.s.q.B:=by
   rw[pa.len,hI,hI]
   refine mI (mD _ _) ?_
   rw[mH]
   exact kN _
  have h0a:=sa _ _ h08
  refine⟨_,rfl,D3,rfl,⟨_,SqL.of ha⟩,λD4 Hb nb sb hD4=>?_⟩
  refine q48 (λd=>decide (d.getD 1 0<(X.s.q.P:Int))) id ha pa (by omega) nb sb hD4 (λx' d H' N N' hd sm hx kt kf=>?_) (λz4 Hc sc hc pc=>?_)
  ·obtain⟨d',hd',rfl⟩:=kO.mp hd
   obtain⟨b,_,rfl⟩:=kO.mp hd'
   refine⟨_,rfl,iT (k:=1) (v:=.int (X.s.q.lv.getD b 0)) (SqT.of hx) rfl ⟨_,rfl,iL (k:=1) (v:=_) (SqL.of (sm _ _ h0a)) rfl (iI ⟨_,rfl,?_⟩)⟩⟩
   by_cases z:X.s.q.lv.getD b 0<(X.s.q.P:Int)
   ·rw[hC z]
    exact iteT ⟨_,rfl,kt (hC z) _ _ (Same.refl _) ⟨_,rfl,hx⟩⟩
   ·rw[hG z]
    exact iteF (kf (hG z))
  have eF:∀{m:CM} {l:List Nat},m.br=noB X.s.q.B→FreeIs X.s.q.B (noB X.s.q.B) X.s.cl X.s.q.fi l→(jX X.s.q.B X.s.q.P m.br X.s.q.fi).filter (λb=>decide (X.s.q.lv.getD b 0≤spcN (k.ie:Int) l X.s.q.P X.s.q.fi (jG X.s.q.B X.s.q.P m.br X.s.q.fi)))=(List.range X.s.q.B).filter (λb=>decide (X.s.q.fi.getD b 0=(X.s.q.P:Int))&&decide (X.s.q.lv.getD b 0≤X.s.spc k)):=fun {m l} e hl=>by
   rw[e,q8B w hl]
   unfold jX
   rw[jT,List.filter_filter]
   exact wT λb _=>Bool.and_comm _ _
  have ty:∀{H':Hp} {m:CM} {rs:List V} {L:List Nat},m.cl=X.s.cl→Tys H' m X.s.q rs L→Paired (TupD H') rs ((L.map (rowT X.s)).map (List.take 4)):=fun {H' m rs L} e y=>by
   rw[rA]
   induction y with
   |nil=>exact .nil
   |cons h r ih=>
    obtain⟨p,e1,e2⟩:=h
    have e2:H' p=some (.tup [.int _,.int _,.int (m.cl.getD _ 0),.int _]):=e2
    rw[e]at e2
    exact .cons ⟨p,e1,e2⟩ ih
  have kc:Keep [t.T_Plain_free] H Hc:=k08.trans (Keep.same (sa.trans sc))
  have tbc:=tb8.same (sa.trans sc)
  have jc:=h.h.j.kT kc tbc
  obtain⟨mc,hsc,cc,_⟩:=jc.e
  have fm:∀(L:List Nat) (g:List Int→Bool),((L.map (rowT X.s)).map (List.take 4)).filter g=((L.filter λb=>g ((rowT X.s b).take 4)).map (rowT X.s)).map (List.take 4):=λL g=>by
   rw[rT,rT]
   rfl
  have l4:∀(L:List Nat),∀d∈(L.map (rowT X.s)).map (List.take 4),d.length=4:=λL d hd=>by
   rw[rA]at hd
   obtain⟨b,_,rfl⟩:=kO.mp hd
   rfl
  rw[fm,List.map_id]at pc
  have TD:∀{D:Addr},H8 D=none→D∉[t.T_Plain_free]:=fun {D} e z=>by
   obtain⟨tb,e',_⟩:=tb8
   rw[←kI.mp z,e]at e'
   cases e'
  refine(iV rfl (iM jc.o rfl ⟨x,_,_,_,mc,X.s.q,_,rfl,hsc,cc.ft,λf5 p5 rs5 Hd hf5 np5 k5 tb5 hp5 ty5=>?_⟩))
  rw[cc.br,cc.cl]at hf5
  have ty5:=ty cc.cl ty5
  rw[eF cc.br hf5]at ty5
  refine⟨_,rfl,p5,D3,rs5,z3,_,rfl,hp5,k5.k _ _ (TD m9) (sc _ _ ha),ty5,Paired.mapP (yL pa sc) λ_ _ ⟨p,e,z⟩=>⟨p,e,k5.tp _ _ z⟩,l4 _,λHe se=>?_⟩
  refine⟨_,rfl,iteT ?_⟩
  have ke:=(kc.trans k5).trans (Keep.same se)
  have je:=h.h.j.kT ke (tb5.same se)
  obtain⟨me,hse,ce,_⟩:=je.e
  refine(iV rfl (iM je.o rfl ⟨x,_,_,_,me,X.s.q,_,rfl,hse,ce.ft,λf6 p6 rs6 Hf hf6 np6 k6 tb6 hp6 ty6=>?_⟩))
  rw[ce.br,ce.cl]at hf6
  have ty6:=ty ce.cl ty6
  unfold optN at ty6
  rw[eF ce.br hf6]at ty6
  refine⟨_,rfl,p6,D4,rs6,z4,_,rfl,hp6,k6.k _ _ (TD (sa.free nb)) (se _ _ (k5.k _ _ (TD (sa.free nb)) hc)),ty6,Paired.mapP pc λ_ _ ⟨p,e,z⟩=>⟨p,e,k6.tp _ _ (se _ _ (k5.tp _ _ z))⟩,l4 _,λHg sg=>?_⟩
  exact kk Hg ((ke.trans k6).trans (Keep.same sg)) (tb6.same sg)
structure Blk(m:CM)(B P:Nat)(cl:List Int)(rc:List (Str×Int×Bool)):Prop where
 ok:m.Ok
 bl:m.bl=(B:Int)
 pg:m.pg=(P:Int)
 br:m.br=noB B
 li:∀b,valV m.lim (Sum.inl b)=none
 mo:m.mo=1000000
 lf:m.lf=none
 cl:m.cl=cl
 rc:m.rc=rc
 bo:∀i,m.bo.getD i .non=.non
theorem Blk.new{B P:Nat}(b1:2≤B)(b2:B≤16)(p1:1≤P)(p2:P≤16):Blk (CM.new (B:Int) (P:Int) 1000000 []) B P (List.replicate B 0) []:=by
 refine⟨qIU (by omega) (by omega) (by omega) (by omega) (λb v e=>by cases e),rfl,rfl,?_,λb=>rfl,rfl,rfl,?_,rfl,λi=>rep8⟩
 ·show List.replicate (B:Int).toNat false=_
  exact g0 (λx=>List.replicate x false) (kY _)
 ·show List.replicate (B:Int).toNat (0:Int)=_
  exact g0 (λx=>List.replicate x 0) (kY _)
theorem Blk.wip{m:CM}{B P b:Nat}{cl:List Int}{rc:List (Str×Int×Bool)}(h:Blk m B P cl rc)(hr:rc.length<1000000):Blk (wipC m b) B P (cl.set b (cl.getD b 0+1)) (rc++[(Str.ofString "wipe",(b:Int),true)]):=by
 refine⟨?_,h.bl,h.pg,h.br,h.li,h.mo,?_,?_,?_,λi=>?_⟩
 ·have okd:(m.deed "wipe" (b:Int) (b:Int) false).Ok:=h.ok.deed (by rw[h.rc];exact hr)
  refine⟨okd.bl1,okd.bl2,okd.pg1,okd.pg2,?_,?_,okd.ndc,okd.nbr,okd.lim,okd.nrc⟩
  ·show((clr m.bo _ _).length:Int)=_
   rw[q3Q]
   exact h.ok.nbo
  ·show((m.cl.set _ _).length:Int)=_
   rw[gF]
   exact h.ok.ncl
 ·show m.lf.map _=_
  rw[h.lf]
  rfl
 ·show m.cl.set b (m.cl.getD b 0+1)=_
  rw[h.cl]
 ·show m.rc++_=_
  rw[h.rc]
  rfl
 ·exact qBM (P:=λv=>v=.non) rfl h.bo _ _
theorem qJL{H:Hp}{x:Sto}{k:Tm}{sh sr:Int}{r:Addr}{rl:List Addr}{pp:Addr}{B P:Nat}{g:Rl}{m:CM}{cl:List Int}{rc:List (Str×Int×Bool)}(st:StAt t H x (.int sh) (.int sr) (.int (k.ie:Int)) (.int k.sp) m (bk0 B P))(bk:Blk m B P cl rc)(er:x.ru=.ref r)(ru:RuX t H r rl g)(of:Off t x (r::rl))(ep:x.pa=.ref pp)(hp:H pp=some (.lst []))(np:pp∉t.T_Plain_free::sf x)(nr:pp∉r::rl)(w:WX k (newH B P cl rc)):XX t H x k sh sr r rl pp ⟨newH B P cl rc,g,[]⟩:=
 ⟨⟨⟨_,st,⟨⟨bk.ok,w.qs.ok,bk.bl,bk.pg⟩,bk.br,bk.li,bk.mo,bk.cl,bk.lf,bk.rc⟩,⟨λi _=>bk.bo i,λi v e=>by cases e⟩⟩,w⟩,er,ru,of,ep,⟨[],hp,.nil⟩,np,nr⟩
theorem qJM(T:Txt K mg t)(S:Fns K t)(B:BmIn base mg):S.law.Ok0 P w mg base 19 (q4K K [t.T_Plain_free]):=by
 refine S.law.F.ok0 vB λcdv A _ s H vs Q E hr h=>?_
 ·obtain⟨a,ns,rfl,hS,hlen,hT0,k⟩:=h
  have hT:H t.T_Plain_free=some (.tbl #[]):=hT0 _ (kI.mpr rfl)
  have hu:=q1G hr
  have s9:(99999:Nat)<sizeLine:=by decide
  refine⟨_,(qB (qU (i:=1) vB.nd rfl (Or.inl rfl) (qV (q8T T S).mono hr rfl T.mg_law_shape T.kp_law_shape S.law_shape.b .nil qK (qA (pv 0) qE))) (qB (qU (i:=2) vB.nd rfl (Or.inl rfl) (qS uH qG (qS uI (qV (jR T S).mono hr rfl T.mg_law_cell_at T.kp_law_cell_at S.law_cell_at.b .nil qK (qA (pv 0) (qA qG qE))) qG))) (qB (qU (i:=3) vB.nd rfl (Or.inl rfl) (qE3 T.mk0_Fewest rfl T.mg_Fewest)) (zM (jB (qO uN (qS uI (qV (jR T S).mono hr rfl T.mg_law_cell_at T.kp_law_cell_at S.law_cell_at.b .nil qK (qA (pv 0) (qA qG qE))) qG) qG (qR _)) (qD (qU (i:=3) vB.nd rfl (Or.inl rfl) (qE3 T.mk0_Eldest rfl T.mg_Eldest))) qQ) (qB (qU (i:=4) vB.nd rfl (Or.inl rfl) (q5J T.mk_Chip (q8O T S).mono hr rfl T.mg_Chip S.b_Chip_init_2 S.v_Chip_init_2 qK (qA (qW qY (pv 1) qG (λ_ _=>rfl)) (qA (qW qY (pv 1) qG (λ_ _=>rfl)) qE)))) (qB (uG gT rfl (q06 rfl T.b_range (qA (qS uI (qS uF (qV (jR T S).mono hr rfl T.mg_law_cell_at T.kp_law_cell_at S.law_cell_at.b .nil qK (qA (pv 0) (qA qG qE))) qG) qG) qE)) (qX (i:=5) vB.nd rfl (Or.inl rfl)) (qD (qZ (jW q1I (pv 4) T.cl_Chip T.m_Chip_wipe (q43 T S).mono hr S.Chip_wipe.b .nil (qA (qS uI (qS uF (qS uF (qV (jR T S).mono hr rfl T.mg_law_cell_at T.kp_law_cell_at S.law_cell_at.b .nil qK (qA (pv 0) (qA qG qE))) qG) (qS uH (pv 5) qG)) (qW qY (pv 1) qG (λ_ _=>rfl))) qE))))) (qB (qU (i:=6) vB.nd rfl (Or.inl rfl) (q5J T.mk_Store (q78 T S).mono hr rfl T.mg_Store S.Store_init.b .nil qK (qA (pv 4) (qA (q5J T.mk_Terms (q75 T S).mono hr rfl T.mg_Terms S.b_Terms_init_1 S.v_Terms_init_1 qK (qA (qW qY (pv 1) qG (λ_ _=>rfl)) (qA (qW qY (pv 1) qG (λ_ _=>rfl)) (qA (pv 2) (qA (qW qY (pv 1) qG (λ_ _=>rfl)) (qA (qW qY (pv 1) qG (λ_ _=>rfl)) qE)))))) (qA (pv 3) qE))))) (qB (qU (i:=7) vB.nd rfl (Or.inl rfl) q3P) (qB (uG gT rfl (q4C rfl T.b_range (qA qG (qA (j8 (qC5 rfl) (by rfl) T.b_min (by kernel_rfl) (qA (j8 jD (by rfl) T.b_len gO (qA (pv 0) qE)) (qA qG qE))) qE))) (qX (i:=5) vB.nd rfl (Or.inl rfl)) (qB (qU (i:=8) vB.nd rfl (Or.inl rfl) (qW qY (pv 0) (pv 5) (λ_ _=>rfl))) (zM (jB (qO uN (qS uI (qS uF (pv 8) qG) qG) qG (qR _)) (qD (qZ (jE (pv 4) T.cl_Chip T.m_Chip_cut_after (q42 T S).mono hr S.Chip_cut_after.b .nil qK (qA (qS uI (qS uF (pv 8) qG) qG) qE)))) qQ) (qB (qU (i:=9) vB.nd rfl (Or.inl rfl) (qV (q8U T S).mono hr rfl T.mg_law_sheet T.kp_law_sheet S.law_sheet.b .nil qK (qA (qS uF (pv 8) qG) (qA (pv 7) (qA (pv 2) (qA (qW qY (pv 1) qG (λ_ _=>rfl)) qE)))))) (qB (qU (i:=10) vB.nd rfl (Or.inl rfl) (qV (qAW T S B).mono hr rfl T.mg_law_ask T.kp_law_ask S.law_ask.b .nil qK (qA (pv 6) (qA (pv 7) (qA (qS uI (pv 8) qG) (qA (pv 9) (qA (qS uI (qS uH (qS v6 (pv 8) qG) (pv 5)) (qS qCY qG qG)) qE))))))) (qB (qZ (j0 (pv 4) T.cl_Chip T.m_Chip_power_on (q4U T S).mono hr S.Chip_power_on.b .nil qK)) (qD (jB (PW.pt (q30 (qO uN (pv 10) vX (qR _)) (q0O (yH (jY (qV (q49 T S B).mono hr rfl T.mg_law_right T.kp_law_right S.law_right.b .nil qK (qA (pv 6) (qA (pv 4) (qA (pv 1) (qA (pv 7) qE)))))))))) (qD (qL q2T)) qQ)))))))) (qD (qL (qV (q49 T S B).mono hr rfl T.mg_law_right T.kp_law_right S.law_right.b .nil qK (qA (pv 6) (qA (pv 4) (qA (pv 1) (qA (pv 7) qE)))))))))))))))),?_⟩
  try dsimp-beta-proj-iota-zeta-eta only[wishK,cxK]
  refine⟨_,rfl,a,ns,rfl,hS,λc P1 i sh hc1 hc4 hP1 hP2 hi2 hs1 hs2 p0 H1 n0 s1 h1=>?_⟩
  have hcp:c*P1≤4*4:=Nat.mul_le_mul hc4 hP2
  have sh14:sh≤14:=by omega
  refine⟨_,rfl,a,ns,4,rfl,s1.seq hS,by decide,_,_,rfl,rfl,(by show(0:Int)<64;decide),iI ?_⟩
  have c4:=vZ (jV ns 4) 64 (by decide)
  try dsimp only
  obtain⟨w,ew⟩:∃n:Nat,1+jV ns 4%64=(n:Int):=⟨(1+jV ns 4%64).toNat,by omega⟩
  rw[ew]
  have w1:1≤w:=by omega
  have w64:w≤64:=by omega
  clear c4 ew
  refine λr1 d1 nr1 nd1 ne1=>?_
  have sR:Same H1 (upd (upd H1 d1 (.own r1)) r1 (.ins t.C_Fewest d1 [])):=q5M nr1 nd1
  refine⟨λσ' H'=>∃ru f,σ'=[some (.ref a),some (.ref p0),some (.int (w:Int)),some (.ref ru),none,none,none,none,none,none,none]∧RuX t H' ru [] (.rk f)∧Same H1 H'∧H1 ru=none∧∃C d,H' ru=some (.ins C d []),?_,?_⟩
  ·refine⟨_,rfl,a,ns,5,rfl,(s1.trans sR).seq hS,by decide,_,_,rfl,rfl,(by show(0:Int)<2;decide),rfl,_,rfl,ite2 (λ_=>?_) (λ_=>?_)⟩
   ·refine λr dx nr ndx ne=>⟨r,_,rfl,.inr ⟨dx,qI,rfl⟩,sR.trans (q5M nr ndx),sR.free nr,_,_,qI⟩
   ·exact⟨r1,_,rfl,.inl ⟨d1,qI,rfl⟩,sR,nr1,_,_,qI⟩
  rintro σ' H2 ⟨ru,f,rfl,hR2,s2,nru,Cr,dr,er2⟩
  have s02:=s1.trans s2
  have h02:=s2 _ _ h1
  refine⟨_,rfl,iL (k:=_) (v:=_) (SqL.of h02) rfl ⟨_,rfl,iL (k:=_) (v:=_) (SqL.of h02) rfl ?_⟩⟩
  dsimp only[tNil]
  refine qKP (by omega) (by omega) (by omega) (by omega) (by decide) (by decide) ?_
  refine λch ca H3 hc sC fC=>?_
  have s03:=s02.trans sC
  have h03:=sC _ _ h02
  have frC:∀b∈foot ch ca,b=t.T_Plain_free∨H b=none:=λb hb=>.inr (s02.free (fC b (hU _ hb)))
  have n0C:p0∉foot ch ca:=λz=>by
   have:=fC p0 (hU _ z)
   rw[h02]at this
   cases this
  have v5:=vZ (jV ns 5 / 2) 4 (by decide)
  refine⟨_,rfl,a,ns,5,rfl,s03.seq hS,by decide,_,_,rfl,rfl,⟨by decide,by decide⟩,iI ⟨(by show(0:Int)<4;decide),_,rfl,by omega,by omega,?_⟩⟩
  obtain⟨wn,ewn⟩:∃n:Nat,jV ns 5 / 2%4=(n:Int):=⟨(jV ns 5 / 2%4).toNat,by omega⟩
  rw[ewn,kY]
  have wn3:wn≤3:=by omega
  clear v5 ewn
  refine q0U (λu σ' H'=>∃y5 m cl rc,σ'=[some (.ref a),some (.ref p0),some (.int (w:Int)),some (.ref ru),some (.ref ch),y5,none,none,none,none,none]∧ChipAt t.C_Chip H' ch ca m∧Blk m (c+1+i) P1 cl rc∧Cw (c+1+i) cl rc∧rc.length=u∧Keep (foot ch ca) H3 H') ⟨_,_,_,_,rfl,hc,Blk.new (by omega) (by omega) hP1 (by omega),Cw.zero,rfl,Keep.refl⟩ (λu σ' H' D' nxt hu' hp=>?_) (λσ' H4 hp=>?_)
  ·obtain⟨y5,m,cl,rc,rfl,hcu,bk,cw,lr,ku⟩:=hp
   have hSu:=((RT.of s03).keep ku frC).sq hT hS
   have h0u:=ku.k _ _ n0C h03
   have clb:=(cw.c0 ((jV ns 5 / 8 / (0+(u:Int)+1)%((c+1+i:Nat):Int)).toNat)).2
   have mv:=vZ (jV ns 5 / 8 / (0+(u:Int)+1)) ((c+1+i:Nat):Int) (by omega)
   refine(iV rfl (iM hcu.ins rfl ⟨_,rfl,a,ns,5,rfl,hSu,by decide,_,_,rfl,rfl,⟨by decide,by decide⟩,_,rfl,iI (iI ⟨⟨by omega,by omega⟩,_,rfl,iL (k:=_) (v:=_) (SqL.of h0u) rfl (iI ⟨(by show(0:Int)<((c+1+i:Nat):Int);omega),?_⟩)⟩)⟩))
   try dsimp only
   obtain⟨b,eb⟩:∃b:Nat,jV ns 5 / 8 / (0+(u:Int)+1)%((c+1+i:Nat):Int)=(b:Int):=⟨_,(Int.toNat_of_nonneg mv.1).symm⟩
   rw[eb]at clb mv ⊢
   rw[kY]at clb
   refine⟨ch,ca,m,b,rfl,hcu,bk.ok,by rw[bk.rc];omega,⟨λb=>by rw[bk.br];exact rep8,bk.li⟩,by rw[bk.bl];omega,by rw[bk.mo,bk.cl];omega,λz=>absurd (bk.lf.symm.trans z) (by simp),λ_ Hn hn kn=>?_⟩
   exact nxt _ _ ⟨_,_,_,_,rfl,hn,bk.wip (by omega),cw.wip (by omega),by rw[mC,lr];rfl,ku.trans kn⟩
  ·obtain⟨y5,m,cl,rc,rfl,hc4',bk,cw,lr,k4⟩:=hp
   have h04:=k4.k _ _ n0C h03
   have er3:=sC _ _ er2
   have nrC:ru∉foot ch ca:=λz=>by
    have:=fC ru (hU _ z)
    rw[er2]at this
    cases this
   have hR4:=(hR2.keep (Keep.same sC) (F:=[]) (by simp)).keep k4 (λy hy z=>nrC (by rw[←kI.mp hy];exact z))
   have er4:=k4.k _ _ nrC er3
   refine⟨_,rfl,_,rfl,iL (k:=_) (v:=_) (SqL.of h04) rfl ⟨_,rfl,iL (k:=_) (v:=_) (SqL.of h04) rfl ⟨_,rfl,_,rfl,iL (k:=_) (v:=_) (SqL.of h04) rfl ⟨_,rfl,iL (k:=_) (v:=_) (SqL.of h04) rfl ?_⟩⟩⟩⟩
   dsimp only[tNil,pA,rS]
   refine qKR (by omega) (by omega) (by omega) (by omega) (by omega) (by omega) (by omega) (by
    rw[show((c+1+i:Nat):Int)-1-(i:Int)=(c:Int) by omega,←gZ]
    omega) (by omega) (by omega) (by decide) (by decide) ?_
   intro tm td H7 s7 htm
   refine⟨_,rfl,λsA sd nA nsd nn=>?_⟩
   have sM:Same H7 (upd (upd H7 sd (.own sA)) sA (.ins t.C_Store sd [])):=q5M nA nsd
   have hc7:=hc4'.same s7
   have rt7:RT t H H7:=((RT.of s03).keep k4 frC).same s7
   have nTC:t.T_Plain_free∉foot ch ca:=λz=>by
    have:=fC _ (hU _ z)
    rw[s02 _ _ hT]at this
    cases this
   have hT7:=s7 _ _ (k4.k _ _ nTC (s03 _ _ hT))
   have tb7:TbF t H7:=⟨#[],hT7,.inl rfl⟩
   refine⟨sA,sd,tm,td,ch,ca,_,_,_,_,_,m,c+1+i,P1,rfl,qI,sM _ _ htm,hc7.same sM,bk.bl,bk.pg,by omega,tb7.same sM,λkb pp H9 st9 hp9 npp fk off up=>⟨rfl,?_⟩⟩
   have s79:Same H7 H9:=λb o e=>up b o (qF e nA) (sM b o e)
   have er7:=s7 _ _ er4
   have h07:=s7 _ _ h04
   have npp7:H7 pp=none:=Same.free sM npp
   obtain⟨kt,ekt⟩:∃kt:Tm,kt=⟨i,1000000,false⟩:=⟨_,rfl⟩
   have ev:kt.ev=false:=by rw[ekt]
   obtain⟨ix0,ge0⟩:=qGZ (k:=kt) (B:=c+1+i) (P:=P1) (cl:=cl) (rc:=rc) (by omega) hP1 (by omega) (by rw[ekt];show 1+i< _;omega) (by rw[ekt];show(1:Int)≤1000000;decide) ev cw.lc cw.c0
   obtain⟨X,eX⟩:∃X:Sto,X=⟨sA,sd,tm,td,ch,ca,kb,.ref ru,.ref pp⟩:=⟨_,rfl⟩
   have of:Off t X [ru]:=by
    rw[eX]
    intro y hy hu
    rw[kI.mp hu]at hy
    have hy:ru=sA∨ru=tm∨ru=ca.li∨ru=t.T_Plain_free∨ru∈foot ch ca∨ru∈bf kb:=by simpa[sf]using hy
    rcases hy with hy|hy|hy|hy|hy|hy
    ·rw[hy,nA]at er7;cases er7
    ·rw[hy,htm]at er7
     injection er7 with e
     injection e with _ _ e
     cases e
    ·have:=fC ru (by rw[hy];exact kW)
     rw[er2]at this;cases this
    ·rw[hy,s1 _ _ hT]at nru;cases nru
    ·exact nrC hy
    ·have:=fk _ hy
     rw[sM _ _ er7]at this;cases this
   rw[←eX]at st9 off
   have hx9:XX t H9 X kt (w:Int) (sh:Int) ru [] pp ⟨newH (c+1+i) P1 cl rc,.rk f,[]⟩:=qJL (by rw[ekt];exact st9) bk (by rw[eX]) ((hR4.keep (Keep.same s7) (F:=[]) (by simp)).keep (Keep.same s79) (F:=[]) (by simp)) of (by rw[eX]) hp9 off (λz=>by rw[kI.mp z,er7]at npp7;cases npp7) ix0.w
   have rtf:∀{b:Addr},H7 b=none→b=t.T_Plain_free∨H b=none:=fun {b} e=>by
    by_cases z:b=t.T_Plain_free
    ·exact .inl z
    ·cases e':H b with
     |none=>exact .inr rfl
     |some o=>rw[rt7 _ _ z e']at e;cases e
   have frX:∀b∈fx t X ru pp,b=t.T_Plain_free∨H b=none:=by
    intro b hb
    rw[eX]at hb
    have hb:b=pp∨b=ru∨b=t.T_Plain_free∨b∈foot ch ca∨b∈bf kb:=by simpa[sf]using hb
    rcases hb with hb|hb|hb|hb|hb
    ·rw[hb];exact rtf npp7
    ·exact .inr (by rw[hb];exact s1.free nru)
    ·exact .inl hb
    ·exact frC b hb
    ·exact rtf (Same.free sM (fk b hb))
   have n0X:p0∉fx t X ru pp:=λhb=>by
    rw[eX]at hb
    have hb:p0=pp∨p0=ru∨p0=t.T_Plain_free∨p0∈foot ch ca∨p0∈bf kb:=by simpa[sf]using hb
    rcases hb with hb|hb|hb|hb|hb
    ·rw[←hb,h07]at npp7;cases npp7
    ·rw[←hb,h1]at nru;cases nru
    ·rw[hb,hT]at n0;cases n0
    ·exact n0C hb
    ·have:=fk _ hb
     rw[sM _ _ h07]at this;cases this
   refine λkd nkd=>?_
   have sK:Same H9 (upd H9 kd (.dK [])):=Same.upd nkd
   have hkd:(upd H9 kd (.dK [])) kd=some (.dK []):=qI
   generalize upd H9 kd (.dK [])=HA at sK hkd ⊢
   have kin:kd∉X.a.li::fx t X ru pp:=λz=>by
    rcases kL.mp z with z|z
    ·obtain⟨m,hc',_⟩:=hx9.chip
     obtain⟨o,e,_⟩:=hc'.has (show X.a.li∈X.a.li::foot X.c X.a by simp)
     rw[←z,nkd]at e;cases e
    ·obtain⟨o,e⟩:=hx9.inF kd z
     rw[nkd]at e;cases e
   have kx0:KX t HA X kt (w:Int) sh ru [] pp ⟨newH (c+1+i) P1 cl rc,.rk f,[]⟩ kd [] 1:=by
    refine⟨hx9.same sK,⟨ix0,Wt.of ge0,trivial,List.nodup_nil,λy hy=>absurd hy (by simp),λn _=>?_,λy hy=>absurd hy (by simp),m8 _,?_,by omega,by omega⟩,hkd,kin,by simp,(by show rc.length≤300*1;omega),m8 _⟩
    ·show(∃p,(n,p)∈([]:Mp))↔_
     simp
    ·show sh+2≤(c+1+i-(1+kt.ie))*P1
     rw[ekt]
     show sh+2≤(c+1+i-(1+i))*P1
     rw[show c+1+i-(1+i)=c by omega]
     exact hs2
   have pw0:Pw (newH (c+1+i) P1 cl rc):=qH0 cw
   have h0A:=sK _ _ (s79 _ _ h07)
   have frF:∀b∈kd::fx t X ru pp,b=t.T_Plain_free∨H b=none:=λb hb=>by
    rcases kL.mp hb with e|hb
    ·rw[e];exact rtf (Same.free s79 nkd)
    ·exact frX b hb
   have n0F:p0∉kd::fx t X ru pp:=λz=>by
    rcases kL.mp z with z|z
    ·rw[←z,s79 _ _ h07]at nkd;cases nkd
    ·exact n0X z
   have rtA:RT t H HA:=(rt7.same s79).same sK
   have eie:kt.ie=i:=by rw[ekt]
   rw[show sA=X.s by rw[eX],show ch=X.c by rw[eX]]
   have lf0:(newH (c+1+i) P1 cl rc).lf=none:=rfl
   have eB0:(newH (c+1+i) P1 cl rc).q.B=c+1+i:=rfl
   have eP0:(newH (c+1+i) P1 cl rc).q.P=P1:=rfl
   generalize newH (c+1+i) P1 cl rc=s0 at kx0 pw0 lf0 eB0 eP0
   have hSA:=rtA.sq hT hS
   refine⟨_,rfl,a,_,rfl,.inl hSA,_,_,rfl,?_⟩
   obtain⟨hi,eh,h36,hln⟩:∃h:Nat,(if(36:Int)<((ns.map V.int).length:Nat)then(36:Int)else((ns.map V.int).length:Nat))=(h:Int)∧h≤36∧h≤ns.length:=by
    rw[hI]
    by_cases z:(36:Int)<(ns.length:Nat)
    ·exact⟨36,kF z,by omega,by omega⟩
    ·exact⟨ns.length,kB z,by omega,by omega⟩
   rw[eh]
   refine⟨_,_,rfl,⟨by decide,by decide,by omega,by omega⟩,?_⟩
   refine q0U (λu σ' H'=>∃y5 y8 y9 y10 Y KD n,σ'=[some (.ref a),some (.ref p0),some (.int (w:Int)),some (.ref ru),some (.ref X.c),y5,some (.ref X.s),some (.ref kd),y8,y9,y10]∧n≤u+1∧KX t H' X kt (w:Int) sh ru [] pp Y kd KD n∧Pw Y.s∧Y.s.lf=none∧Y.s.q.B=c+1+i∧Y.s.q.P=P1∧H' p0=some (.lst [.int ((c+1+i:Nat):Int),.int (P1:Int),.int (sh:Int),.int (i:Int)])∧RT t H H') ⟨_,_,_,_,_,[],1,rfl,by omega,kx0,pw0,lf0,eB0,eP0,h0A,rtA⟩ (λu σ' H2 D' nxt hu' hp=>?_) (λσ' H2 hp=>?_)
   ·obtain⟨y5,y8,y9,y10,Y,KD,n,rfl,nu,h,pw,lf,eB,eP,h0,rt⟩:=hp
    have hi6:6+u<ns.length:=by omega
    have u45:u<45:=by omega
    have at1:atI (ns.map V.int) (6+(u:Int))=some (.int ns[6+u]):=by
     refine(show atI (ns.map V.int) ((6+u:Nat):Int)=_ from yT ?_)
     rw[mB,hV hi6]
     rfl
    generalize ns[6+u]=z at at1
    have hS2:=rt.sq hT hS
    refine⟨_,rfl,_,rfl,a,_,_,.int z,rfl,rfl,hS2,at1,?_⟩
    obtain⟨m,hc,_,elf,_,_,_,_,_,nx⟩:=h.h.chip
    refine⟨λσ' H'=>∃l,σ'=[some (.ref a),some (.ref p0),some (.int (w:Int)),some (.ref ru),some (.ref X.c),some (.int (6+(u:Int))),some (.ref X.s),some (.ref kd),some (.int z),y9,y10]∧KX t H' X kt (w:Int) sh ru [] pp ⟨{ Y.s with lf:=l },Y.g,Y.ps⟩ kd KD n∧H' p0=some (.lst [.int ((c+1+i:Nat):Int),.int (P1:Int),.int (sh:Int),.int (i:Int)])∧RT t H H',?_,?_⟩
    ·refine⟨_,rfl,iI ⟨⟨by decide,by decide⟩,iI ⟨(by show(0:Int)<3;decide),rfl,_,rfl,ite2 (λ_=>?_) (λ_=>?_)⟩⟩⟩
     ·have mv:=vZ (z / 24) 6 (by decide)
      refine(iV rfl (iM hc.ins rfl ⟨_,rfl,iI ⟨⟨by decide,by decide⟩,iI ⟨(by show(0:Int)<6;decide),X.c,X.a,m,_,rfl,hc,mv.1,by omega,λH3 h3 k3=>?_⟩⟩⟩))
      have hl:∀j,some (z / 24%6)=some j→0≤j:=λj e=>by injection e with e;rw[←e];exact mv.1
      have sub:∀y∈foot X.c X.a,y∈kd::fx t X ru pp:=λy hy=>by simp[sf,hy]
      exact⟨_,rfl,h.lf hl (nx _ hl H3 h3 k3) k3,k3.k _ _ (λz=>n0F (sub _ z)) h0,rt.keep (k3.mono sub) frF⟩
     ·exact⟨Y.s.lf,rfl,h,h0,rt⟩
    rintro σ' H3 ⟨l,rfl,h3,h03,rt3⟩
    have pw3:Pw { Y.s with lf:=l }:=⟨⟨pw.1.1,pw.1.2,pw.1.3,pw.1.4,pw.1.5,pw.1.6⟩,⟨pw.2.1,pw.2.2,pw.2.3⟩⟩
    have kb:∀m∈KD.map (·.1),0≤m∧m<(w:Int):=λm hm=>by
     obtain⟨y,hy,rfl⟩:=kO.mp hm
     exact h3.d.kb y hy
    have ls:=h3.d.ls
    refine⟨_,rfl,iI ⟨⟨by decide,by decide⟩,_,rfl,_,rfl,_,rfl,iL (k:=_) (v:=_) (SqL.of h03) rfl ⟨kd,dI KD,KD.map (·.1),_,w,sh,rfl,w1,h3.hk,by unfold dI;rw[rA,rA];rfl,kb,by rw[hI];omega,hs1,λy H4 s4 y0 y1 y2=>?_⟩⟩⟩
    rw[hI]at y2
    have h4:=h3.same s4
    have rt4:=rt3.same s4
    have mv:=vZ (z*48271+(6+(u:Int))) (10 ^ (30:Int).toNat) (by decide)
    refine⟨_,rfl,_,rfl,_,rfl,iI ⟨(by show(0:Int)<8;decide),_,rfl,_,rfl,iI ⟨.inr ⟨by decide,by decide⟩,_,rfl,iI (iI ⟨⟨by decide,by decide,by decide⟩,iI ⟨(by show(0:Int)<10 ^ (30:Int).toNat;decide),X,kt,_,sh,ru,[],pp,_,kd,KD,n,_,y,_,rfl,h4,ev,pw3,by omega,y0,y1,y2,mv.1,by have:_ <(10:Int) ^ 30:=mv.2;omega,λwd Z KD' H5 h5 k5 pw5 eB5 eP5 al=>?_⟩⟩)⟩⟩⟩
    have rt5:=rt4.keep k5 frF
    have h05:=k5.k _ _ n0F (s4 _ _ h03)
    obtain⟨m5,hc5,_,elf5,erc5,_,_,_,_,nx5⟩:=h5.h.chip
    refine(iV rfl (iM hc5.ins rfl ⟨X.c,X.a,m5,rfl,hc5,λH6 h6 k6=>?_⟩))
    have hl:∀j,(none:Option Int)=some j→0≤j:=λj e=>by cases e
    have h6':=h5.lf hl (nx5 _ hl H6 h6 k6) k6
    have sub:∀y∈foot X.c X.a,y∈kd::fx t X ru pp:=λy hy=>by simp[sf,hy]
    have rt6:=rt5.keep (k6.mono sub) frF
    have h06:=k6.k _ _ (λz=>n0F (sub _ z)) h05
    have pw6:Pw { Z.s with lf:=none }:=⟨⟨pw5.1.1,pw5.1.2,pw5.1.3,pw5.1.4,pw5.1.5,pw5.1.6⟩,⟨pw5.2.1,pw5.2.2,pw5.2.3⟩⟩
    have eB6:Z.s.q.B=c+1+i:=eB5.trans eB
    have eP6:Z.s.q.P=P1:=eP5.trans eP
    refine⟨_,rfl,rfl,_,rfl,?_⟩
    refine ite2 (λ_=>?_) (λ_=>?_)
    ·refine⟨_,rfl,_,rfl,_,rfl,_,rfl,X,kt,_,_,_,_,_,_,kd,KD',p0,_,n+1,rfl,h6',pw6,λz=>(by cases z),by omega,(by show H6 p0=some (.lst [.int (Z.s.q.B:Int),.int (Z.s.q.P:Int),_,.int (kt.ie:Int)]);rw[eB6,eP6,eie];exact h06),λH' k' tb'=>⟨_,rfl,iteF ?_⟩⟩
     have subT:∀y∈[t.T_Plain_free],y∈kd::fx t X ru pp:=λy hy=>by rw[kI.mp hy];simp
     have nkT:kd∉[t.T_Plain_free]:=λz=>h6'.nkF (by rw[kI.mp z];simp)
     exact nxt _ _ ⟨_,_,_,_,_,KD',n+1,rfl,by omega,{ h6' with h:=h6'.h.kT k' tb',hk:=k'.k _ _ nkT h6'.hk },pw6,rfl,eB6,eP6,k'.k _ _ (λz=>n0F (subT _ z)) h06,rt6.keep (k'.mono subT) frF⟩
    ·exact iteF (nxt _ _ ⟨_,_,_,_,_,KD',n+1,rfl,by omega,h6',pw6,rfl,eB6,eP6,h06,rt6⟩)
   ·obtain⟨y5,y8,y9,y10,Y,KD,n,rfl,nu,h,pw,lf,eB,eP,h0,rt⟩:=hp
    refine⟨_,rfl,_,rfl,_,rfl,_,rfl,X,kt,_,_,_,_,_,Y,kd,KD,p0,_,n,rfl,h,pw,by rw[lf];simp,by omega,by rw[eB,eP,eie];exact h0,λH' k' tb'=>?_⟩
    exact k _
theorem qJN{P:Program}{w:World}{K:W.Frag}{mg:Str→Option Value}{t:Adr}(T:Txt K mg t)(S:Fns K t)(B:BmIn base mg):S.law.Ok0 P w mg base 19 (q4K K [t.T_Plain_free]):=Classical.byContradiction λn=>by
 have hs:hkB hkE:=by
  unfold hkE
  exact Classical.epsilon_spec ⟨⟨P,w,K,mg,t⟩,S,base,T,B,n⟩
 obtain⟨S',b',T',B1,n'⟩:=hs
 exact n' (qJM T' S' B1)
end
theorem qJO{l:W.OpenLaw}{w:World}{K:W.Frag}{h:Heap}{mg:Str→Option Value}{fa z0 z1 z2 z3 z4 z5 z6 z7 z8 z9 z10 z11 z12 z13 z14 z15 z16 z17 z18 z19 z20 z21 z22 z23 z24 z25 z26 z27 z28 z29 z30 z31 z32 z33 z34 z35 z36 z37 z38 z39 z40 z41 z42 z43 z44 z45 z46 z47 z48 z49 z50 z51 z52 z53 z54 z55 z56 z57 z58 z59 z60 z61 z62 z63 z64 z65 z66 z67 z68 z69 z70 z71 z72 z73 z74 z75 z76 z77 z78 z79 z80 z81 z82 z83 z84 z85 z86 z87 z88 z89 z90:Addr}(X:K.In h)(G:h.Ns mainGlobals mg)(hfa:mg "law"=some (.ref fa))
 {z91 z92 z103 z104 z115 z116:Option Addr} {z93 z105 z117:Array (Option Value)} {z94 z95 z96 z97 z99 z106 z107 z108 z109 z110 z111 z118 z119 z120 z121 z122 z123:Value} {z112:Option Addr} {z113:Nat} {z114:Array (Option Value)} {e0_Chip_init:Tok} {z124:Option Addr} {z125:Nat} {z126:Array (Option Value)} {e0_Terms_init:Tok} {e1_Terms_init:Tok} {tk_MOST_TOLD:Tok} {tk_ROLL:Tok} {tk_NAMES:Tok}
 (z127:W.nsIn K mainGlobals "Book"=some (some (.ref z80)))
 (z128:Cls K z80)
 (z129:qP K z80 "blocks")
 (z130:qP K z80 "pages")
 (z131:qP K z80 "stamp")
 (z132:qP K z80 "where")
 (z133:qP K z80 "live")
 (z134:qP K z80 "filled")
 (z135:qP K z80 "born")
 (z136:Meth K z80 "mark" z9)
 (z137:Meth K z80 "note" z10)
 (z138:Meth K z80 "forget" z11)
 (z139:Meth K z80 "emptied" z12)
 (z140:Meth K z80 "live_pages" z13)
 (z141:Meth K z80 "held" z14)
 (z142:Mk K z80 z8)
 (z143:W.nsIn K mainGlobals "Plain"=some (some (.ref z81)))
 (z144:W.nsIn K mainGlobals "Store"=some (some (.ref z82)))
 (z145:Cls K z82)
 (z146:qP K z82 "chip")
 (z147:qP K z82 "terms")
 (z148:qP K z82 "book")
 (z149:qP K z82 "rule")
 (z150:qP K z82 "papers")
 (z151:Meth K z82 "reserve" z30)
 (z152:Meth K z82 "tally" z31)
 (z153:Meth K z82 "space" z32)
 (z154:Meth K z82 "full_ones" z33)
 (z155:Meth K z82 "with_dead_page" z34)
 (z156:Meth K z82 "options" z35)
 (z157:Meth K z82 "choice" z36)
 (z158:Meth K z82 "choice_by_rule" z37)
 (z159:Meth K z82 "moved" z38)
 (z160:Meth K z82 "value_to_move" z39)
 (z161:Meth K z82 "wiped" z40)
 (z162:Meth K z82 "clear_out" z41)
 (z163:Meth K z82 "make_room" z42)
 (z164:Meth K z82 "make_ready" z43)
 (z165:Meth K z82 "make_rooms" z44)
 (z166:Meth K z82 "good" z16)
 (z167:Meth K z82 "free" z17)
 (z168:Meth K z82 "part" z18)
 (z169:Meth K z82 "spot" z19)
 (z170:Meth K z82 "ready" z20)
 (z171:Meth K z82 "set_down" z21)
 (z172:Meth K z82 "lay" z22)
 (z173:Meth K z82 "write" z23)
 (z174:Meth K z82 "give_up" z24)
 (z175:Meth K z82 "held" z25)
 (z176:Meth K z82 "check_sheet" z26)
 (z177:Meth K z82 "check_share" z27)
 (z178:Mk K z82 z29)
 (z179:W.nsIn K mainGlobals "Chip"=some (some (.ref z83)))
 (z180:Cls K z83)
 (z181:qP K z83 "blocks")
 (z182:qP K z83 "pages")
 (z183:qP K z83 "most")
 (z184:qP K z83 "limits")
 (z185:qP K z83 "borne")
 (z186:qP K z83 "clearings")
 (z187:qP K z83 "deed_counts")
 (z188:qP K z83 "broken")
 (z189:qP K z83 "deeds_left")
 (z190:qP K z83 "record")
 (z191:Meth K z83 "put" z47)
 (z192:Meth K z83 "wipe" z48)
 (z193:Meth K z83 "read" z49)
 (z194:Meth K z83 "cut_after" z50)
 (z195:Meth K z83 "power_on" z51)
 (z196:Meth K z83 "is_dark" z52)
 (z197:Meth K z83 "cleared" z53)
 (z198:Meth K z83 "failed" z54)
 (z199:Meth K z83 "deeds" z55)
 (z200:Meth K z83 "check_page" z56)
 (z201:Meth K z83 "check_block" z57)
 (z202:Meth K z83 "check_power" z58)
 (z203:Meth K z83 "check_deed" z59)
 (z204:Meth K z83 "is_spent" z60)
 (z205:Meth K z83 "do_deed" z61)
 (z206:Mk K z83 z46)
 (z207:W.nsIn K mainGlobals "Fewest"=some (some (.ref z84)))
 (z208:Cls K z84)
 (z209:Meth K z84 "goes_ahead" z65)
 (z210:Meth K z84 "choose" z64)
 (z211:W.makesIn K z84=true)
 (z212:W.findIn K (.ref z84) "__init__"=some (some (.builtin "object.__init__")))
 (z213:W.keepIn K (.ref z84)=true)
 (z214:W.nsIn K mainGlobals "Eldest"=some (some (.ref z85)))
 (z215:Cls K z85)
 (z216:Meth K z85 "goes_ahead" z66)
 (z217:Meth K z85 "choose" z64)
 (z218:W.makesIn K z85=true)
 (z219:W.findIn K (.ref z85) "__init__"=some (some (.builtin "object.__init__")))
 (z220:W.keepIn K (.ref z85)=true)
 (z221:W.nsIn K mainGlobals "Terms"=some (some (.ref z86)))
 (z222:Cls K z86)
 (z223:qP K z86 "blocks")
 (z224:qP K z86 "pages")
 (z225:qP K z86 "sheets")
 (z226:qP K z86 "share")
 (z227:qP K z86 "ill")
 (z228:qP K z86 "spread")
 (z229:Meth K z86 "closed" z68)
 (z230:Mk K z86 z67)
 (z231:W.nsIn K mainGlobals "PowerGone"=some (some (.ref z87)))
 (z232:W.excIn K z87 bmVE "ValueError.__new__"=true)
 (z233:W.nsIn K mainGlobals "NoRoom"=some (some (.ref z88)))
 (z234:W.excIn K z88 bmVE "ValueError.__new__"=true)
 (z235:ClM K z81 "__init__" z15)
 (z236:W.exmOne K (.ref z87) (.ref z87)=some true)
 (z237:W.codeHdIn K z0 z1=true)
 (z238:GFn K "is_whole" z2)
 (z239:GFn K "is_within" z3)
 (z240:GFn K "is_shape" z4)
 (z241:GFn K "is_value" z5)
 (z242:GFn K "mark_of" z6)
 (z243:GFn K "bits_of" z7)
 (z244:GFn K "paper_of" z28)
 (z245:GFn K "limits_of" z45)
 (z246:GFn K "is_unbeaten" z62)
 (z247:GFn K "first_unbeaten" z63)
 (z248:GFn K "_law_cell_at" z69)
 (z249:GFn K "_law_whole" z70)
 (z250:GFn K "_law_shape" z71)
 (z251:GFn K "_law_sheet" z72)
 (z252:GFn K "_law_ask" z73)
 (z253:GFn K "_law_lives" z74)
 (z254:GFn K "_law_tallies" z75)
 (z255:GFn K "_law_room_due" z76)
 (z256:GFn K "_law_rows" z77)
 (z257:GFn K "_law_right" z78)
 (z258:W.nsIn K mainGlobals "MOST_TOLD"=some (some (.int 1000000 tk_MOST_TOLD)))
 (z259:W.nsIn K mainGlobals "ROLL"=some (some (.int 64 tk_ROLL)))
 (z260:W.nsIn K mainGlobals "NAMES"=some (some (.int 128 tk_NAMES)))
 (z261:W.nsIn K mainGlobals "bool"=some none)
 (z262:W.nsIn K mainGlobals "divmod"=some none)
 (z263:W.nsIn K mainGlobals "int"=some none)
 (z264:W.nsIn K mainGlobals "isinstance"=some none)
 (z265:W.nsIn K mainGlobals "len"=some none)
 (z266:W.nsIn K mainGlobals "list"=some none)
 (z267:W.nsIn K mainGlobals "min"=some none)
 (z268:W.nsIn K mainGlobals "range"=some none)
 (z269:W.nsIn K mainGlobals "sorted"=some none)
 (z270:W.nsIn K mainGlobals "tuple"=some none)
 (z271:FnX K "is_whole" "is_whole" q35 z2)
 (z272:FnX K "is_within" "is_within" q1O z3)
 (z273:FnX K "is_shape" "is_shape" q36 z4)
 (z274:FnX K "is_value" "is_value" q37 z5)
 (z275:FnX K "mark_of" "mark_of" q4N z6)
 (z276:FnX K "bits_of" "bits_of" q4O z7)
 (z277:FnX K "__init__" "Book.__init__" q1P z8)
 (z278:FnX K "mark" "Book.mark" q1Q z9)
 (z279:FnX K "note" "Book.note" q1R z10)
 (z280:FnX K "forget" "Book.forget" zP z11)
 (z281:FnX K "emptied" "Book.emptied" zA z12)
 (z282:FnX K "live_pages" "Book.live_pages" uT z13)
 (z283:FnX K "held" "Book.held" q1S z14)
 (z284:FnX K "__init__" "Plain.__init__" q0V z15)
 (z285:FnX K "good" "Plain.good" q0W z16)
 (z286:K.lookup z17=some ⟨z94,z91,.func (W.fnOf "free" "Plain.free" (yJ jU) (yB jU) (qH jU) .none z95 z96 z97 z92 (.ref z0) z99),z93⟩)
 (z287:W.codeIn K (.ref z0) "Plain.free"=true)
 (z288:FnX K "part" "Plain.part" q0X z18)
 (z289:FnX K "spot" "Plain.spot" q0Y z19)
 (z290:FnX K "ready" "Plain.ready" zQ z20)
 (z291:FnX K "set_down" "Plain.set_down" v8 z21)
 (z292:FnX K "lay" "Plain.lay" q1T z22)
 (z293:FnX K "write" "Plain.write" zR z23)
 (z294:FnX K "give_up" "Plain.give_up" vK z24)
 (z295:FnX K "held" "Plain.held" q0Z z25)
 (z296:FnX K "check_sheet" "Plain.check_sheet" u8 z26)
 (z297:FnX K "check_share" "Plain.check_share" u9 z27)
 (z298:FnX K "paper_of" "paper_of" q38 z28)
 (z299:FnX K "__init__" "Store.__init__" q10 z29)
 (z300:FnX K "reserve" "Store.reserve" vL z30)
 (z301:FnX K "tally" "Store.tally" zS z31)
 (z302:FnX K "space" "Store.space" zT z32)
 (z303:FnX K "full_ones" "Store.full_ones" uU z33)
 (z304:FnX K "with_dead_page" "Store.with_dead_page" yM z34)
 (z305:FnX K "options" "Store.options" vM z35)
 (z306:FnX K "choice" "Store.choice" zB z36)
 (z307:FnX K "choice_by_rule" "Store.choice_by_rule" yN z37)
 (z308:FnX K "moved" "Store.moved" zU z38)
 (z309:FnX K "value_to_move" "Store.value_to_move" yS z39)
 (z310:FnX K "wiped" "Store.wiped" zV z40)
 (z311:FnX K "clear_out" "Store.clear_out" uV z41)
 (z312:FnX K "make_room" "Store.make_room" uW z42)
 (z313:FnX K "make_ready" "Store.make_ready" uJ z43)
 (z314:FnX K "make_rooms" "Store.make_rooms" uK z44)
 (z315:FnX K "limits_of" "limits_of" q1U z45)
 (z316:K.lookup z46=some ⟨z106,z103,.func (W.fnOf "__init__" "Chip.__init__" (yJ uO) (yB uO) (qH uO) (.ref z89) z107 z108 z109 z104 z110 z111),z105⟩)
 (z317:W.codeIn K z110 "Chip.__init__"=true)
 (z318:K.lookup z89=some ⟨.type "tuple",z112,.seq #[.int 1000000 e0_Chip_init,.none] z113,z114⟩)
 (z319:FnX K "put" "Chip.put" q39 z47)
 (z320:FnX K "wipe" "Chip.wipe" q1V z48)
 (z321:FnX K "read" "Chip.read" q1W z49)
 (z322:FnX K "cut_after" "Chip.cut_after" v9 z50)
 (z323:FnX K "power_on" "Chip.power_on" vO z51)
 (z324:FnX K "is_dark" "Chip.is_dark" zC z52)
 (z325:FnX K "cleared" "Chip.cleared" zD z53)
 (z326:FnX K "failed" "Chip.failed" zW z54)
 (z327:FnX K "deeds" "Chip.deeds" q11 z55)
 (z328:FnX K "check_page" "Chip.check_page" uX z56)
 (z329:FnX K "check_block" "Chip.check_block" uL z57)
 (z330:FnX K "check_power" "Chip.check_power" uM z58)
 (z331:FnX K "check_deed" "Chip.check_deed" uY z59)
 (z332:FnX K "is_spent" "Chip.is_spent" vP z60)
 (z333:FnX K "do_deed" "Chip.do_deed" zE z61)
 (z334:FnX K "is_unbeaten" "is_unbeaten" zX z62)
 (z335:FnX K "first_unbeaten" "first_unbeaten" vA z63)
 (z336:FnX K "choose" "Rule.choose" zY z64)
 (z337:FnX K "goes_ahead" "Fewest.goes_ahead" uA z65)
 (z338:FnX K "goes_ahead" "Eldest.goes_ahead" uB z66)
 (z339:K.lookup z67=some ⟨z118,z115,.func (W.fnOf "__init__" "Terms.__init__" (yJ u6) (yB u6) (qH u6) (.ref z90) z119 z120 z121 z116 z122 z123),z117⟩)
 (z340:W.codeIn K z122 "Terms.__init__"=true)
 (z341:K.lookup z90=some ⟨.type "tuple",z124,.seq #[.int 0 e0_Terms_init,.int 1000000 e1_Terms_init] z125,z126⟩)
 (z342:FnX K "closed" "Terms.closed" zF z68)
 (z343:FnX K "_law_cell_at" "_law_cell_at" zZ z69)
 (z344:FnX K "_law_whole" "_law_whole" q1X z70)
 (z345:FnX K "_law_shape" "_law_shape" q1Y z71)
 (z346:FnX K "_law_sheet" "_law_sheet" q1Z z72)
 (z347:FnX K "_law_ask" "_law_ask" q4P z73)
 (z348:FnX K "_law_lives" "_law_lives" q20 z74)
 (z349:FnX K "_law_tallies" "_law_tallies" q00 z75)
 (z350:FnX K "_law_room_due" "_law_room_due" zG z76)
 (z351:FnX K "_law_rows" "_law_rows" q3A z77)
 (z352:FnX K "_law_right" "_law_right" q21 z78)
 (z353:W.nsIn K mainGlobals "law"=some (some (.ref z79)))
 (z354:FnX K "law" "law" qF5 z79):
 ∃fd:FuncData,(∀(s:Shared) (v:Value),BindsTo s fd ⟨[v],[]⟩ [("_law_script",v)])∧∀base:Heap,K.In base→base.Ns mainGlobals mg→BmIn base mg→FnOk l.prog w K mg base (CX0) 19 fa fd ["_law_script"] (q4K K [z1]):=by
 have e:=hfa.symm.trans (gQ X G z353)
 cases e
 let t:Adr:=⟨z2,z3,z4,z5,z6,z7,z8,z9,z10,z11,z12,z13,z14,z15,z16,z17,z18,z19,z20,z21,z22,z23,z24,z25,z26,z27,z28,z29,z30,z31,z32,z33,z34,z35,z36,z37,z38,z39,z40,z41,z42,z43,z44,z45,z46,z47,z48,z49,z50,z51,z52,z53,z54,z55,z56,z57,z58,z59,z60,z61,z62,z63,z64,z65,z66,z67,z68,z69,z70,z71,z72,z73,z74,z75,z76,z77,z78,fa,z80,z81,z82,z83,z84,z85,z86,z87,z88,tk_MOST_TOLD,tk_ROLL,tk_NAMES,z0,z1⟩
 have T:Txt K mg t:=⟨gQ X G z127,z128,z129,z130,z131,z132,z133,z134,z135,z136,z137,z138,z139,z140,z141,z142,gQ X G z143,gQ X G z144,z145,z146,z147,z148,z149,z150,z151,z152,z153,z154,z155,z156,z157,z158,z159,z160,z161,z162,z163,z164,z165,z166,z167,z168,z169,z170,z171,z172,z173,z174,z175,z176,z177,z178,gQ X G z179,z180,z181,z182,z183,z184,z185,z186,z187,z188,z189,z190,z191,z192,z193,z194,z195,z196,z197,z198,z199,z200,z201,z202,z203,z204,z205,z206,gQ X G z207,z208,z209,z210,⟨z211,z212,z213⟩,gQ X G z214,z215,z216,z217,⟨z218,z219,z220⟩,gQ X G z221,z222,z223,z224,z225,z226,z227,z228,z229,z230,gQ X G z231,z232,gQ X G z233,z234,z235,z236,z237,gQ X G z238.1,z238.2,gQ X G z239.1,z239.2,gQ X G z240.1,z240.2,gQ X G z241.1,z241.2,gQ X G z242.1,z242.2,gQ X G z243.1,z243.2,gQ X G z244.1,z244.2,gQ X G z245.1,z245.2,gQ X G z246.1,z246.2,gQ X G z247.1,z247.2,gQ X G z248.1,z248.2,gQ X G z249.1,z249.2,gQ X G z250.1,z250.2,gQ X G z251.1,z251.2,gQ X G z252.1,z252.2,gQ X G z253.1,z253.2,gQ X G z254.1,z254.2,gQ X G z255.1,z255.2,gQ X G z256.1,z256.2,gQ X G z257.1,z257.2,gQ X G z258,gQ X G z259,gQ X G z260,rC X G z261,rC X G z262,rC X G z263,rC X G z264,rC X G z265,rC X G z266,rC X G z267,rC X G z268,rC X G z269,rC X G z270⟩
 let S:Fns K t:=⟨fn1 z271,
  fn1 z272,
  fn1 z273,
  fn1 z274,
  fn1 z275,
  fn1 z276,
  fn1 z277,
  fn1 z278,
  fn1 z279,
  fn1 z280,
  fn1 z281,
  fn1 z282,
  fn1 z283,
  fn1 z284,
  fn1 z285,
  _,
  FunT.mk' (st:=jU) z286 z287,
  yG.all λus hl=>by rw[lnx hl];rfl,
  fn1 z288,
  fn1 z289,
  fn1 z290,
  fn1 z291,
  fn1 z292,
  fn1 z293,
  fn1 z294,
  fn1 z295,
  fn1 z296,
  fn1 z297,
  fn1 z298,
  fn1 z299,
  fn1 z300,
  fn1 z301,
  fn1 z302,
  fn1 z303,
  fn1 z304,
  fn1 z305,
  fn1 z306,
  fn1 z307,
  fn1 z308,
  fn1 z309,
  fn1 z310,
  fn1 z311,
  fn1 z312,
  fn1 z313,
  fn1 z314,
  fn1 z315,
  _,
  (.ref z89),
  FunD.mk' (st:=uO) z316 z317,
  λs us kin hl=>by rw[lnx (us:=us) (n:=5) (by simpa using hl)];exact d8 rfl (kin _ _ z318) rfl rfl rfl,
  [.none],
  λs us kin hl=>by rw[lnx (us:=us) (n:=4) (by simpa using hl)];exact d8 rfl (kin _ _ z318) rfl rfl rfl,
  (.cons rfl .nil),
  [.int 1000000 e0_Chip_init,.none],
  λs us kin hl=>by rw[lnx (us:=us) (n:=3) (by simpa using hl)];exact d8 rfl (kin _ _ z318) rfl rfl rfl,
  (.cons ⟨_,rfl⟩ (.cons rfl .nil)),
  fn1 z319,
  fn1 z320,
  fn1 z321,
  fn1 z322,
  fn1 z323,
  fn1 z324,
  fn1 z325,
  fn1 z326,
  fn1 z327,
  fn1 z328,
  fn1 z329,
  fn1 z330,
  fn1 z331,
  fn1 z332,
  fn1 z333,
  fn1 z334,
  fn1 z335,
  fn1 z336,
  fn1 z337,
  fn1 z338,
  _,
  (.ref z90),
  FunD.mk' (st:=u6) z339 z340,
  λs us kin hl=>by rw[lnx (us:=us) (n:=7) (by simpa using hl)];exact d8 rfl (kin _ _ z341) rfl rfl rfl,
  [.int 1000000 e1_Terms_init],
  λs us kin hl=>by rw[lnx (us:=us) (n:=6) (by simpa using hl)];exact d8 rfl (kin _ _ z341) rfl rfl rfl,
  (.cons ⟨_,rfl⟩ .nil),
  [.int 0 e0_Terms_init,.int 1000000 e1_Terms_init],
  λs us kin hl=>by rw[lnx (us:=us) (n:=5) (by simpa using hl)];exact d8 rfl (kin _ _ z341) rfl rfl rfl,
  (.cons ⟨_,rfl⟩ (.cons ⟨_,rfl⟩ .nil)),
  fn1 z342,
  fn1 z343,
  fn1 z344,
  fn1 z345,
  fn1 z346,
  fn1 z347,
  fn1 z348,
  fn1 z349,
  fn1 z350,
  fn1 z351,
  fn1 z352,
  fn1 z354⟩
 exact⟨_,FnX.bind1 (by intros;rfl) S.law.F,λbase _ _ bm=>qJN T S bm⟩
theorem walk{l:W.OpenLaw}{q:Program}{loose:List Str}{XP:(Str→Option Value)→Heap→Prop}{YP:World→Heap→Prop}{d:DefRec}{K:Params→W.Frag}(hn:l.most=some 63)(hdf:d.params.defaults=[])
 (hY:∀(w:World) (h:Heap),YP w h→(K w.params).In h∧∀T∈([304]:List Addr),h.get? T=some (W.tabObj #[])) (hT:∀w:World,∀T∈([304]:List Addr),(K w.params).lookup T=none∧∃c,W.codeHdIn (K w.params) c T=true)
 (F:∀(w:World) (mg:Str→Option Value) (fa:Addr) (h:Heap),(K w.params).In h→h.Ns mainGlobals mg→mg d.name=some (.ref fa)→
  ∃fd:FuncData,(∀(s:Shared) (u:Value),BindsTo s fd ⟨[u],[]⟩ [("_law_script",u)])∧∀base:Heap,(K w.params).In base→base.Ns mainGlobals mg→BmIn base mg→FnOk l.prog w (K w.params) mg base (CX0) 19 fa fd ["_law_script"] (q4K (K w.params) [304])):
 W.WalkO q loose XP YP l.row.toRowW d [] (λf vs=>PySem.call f vs):=
 L2.qEJ (n:=63) (k:=19) (x:="_law_script") (CX:=λ_=>CX0) (sp:=λw=>q4K (K w.params) [304]) [304] hn (by decide) hdf ⟨rfl,by decide,by decide⟩ hY hT F (λ_ _ a ns hl hS hT=>⟨a,ns,rfl,hS,hl,hT,λ_=>rfl⟩) (λ_ _ _ _ _ z=>z)
end W1
namespace PySem.W.Fast
theorem tw3433256683769489876:True:=⟨⟩
theorem tw13210322523182727264:True:=⟨⟩
theorem tw3976589598290400224:True:=⟨⟩
theorem tw1933633920015754817:True:=⟨⟩
theorem tw1586475205333776802:True:=⟨⟩
theorem tw519336705733200770:True:=⟨⟩
theorem tw1492819647884801635:True:=⟨⟩
theorem tw4979448993809542213:True:=⟨⟩
theorem tw3343556757867826853:True:=⟨⟩
theorem tw11544896896869998406:True:=⟨⟩
theorem tw4169760869678482663:True:=⟨⟩
theorem tw10210864902571440007:True:=⟨⟩
theorem tw4109262412673465480:True:=⟨⟩
theorem tw11925281929059896904:True:=⟨⟩
theorem tw10747792382912891656:True:=⟨⟩
theorem tw6676683328078616906:True:=⟨⟩
theorem tw1695499636127796682:True:=⟨⟩
theorem tw8577053117310445322:True:=⟨⟩
theorem tw14870329226457114443:True:=⟨⟩
theorem tw8650571218274826764:True:=⟨⟩
theorem tw10851194414796503756:True:=⟨⟩
theorem tw11687693605406942797:True:=⟨⟩
theorem tw14229230155761983341:True:=⟨⟩
theorem tw7647732034569933870:True:=⟨⟩
theorem tw15499654839966730382:True:=⟨⟩
theorem tw2690511860320229070:True:=⟨⟩
theorem tw3752083451084580015:True:=⟨⟩
theorem tw755207419205510959:True:=⟨⟩
theorem tw15304575740154771472:True:=⟨⟩
theorem tw15447155841698663120:True:=⟨⟩
theorem tw3179663852878956753:True:=⟨⟩
theorem tw5266020488795396401:True:=⟨⟩
theorem tw9826925727289507377:True:=⟨⟩
theorem tw10507370121733848210:True:=⟨⟩
theorem tw1503282942446896594:True:=⟨⟩
theorem tw4686028248762989844:True:=⟨⟩
theorem tw11394294611064805684:True:=⟨⟩
theorem tw6365120002111330932:True:=⟨⟩
theorem tw1106188998735672148:True:=⟨⟩
theorem tw16488268228743096469:True:=⟨⟩
theorem tw491292977989197077:True:=⟨⟩
theorem tw16968443698036834391:True:=⟨⟩
theorem tw4172809625497757975:True:=⟨⟩
theorem tw4481758678128897367:True:=⟨⟩
theorem tw16853234703847302936:True:=⟨⟩
theorem tw11552242413967822970:True:=⟨⟩
theorem tw16615715958791159002:True:=⟨⟩
theorem tw5338338419169023483:True:=⟨⟩
theorem tw9341360124362408955:True:=⟨⟩
theorem tw7538095202522654044:True:=⟨⟩
theorem tw3570138256824797181:True:=⟨⟩
theorem tw3429280824168968222:True:=⟨⟩
theorem tw2723499442862572638:True:=⟨⟩
theorem tw16017722452290993502:True:=⟨⟩
theorem tw1460482083073074654:True:=⟨⟩
theorem tw17873283073690807423:True:=⟨⟩
theorem tw4259855241825144799:True:=⟨⟩
theorem tw1944667706322092406:True:=⟨⟩
theorem tw10956609568291800949:True:=⟨⟩
theorem tw17735303285595225675:True:=⟨⟩
theorem tw17444138595084941927:True:=⟨⟩
theorem tw1722511909511275921:True:=⟨⟩
theorem tw4591967233144258858:True:=⟨⟩
theorem tw18356977279919540952:True:=⟨⟩
theorem tw3210784269830402704:True:=⟨⟩
theorem tw3056105990750075162:True:=⟨⟩
theorem tw12477825020054846416:True:=⟨⟩
theorem tw4826843737842721577:True:=⟨⟩
theorem tw17126807813904626728:True:=⟨⟩
theorem tw4795720483049092681:True:=⟨⟩
theorem tw10720215329240953004:True:=⟨⟩
theorem tw946918519634303173:True:=⟨⟩
theorem tw17711513304581209290:True:=⟨⟩
theorem tw9206798253550445719:True:=⟨⟩
theorem tw7728952699270102280:True:=⟨⟩
theorem tw2269564912467793734:True:=⟨⟩
theorem tw6229727616080212891:True:=⟨⟩
theorem tw16878009900204463286:True:=⟨⟩
theorem tw6570515821007700906:True:=⟨⟩
theorem tw8745330672628380417:True:=⟨⟩
theorem tw2440303717349814353:True:=⟨⟩
theorem tw255058865531657162:True:=⟨⟩
theorem tw11152726269962133037:True:=⟨⟩
theorem tw2076094700628764868:True:=⟨⟩
theorem tw15824316439576138965:True:=⟨⟩
theorem tw6003929762357000762:True:=⟨⟩
theorem tw1439264745246113429:True:=⟨⟩
theorem tw7746281402846316579:True:=⟨⟩
theorem tw11196502688379282247:True:=⟨⟩
theorem tw1662942393620334324:True:=⟨⟩
theorem tw5168763942206113096:True:=⟨⟩
theorem tw5212089297371221918:True:=⟨⟩
theorem tw8762787253769587085:True:=⟨⟩
theorem tw17229905491142123913:True:=⟨⟩
theorem tw15852568891918895032:True:=⟨⟩
theorem tw10483996828700893100:True:=⟨⟩
theorem tw5519311038770350195:True:=⟨⟩
theorem tw3462193573862962195:True:=⟨⟩
theorem tw10563746467874954499:True:=⟨⟩
theorem tw14429875293435589163:True:=⟨⟩
theorem tw5790088336348782256:True:=⟨⟩
theorem tw10798546443128413971:True:=⟨⟩
theorem tw5592882189914649689:True:=⟨⟩
theorem tw14856988393807108177:True:=⟨⟩
theorem tw12596107517577222114:True:=⟨⟩
theorem tw6340247656203501837:True:=⟨⟩
theorem tw11692172969861869624:True:=⟨⟩
theorem tw16883031482139006761:True:=⟨⟩
theorem tw14262797066623212501:True:=⟨⟩
theorem tw11404186969594917826:True:=⟨⟩
theorem tw12643310239634183120:True:=⟨⟩
theorem tw10266377459857860336:True:=⟨⟩
theorem tw6693353498794215081:True:=⟨⟩
theorem tw14024413290190389105:True:=⟨⟩
theorem tw7958361086692006086:True:=⟨⟩
theorem tw5760751299205488851:True:=⟨⟩
theorem tw15997541750063952859:True:=⟨⟩
theorem tw15902972653401355211:True:=⟨⟩
theorem tw18409774598368732629:True:=⟨⟩
theorem tw13072411611058043845:True:=⟨⟩
theorem tw17915195765884875026:True:=⟨⟩
theorem tw15018072461129369146:True:=⟨⟩
theorem tw10339865301749707401:True:=⟨⟩
theorem tw10542314837245297823:True:=⟨⟩
theorem tw10062803116683627650:True:=⟨⟩
theorem tw4958269350460086801:True:=⟨⟩
theorem tw1654591947044015128:True:=⟨⟩
theorem tw17135446340301887136:True:=⟨⟩
theorem tw6215886412927345396:True:=⟨⟩
theorem tw14084801531489554662:True:=⟨⟩
theorem tw11075023714467363274:True:=⟨⟩
theorem tw10458159753189773996:True:=⟨⟩
theorem tw12758879598005358687:True:=⟨⟩
theorem tw8550766001771791910:True:=⟨⟩
theorem tw2765386836340947062:True:=⟨⟩
theorem tw16679842358110888903:True:=⟨⟩
theorem tw8409896631940718566:True:=⟨⟩
theorem tw4792146257556801718:True:=⟨⟩
theorem tw1060562299996548861:True:=⟨⟩
theorem tw11449982342502929379:True:=⟨⟩
theorem tw15205205798197690929:True:=⟨⟩
theorem tw13492085201931965005:True:=⟨⟩
theorem tw11578678797570610504:True:=⟨⟩
theorem tw7607648349963680671:True:=⟨⟩
theorem tw722888183373564199:True:=⟨⟩
theorem tw17261701225140393273:True:=⟨⟩
theorem tw9101912066886945543:True:=⟨⟩
theorem tw16340121323001825159:True:=⟨⟩
theorem tw7646887183897907882:True:=⟨⟩
theorem tw10595713985937325602:True:=⟨⟩
theorem tw2890607780345863905:True:=⟨⟩
theorem tw4657373453177465171:True:=⟨⟩
theorem tw4892846238056445275:True:=⟨⟩
theorem tw4164507642920447150:True:=⟨⟩
theorem tw7350356094967707070:True:=⟨⟩
theorem tw11146486661180829511:True:=⟨⟩
theorem tw12470311232121473300:True:=⟨⟩
theorem tw17023488613195887332:True:=⟨⟩
theorem tw937479701964131814:True:=⟨⟩
theorem tw18197170362847116597:True:=⟨⟩
theorem tw17595610265619728460:True:=⟨⟩
theorem tw17267849208816888145:True:=⟨⟩
theorem tw8446347433213550929:True:=⟨⟩
theorem tw10151101417709809912:True:=⟨⟩
theorem tw15151379777769441192:True:=⟨⟩
theorem tw2895468442083815297:True:=⟨⟩
theorem tw14921422315257848930:True:=⟨⟩
theorem tw14191443106830826424:True:=⟨⟩
theorem tw2425283963203558171:True:=⟨⟩
theorem tw17462757119948043510:True:=⟨⟩
theorem tw4038810289264038846:True:=⟨⟩
theorem tw1714040819626962893:True:=⟨⟩
theorem tw16826269171633232784:True:=⟨⟩
theorem tw7796620717434132397:True:=⟨⟩
theorem tw12461405818636364648:True:=⟨⟩
theorem tw14123965863945239544:True:=⟨⟩
theorem tw13680524905336979740:True:=⟨⟩
theorem tw3554554767267302543:True:=⟨⟩
theorem tw10121085274553756303:True:=⟨⟩
theorem tw2696462305167916096:True:=⟨⟩
theorem tw5834679449275124333:True:=⟨⟩
theorem tw12879756855562221521:True:=⟨⟩
theorem tw6712119029620246910:True:=⟨⟩
theorem tw9742988066898310653:True:=⟨⟩
theorem tw14246022992351967374:True:=⟨⟩
theorem tw6077991602874608308:True:=⟨⟩
theorem tw5199476310350405659:True:=⟨⟩
theorem tw9683168933666976114:True:=⟨⟩
theorem tw272931128313750276:True:=⟨⟩
theorem tw7131779058001657408:True:=⟨⟩
theorem tw18186787516836857522:True:=⟨⟩
theorem tw17162167769958842336:True:=⟨⟩
theorem tw9522496172274594210:True:=⟨⟩
theorem tw6451923870326742928:True:=⟨⟩
theorem tw4914260111536083124:True:=⟨⟩
theorem tw4756486340446402479:True:=⟨⟩
theorem tw13563779374242678722:True:=⟨⟩
theorem tw5131293747355594043:True:=⟨⟩
theorem tw2636814993568034430:True:=⟨⟩
theorem tw9562178510290569256:True:=⟨⟩
theorem tw2084430170053874562:True:=⟨⟩
theorem tw5958173730576222359:True:=⟨⟩
theorem tw17619964670950917229:True:=⟨⟩
theorem tw13113247733728120013:True:=⟨⟩
theorem tw16578045462543328661:True:=⟨⟩
theorem tw6761666356574636952:True:=⟨⟩
theorem tw9548295432004504656:True:=⟨⟩
theorem tw17582306754786218353:True:=⟨⟩
theorem tw12459136153024558890:True:=⟨⟩
theorem tw825774820993730219:True:=⟨⟩
theorem tw3508300295951975940:True:=⟨⟩
theorem tw426709863059576275:True:=⟨⟩
theorem tw3180073254417702177:True:=⟨⟩
theorem tw1916102290647373280:True:=⟨⟩
theorem tw17664446604664341599:True:=⟨⟩
theorem tw17089121785242771706:True:=⟨⟩
theorem tw11133853468379334345:True:=⟨⟩
theorem tw8671592493323309042:True:=⟨⟩
theorem tw7676959663386187174:True:=⟨⟩
theorem tw17374590937693471672:True:=⟨⟩
theorem tw5622626241824053769:True:=⟨⟩
theorem tw2994248540150679451:True:=⟨⟩
theorem tw6359872558194517336:True:=⟨⟩
theorem tw17638970118548516769:True:=⟨⟩
theorem tw9251575766949757042:True:=⟨⟩
theorem tw1161705351300409410:True:=⟨⟩
theorem tw10465374678225804330:True:=⟨⟩
theorem tw15499126551177226385:True:=⟨⟩
theorem tw17428384648440569648:True:=⟨⟩
theorem tw283944788723296729:True:=⟨⟩
theorem tw14271628369625180609:True:=⟨⟩
theorem tw8095312143448945875:True:=⟨⟩
theorem tw8702096633199713216:True:=⟨⟩
theorem tw14751515874307618589:True:=⟨⟩
theorem tw6144447628969882724:True:=⟨⟩
theorem tw5050701853744507918:True:=⟨⟩
theorem tw4349044502832759640:True:=⟨⟩
theorem tw6977393162006085302:True:=⟨⟩
theorem tw5321463625865794072:True:=⟨⟩
theorem tw17856914670093551063:True:=⟨⟩
theorem tw15805187219265406166:True:=⟨⟩
theorem tw15374879388530693374:True:=⟨⟩
theorem tw14429099629366519167:True:=⟨⟩
theorem tw2175460629621540633:True:=⟨⟩
theorem tw1099027206333762259:True:=⟨⟩
theorem tw9334845621404465307:True:=⟨⟩
theorem tw3334559738850667089:True:=⟨⟩
theorem tw2878801190514399994:True:=⟨⟩
theorem tw4111482425164510676:True:=⟨⟩
theorem tw15958085501258048869:True:=⟨⟩
theorem tw16296101185277055571:True:=⟨⟩
theorem tw2594980422436742125:True:=⟨⟩
theorem tw16099346646680667757:True:=⟨⟩
theorem tw17973361450008401562:True:=⟨⟩
theorem tw3285760913709097313:True:=⟨⟩
theorem tw14308515115726851772:True:=⟨⟩
theorem tw11751152987525285230:True:=⟨⟩
theorem tw9244044990672774893:True:=⟨⟩
theorem tw46325573694245387:True:=⟨⟩
theorem tw4587202258129442508:True:=⟨⟩
theorem tw4429711304259045778:True:=⟨⟩
theorem tw13671318356163992221:True:=⟨⟩
theorem tw4886188320291921452:True:=⟨⟩
theorem tw17768389292510703391:True:=⟨⟩
theorem tw10951675999198221390:True:=⟨⟩
theorem tw3865585685042373708:True:=⟨⟩
theorem tw6478597822077046682:True:=⟨⟩
theorem tw11221307282765750697:True:=⟨⟩
theorem tw5402609784978001569:True:=⟨⟩
theorem tw5882955590852820737:True:=⟨⟩
theorem tw12852193832384497550:True:=⟨⟩
theorem tw11129721129776081252:True:=⟨⟩
theorem tw10095521598759993324:True:=⟨⟩
theorem tw1710977920056369641:True:=⟨⟩
theorem tw2771111538847533139:True:=⟨⟩
theorem tw2585267979866936940:True:=⟨⟩
theorem tw14675603059814303064:True:=⟨⟩
theorem tw7901579111865317248:True:=⟨⟩
theorem tw18309298556881087485:True:=⟨⟩
theorem tw3433033911200624673:True:=⟨⟩
theorem tw16812209633557853867:True:=⟨⟩
theorem tw13660452727112921262:True:=⟨⟩
theorem tw13189800162132671952:True:=⟨⟩
theorem tw5442816734416904657:True:=⟨⟩
theorem tw3888375302622239323:True:=⟨⟩
theorem tw16809723640052501027:True:=⟨⟩
theorem tw6400432862013744630:True:=⟨⟩
theorem tw1166225271493690419:True:=⟨⟩
theorem tw15743580782630422896:True:=⟨⟩
theorem tw8460922755156041753:True:=⟨⟩
theorem tw10179718383462599369:True:=⟨⟩
theorem tw13209139489830824370:True:=⟨⟩
theorem tw13372240262727752345:True:=⟨⟩
theorem tw15167168235004184852:True:=⟨⟩
theorem tw11550915613036422343:True:=⟨⟩
theorem tw8238820542002061427:True:=⟨⟩
theorem tw5697931831140322711:True:=⟨⟩
theorem tw527414616749779039:True:=⟨⟩
theorem tw4523014579899179152:True:=⟨⟩
theorem tw2730465263550185824:True:=⟨⟩
theorem tw16642714570748207485:True:=⟨⟩
theorem tw6045834977480873613:True:=⟨⟩
theorem tw14257371090496461036:True:=⟨⟩
theorem tw13373190883842867741:True:=⟨⟩
theorem tw1246340069851712172:True:=⟨⟩
theorem tw5906648402473090617:True:=⟨⟩
theorem tw9295638840835621161:True:=⟨⟩
theorem tw2141001574949858229:True:=⟨⟩
theorem tw16486655519865180818:True:=⟨⟩
theorem tw16916599407610112903:True:=⟨⟩
theorem tw9692841887596958985:True:=⟨⟩
theorem tw15643922419023147880:True:=⟨⟩
theorem tw5195496316142563121:True:=⟨⟩
theorem tw6134318356839771854:True:=⟨⟩
theorem tw6175841957702137899:True:=⟨⟩
theorem tw13925387651436590064:True:=⟨⟩
theorem tw14856625437538984733:True:=⟨⟩
theorem tw17551872036662556222:True:=⟨⟩
theorem tw8344388262400796792:True:=⟨⟩
theorem tw6763667537315555983:True:=⟨⟩
theorem tw14451434657667379924:True:=⟨⟩
theorem tw2382451935452704495:True:=⟨⟩
theorem tw3304627735526349210:True:=⟨⟩
theorem tw6172344159180452558:True:=⟨⟩
theorem tw4431938309024634806:True:=⟨⟩
theorem tw15514496770829243862:True:=⟨⟩
theorem tw373812577155987480:True:=⟨⟩
theorem tw15298380491930862091:True:=⟨⟩
theorem tw15183531593684970113:True:=⟨⟩
theorem tw528579253265889084:True:=⟨⟩
theorem tw15671152579356747439:True:=⟨⟩
theorem tw13663359009311734928:True:=⟨⟩
theorem tw12940173478896462811:True:=⟨⟩
theorem tw9690665241353073387:True:=⟨⟩
theorem tw5750845965258886071:True:=⟨⟩
theorem tw6131452218885841136:True:=⟨⟩
theorem tw2273686831637694888:True:=⟨⟩
theorem tw7366394619157348491:True:=⟨⟩
theorem tw7114390544570537143:True:=⟨⟩
end PySem.W.Fast
set_option genInjectivity false in
set_option genSizeOf false in
structure PySem.W.Fast:Prop where
 (tw3455022628437373398 tw16445004255786925678 tw15425367557884795085 tw11298448052667699904 tw9598286712750060676 tw10832487057911728247 tw16068476115507479720 tw15905579407989085751 tw15528062819816996286 tw12623561409468497328 tw886958249777788564 tw14432925583634976344 tw6447566111544779001 tw10294187545930419089 tw7637722933348350262 tw5078243108935210287 tw5448430958082446231 tw18174660531918445069 tw12843602409320466540 tw14333478026228025155 tw10770270951681764728 tw11534999402260255114 tw5313809245394496713 tw5104553138000417049 tw13808998687187264435 tw12319818806715012423 tw8164621852071646408 tw13468726641240041229 tw13206727035119570688 tw12007564317204392206 tw6845011065011310644 tw5451409712184066755 tw1660070960981604247 tw1551462104799816703 tw1220563934909033742 tw5169439339025800938 tw15208588855002830388 tw15152968139496616909 tw11919639329756506657 tw13195295483358106805 tw6162947142055552325 tw971006991609953661 tw18403749460198938340 tw3001604212227819501 tw1842063048647048009 tw899595912659795466 tw5319143051217168573 tw16130601610599849085 tw7613040677233558131 tw5009727030544112238 tw3659494904487946059 tw17465447069952361538 tw15949590257443126932 tw10049417867073303522 tw9971706771244126081 tw9393631697828417493 tw2510065329680293155 tw2352765951019556897 tw14726273317686452875 tw12883927674968187399 tw11797098176243513811 tw1176564248206185754 tw11189216983478050227 tw10044663099424781504 tw8344344431439465590 tw9726045516858294931 tw2386503041812587808 tw17827193412534434947 tw15705455047180826543 tw15681558319402375197 tw12524635791066867134 tw9312858509777945643 tw8977482094746223997 tw8819870876286303105 tw62698409804617882 tw5639560975570997830 tw5594689889350985819 tw4658531427085165049 tw4253898543771875532 tw3563686772141835532 tw2911249999638112246 tw15097453936591463037 tw14619614494392042336 tw13961236474450479264 tw12752377914426166366 tw12295991147079023952 tw11960139904778953857 tw11537518326328512384 tw11154412709036279885 tw15694607111032805162 tw12686393894729702616 tw2102316026808873690 tw5082996965665701524 tw2548999608610909588 tw4502598190230390349 tw5781038123623066291 tw17236043437906616553 tw16974504083305444637 tw14915424537906040402 tw12139257737330601153 tw11683493274813414299 tw13580759325655362206 tw12462195763051255816 tw10593671384984375384 tw1849921218418902274 tw7933405156699232101 tw17376888495160463473 tw11345110504896876546 tw9059711442436950104 tw8974927437076289823 tw859634173445608384 tw637120573171063060 tw457837464687792650 tw23744030897395781 tw2066769624433847358 tw16967873920558227036 tw15349132148394001089 tw14818713722243082855 tw14250368867389068205 tw11682262455668506829 tw17679254295416996813 tw14263094277398869389 tw12331437554724860285 tw11666993057376109265 tw52890935398729743 tw285667893581506937 tw9294539759830600148 tw8266712156404426150 tw7801438726401994111 tw52400063195691649 tw4908876661509605857 tw4507414475234167354 tw4360529193395314788 tw3406385465290014303 tw3226840717438871450 tw2466525645402707801 tw18146671544528701475 tw17203630299719537221 tw15925441606014700724 tw15616612648661464569 tw14303525145593639850 tw13979755558838459125 tw13705661313280287146 tw12062226413096277208 tw14773311933976835878 tw8686835233774736134 tw4441943518161336300 tw2695235017750882992 tw12261176599700577010 tw12082926188993271958 tw10096701224483304627 tw999557565202709766 tw8781904493205055616 tw6452328920958867667 tw4859332480933392940 tw3469644166629151466 tw17123635162887095147 tw16501333089652220952 tw16261795630824158318 tw14159804085230681588 tw7786854996775962376 tw16917590070984737868 tw9169637215609485631 tw9038731406562400246 tw648354042097404207 tw6426224545689862471 tw5057225807505365295 tw3470212376191358794 tw2053486159742566297 tw18445845702568479406 tw18295657763337544799 tw17864435645835294570 tw12537616224664856137 tw2597798541882754211 tw10922348126942616319 tw8647977165440247449 tw18124097451117594701 tw8257690404971268813 tw9647673107669848145 tw11038499638691848198 tw11901619652967082680 tw16740859223168498597 tw14408828873707859174 tw9377971530732445473 tw9042182007567496504 tw5394740799735328467 tw4442212076786835544 tw11106558240240854186 tw14475436550550321335 tw10925620960333990333 tw6573286867974064853 tw1712062667739976834 tw16715991811778342981 tw10229067659693186703 tw7372836526243799996 tw7166664902097742794 tw6772909872090894371 tw5754227964871168006 tw4547851611282994779 tw4045329438496068469 tw2201710499145501205 tw2168544642387286128 tw16959054286603368342 tw15036504822351136843 tw12451336359337182275 tw8640977854185832972 tw13774233497393299785 tw9721809801978192032 tw9646904655620475628 tw7821332051537139339 tw7189469111917836886 tw6151583931753027559 tw5257006384747751709 tw5111391742508146489 tw4523243367484443580 tw4109467841421665462 tw18260436143715450169 tw17705389883126474537 tw17612941698099697027 tw1697923798964071784 tw15700117989212891960 tw13702165531422070450 tw11855837897073707834 tw11661523329021931451 tw10775423745971215826 tw10449643280240318392 tw9621528720365606540 tw7584973493959848965 tw17003713045903310230 tw16633073621111504707 tw16351113620574785849 tw15874657089124952426 tw1444634008515919910 tw13867361697383335529 tw113603919037443701:True)
open PySem PySem.W PyProof.Rows
set_option maxRecDepth 100000 in
theorem PySem.Challenge.cw_wornpages_k32_options_holds : PySem.Challenge.rw_wornpages_k32_options.Holds := by
 w_on;o_law;k_head;(case hw=>w_witness2)
 k_fill
 refine W1.walk (l:=PySem.Challenge.rw_wornpages_k32_options) rfl rfl (λw h Y=>⟨W.km_in_of Y,λT hT=>W.km_tabs_of Y T (by simp at hT ⊢;first|exact hT|exact hT.symm)⟩) (?T) ?F
 case T=>
  intro w T hT
  have hT:T=304:=by simpa using hT
  subst hT
  exact⟨by kernel_rfl,306,by kernel_rfl⟩
 case F=>
  intro w mg fa h KX G hmg
  refine' W1.qJO (z1:=304) (z0:=306) KX G hmg ?_ ?_ ?_ ?_ ?_ ?_ ?_ ?_ ?_ ?_ ?_ ?_ ?_ ?_ ?_ ?_ ?_ ?_ ?_ ?_ ?_ ?_ ?_ ?_ ?_ ?_ ?_ ?_ ?_ ?_ ?_ ?_ ?_ ?_ ?_ ?_ ?_ ?_ ?_ ?_ ?_ ?_ ?_ ?_ ?_ ?_ ?_ ?_ ?_ ?_ ?_ ?_ ?_ ?_ ?_ ?_ ?_ ?_ ?_ ?_ ?_ ?_ ?_ ?_ ?_ ?_ ?_ ?_ ?_ ?_ ?_ ?_ ?_ ?_ ?_ ?_ ?_ ?_ ?_ ?_ ?_ ?_ ?_ ?_ ?_ ?_ ?_ ?_ ?_ ?_ ?_ ?_ ?_ ?_ ?_ ?_ ?_ ?_ ?_ ?_ ?_ ?_ ?_ ?_ ?_ ?_ ?_ ?_ ?_ ?_ ?_ ?_ ?_ ?_ ?_ ?_ ?_ ?_ ?_ ?_ ?_ ?_ ?_ ?_ ?_ ?_ ?_ ?_ ?_ ?_ ?_ ?_ ?_ ?_ ?_ ?_ ?_ ?_ ?_ ?_ ?_ ?_ ?_ ?_ ?_ ?_ ?_ ?_ ?_ ?_ ?_ ?_ ?_ ?_ ?_ ?_ ?_ ?_ ?_ ?_ ?_ ?_ ?_ ?_ ?_ ?_ ?_ ?_ ?_ ?_ ?_ ?_ ?_ ?_ ?_ ?_ ?_ ?_ ?_ ?_ ?_ ?_ ?_ ?_ ?_ ?_ ?_ ?_ ?_ ?_ ?_ ?_ ?_ ?_ ?_ ?_ ?_ ?_ ?_ ?_ ?_ ?_ ?_ ?_ ?_ ?_ ?_ ?_ ?_ ?_ ?_ ?_ ?_ ?_ ?_ ?_ ?_ ?_ ?_ ?_ ?_ ?_ ?_ ?_ ?_ ?_ ?_ ?_
  any_goals first|k_is|(refine' L2.FnX.of ?fa ?fb;(case fa=>k_is);(case fb=>k_is))|((first|apply And.intro|apply L2.Meth.mk|apply L2.Mk.mk|apply L2.Cls.mk|apply L2.XAt.mk|apply L2.BIni.mk|apply L2.ClM.mk|apply L2.XRd.mk)<;>first|k_is|kernel_rfl)|(show W.findIn _ _ _=_;k_is)
  all_goals first|k_exc|kts_exm|kit_is|kernel_rfl|decide
