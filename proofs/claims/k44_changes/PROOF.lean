import PyProof.Rows.All
import Wide.All
import OpenK.AllK
import Wide.FinOn
import Lean
import PyProof.EqAt
import PyProof.EqKinds
import PyProof.TupleCall
import PyProof.StationsW
import PyProof.NsDelKeeps
import PyProof.PassesOwn
import PyProof.ZipIter
import PyProof.NeKinds
import PyProof.CompFree
import KE.KDictList
import PyProof.ConsumeWalk
import PyProof.WalkInts
import PyProof.WalksMore
import PyProof.SumAny
import PyProof.Rows.MinMaxN
import PyProof.Rows.SortWalk
import PyProof.ListRange
import KE.KTupSum
import PyProof.EnumFor
import PyProof.EnumMake
import PyProof.EnumStmt
import OpenK.KMake
import PyProof.DictWalks
import PyProof.FitsBits
import PyProof.CompUse
import KE.KSortTup
import PyProof.MinMaxWalk
import PyProof.SeqI3
import PyProof.DictItems
import KE.KItemsList
import KE.KEqDict
import KE.KDictSum
import PyProof.Rows.SetFrom
import PyProof.DictValues
import KE.KLam
import KE.KNestM
import PyProof.ExcClass3
import PySem.Challenge.RW_wornpages_k44_changes
set_option Elab.async false
set_option linter.all false
set_option maxRecDepth 100000
set_option maxHeartbeats 0
noncomputable abbrev hV:=@decide_eq_true
noncomputable abbrev kE:=@decide_eq_false
noncomputable abbrev kF:=@if_neg
noncomputable abbrev kI:=@if_pos
noncomputable abbrev kW:=@decide_eq_true_eq
noncomputable abbrev mV:=@of_decide_eq_true
noncomputable abbrev dZ:=@of_decide_eq_false
noncomputable abbrev rJ:=@beq_eq_false_iff_ne
noncomputable abbrev rK:=@congrArg
noncomputable abbrev wA:=@beq_iff_eq
noncomputable abbrev wJ:=@decide_eq_false_iff_not
noncomputable abbrev cF:=@bne_self_eq_false
noncomputable abbrev cW:=@or_false
open PySem renaming wpAny_bind→hG, wpAny_pure→kL, wpAny_holding→gG, sizeLine_eq→gJ, mem_of_lookup→gO, wpAny_truthy_bool→gP, wpAny_mono→gY, codeAny_builtin→dC, wpAny_Call_Name_kw→dE, wpAny_tryCatch→dO, plainId_quiet→d7, boot_len→rF, wpAny_passesOwn→rW, wpAny_call_entry→wK, wpAny_letGo→wL, codeAny_mono→wO, wpAny_ite_split→wV, wpAny_updateSeq→wX, wpAny_newList→wZ, wpAny_newObj_type→cE, wpAny_call→cJ, wpAny_setField→cL, codeAny_call_builtin→cM, wpAny_seqItems→cN, wpAny_askSetting→cQ, wpAny_setState_of→pC, wpAny_standAt→pQ, wpAny_execs_nil→pW, wpAny_newFunctionEnv_cells→sJ, tupleKind_room_in1→sL, wpAny_pyIter_list→sV, wpAny_field→sY, wpAny_pyIter_slot→nG, wpAny_attempt→nJ, seqIndex_neg→lA, wpAny_getItem_list_neg→lC, intKind_is→lG, wpAny_loadPart'→lK, wpAny_isTrue_Compare1→lO, builtinLookup_eq_fast→lR, wpAny_loadName_local→l7, seqIndex_of→l9, wpAny_newFunctionEnv→xC, entryFor_alias→xE, isSubtype_type→xF, wpAny_of_eq→xG, wpAny_loadName_cell→xJ, wpAny_setEntries_of→xM, call_meets→xX, wpAny_assign_Name→aB, wpAny_Name→bL, typeIs_int→bM, wpAny_rule→bQ
open PySem.Heap renaming get?_push_of_some→hU, lt_size→kP, get?_update_other→kY, get?_push_size→mD, get?_update_self→gN, size_push→wG, get?_none_of_le→pR, size_update→nQ
open List renaming getElem?_eq_getElem→hX, length_map→h9, getElem?_eq_some_iff→kB, mem_cons_of_mem→kC, mem_singleton→kD, getD_eq_getElem?_getD→kJ, mem_cons→kM, mem_append_right→kQ, mem_cons_self→kX, length_append→kZ, size_toArray→mB, length_cons→mC, mem_map→mE, getElem?_map→mG, length_filter_le→mH, map_cons→mJ, take_append_getElem→mL, mem_filter→mP, mem_range→mQ, map_append→mW, nodup_cons→mY, length_take→mZ, getElem_mem→m7, filter_cons→gA, take_length→gC, length_range→gD, mem_of_getElem?→gE, length_singleton→gF, mem_append→gH, mem_append_left→gK, length_set→gL, length_replicate→gM, pairwise_cons→gU, not_mem_nil→gX, pairwise_map→gZ, filter_append→g8, nil_append→g9, getElem?_append_right→dJ, pairwise_lt_range→dM, replicate_succ→dP, append_nil→dQ, find?_cons→dR, drop_eq_getElem_cons→dU, lookup_cons→dX, all_eq_true→dY, cons_append→d3, sum_cons→d9, length_filterMap_le→rA, find?_some→rH, length_drop→rP, getElem?_eq_none→rR, getElem?_append_left→rS, mem_of_find?_eq_some→rT, exists_mem_of_ne_nil→rV, length_nil→rZ, append_assoc→r6, filterMap_cons→wC, getElem_of_mem→wD, map_congr_left→wE, filter_eq_self→wF, getElem?_replicate→wH, ext_getElem→wI, mem_filterMap→wN, find?_eq_none→wS, countP_eq_length_filter→wW, take_append_drop→cA, contains_iff_mem→cB, flatten_cons→cD, nodup_append→cG, getElem?_set_ne→cH, any_eq_true→cR, pairwise_iff_getElem→cS, any_cons→cV, map_replicate→cY, filter_congr→pG, length_pos_of_mem→pH, countP_mono_left→pJ, countP_cons→pN, getElem_map→pO, mem_iff_getElem→pT, mem_of_mem_take→pU, eq_nil_of_length_eq_zero→pV, of_mem_zip→pX, mem_map_of_mem→p8, map_eq_nil_iff→p9, map_map→sG, getElem_range→sP, mem_mergeSort→sR, length_erase_of_mem→nK, getElem?_cons_succ→nM, pairwise_mergeSort→nY, nodup_range→nZ, getElem?_set_self→n9, range_succ→lN, singleton_append→lQ, length_mergeSort→lW, mem_erase_of_ne→xH, filter_sublist→xN, mergeSort_perm→xO, length_pos_iff→xP, nil_perm→xR, zip_cons_cons→xW, map_singleton→x9, map_set→aQ, find?_append→aT, drop_length→aX, forIn_cons→bA, sum_append→bK, drop_zero→bO, perm_cons→bS, all_cons→eC, take_nil→eG, drop_nil→eI, map_nil→eL
open Nat renaming le_refl→kN, le_trans→mF, ne_of_lt→mK, zero_le→mM, lt_of_lt_of_le→mU, le_succ→g4, mul_le_mul_right→g5, add_mul→dA, lt_succ_of_lt→dL, lt_of_le_of_lt→dW, lt_irrefl→d6, one_mul→rD, ne_of_gt→rM, lt_succ_self→rO, mul_comm→wQ, add_le_add_right→cO, succ_mul→cP, le_of_lt→c6, le_of_eq→c7, mod_eq_of_lt→pP, mul_add_mod→pZ, eq_of_mul_eq_mul_right→sQ, le_add_right→nO, not_lt→lE, zero_add→lJ, div_lt_iff_lt_mul→lZ, lt_of_succ_lt→aI, mul_mod_left→aW, not_lt_zero→bD
open Bool renaming false_ne_true→kO, and_eq_true→mR, false_eq_true→dF, eq_iff_iff→rX, not_eq_true'→r9, or_eq_true→wT, eq_false_iff→aJ, and_false→bR, true_and→eD
open Option.some renaming inj→kU
open Array renaming length_toList→k9, getElem?_eq_some_iff→cK, getElem?_eq_none→pF, toList_inj→pM, getD_eq_getD_getElem?→sE, perm_iff_toList_perm→sO, getElem?_eq_getElem→sT, toList_map→nP, getElem?_toList→lU, append_assoc→xU, toList_push→aP, map_map→eE
open Int renaming toNat_natCast→mI, le_refl→gQ, natCast_ediv→dG, natCast_mul→dS, eq_ofNat_of_zero_le→rG, le_trans→sD, le_of_lt→sF, mul_nonneg→xB, emod_lt_of_pos→xZ, emod_nonneg→a9, natCast_add→bJ, mul_le_mul→bT
open Option renaming map_eq_some_iff→mO, isSome_iff_exists→cU, bind_some→pL, isSome_map→aH, map_some→bC
open PySem.F renaming plain_min_loop→m9, plainAttrs_list→dH, entry_min_loop→dN, slot_list_append→rB, type_list_append→rC, called_set→wR, slot_dict_itemiterator_iter→cX, plainAttrs_dict→nL, slot_dict_items→nU, slot_dict_pop→lP, slot_set_iter→lT, plain_min→aR, entry_min→aS, kind_min→aY, slot_int_rmul→a8, plain_set_new→bI
open PySem.Around renaming under_plainId→gR, frames_deeper→l8
open PySem.Obj renaming data_mapFields→gT, isFreed_of_fields→dB, cls_mapFields→sX
open PySem.W renaming kia_one→gW, mg_of→g3, mg_none_of→rN, methodCall_KW→rQ, callWith_K→wP, looks_findIn→cI, cellsFrom_some→c8, any_some→pK, plainGet_of→p6, callWith_K0→p7, check_slot→xY, make_core→aD, kitx_list→aE, kitx_dict→aF, makes_of→aU, codeHd_of_K→a0
open List.Pairwise renaming filter→g7, sublist→lY
open PySem.PassesOwn renaming never→dD, leaving→nH
open PySem.BindsTo renaming of_defaults→rL
open Decidable renaming byContradiction→rU
open Ne renaming symm→wM
open PyProof.Rows renaming get?_update_seq→wU, listUpdate_at→wY, callWith_type1→cC, seqEpoch_at→sZ, subscriptTail_builtinR→lB, size_push'→lF, entry_list_sort→lM, slot_list_sort→xD, getElem?_mirror_all→xL, listItems_at→aL, pairsOf_size→aM, plain_sorted→aN, entry_sorted→aO, kind_sorted→aZ, callWith_kw→a7
open PySem.Heap.SameBut renaming update→cT, refl→aK
open PyProof.Rows.F renaming plain_set_update_loop→cZ, entry_set_update_loop→nV
open PySem.Calls renaming callWith_builtin→c9, Name_function_global→sI, call_function_entry→sS, evalArgs_plain→xA, spliced_cons→xV, spliced_nil→aG
open PySem.SeqAt.EqAt renaming int_int→sK, same→lL, int_str→xS, str_int→xT, of_refs→x6
open Sum.inl renaming inj→sU
open PySem.Walks renaming list→lI
open PySem.Value renaming isStrOf_shape→xI, isInt_shape→aA
open PySem.SeqAt.RcNeAt renaming tuples→xK, lists→x8
open PySem.Paired renaming length→xQ
open PySem.W.Looks renaming ld→aV, of_pure→eO, here→eQ
open Array.Perm renaming refl→bE
open StateT renaming run_pure→bG
open List.Perm renaming of_eq→bH, refl→bN
open PySem.EqMixed renaming eq_bool_str→bU, eq_str_bool→bV, ne_bool_str→bW, ne_str_bool→bX, eq_int_str→bY, eq_str_int→bZ, ne_int_str→b9, ne_str_int→eA
open Iff renaming rfl→eN
set_option genSizeOf false
namespace L2
open PySem PySem.Spec PyProof.Rows
noncomputable abbrev Key:=Sum Int Str
noncomputable def q6H:Key→Value→Bool
| .inl k,v=>Value.isInt k v
| .inr x,v=>Value.isStrOf x v
noncomputable def keyH(w:World):Key→Int
| .inl k=>hashInt k
| .inr x=>hashStr w x
theorem jY:∀{k:Key} {v:Value},q6H k v=true→(∃i t,k=Sum.inl i∧v=Value.int i t)∨(∃x t,k=Sum.inr x∧v=Value.str x t)
| .inl i,v,h=>by obtain⟨t,e⟩:=aA (k:=i) (v:=v) h;exact .inl ⟨i,t,rfl,e⟩
| .inr x,v,h=>by obtain⟨t,e⟩:=xI (x:=x) (v:=v) h;exact .inr ⟨x,t,rfl,e⟩
theorem qC0(i:Int)(t:Tok):q6H (.inl i) (.int i t)=true:=by simp[q6H,Value.isInt]
theorem qC1(x:Str)(t:Tok):q6H (.inr x) (.str x t)=true:=by simp[q6H,Value.isStrOf]
theorem qHK(a b:Int):decide ((Sum.inl a:Key)=Sum.inl b)=(a==b):=by(
by_cases e:a=b
·subst e;simp
have h:¬(Sum.inl a:Key)=Sum.inl b:=λq=>e (sU q)
rw[kE h]
exact(rJ.mpr e).symm)
theorem qHL(a b:Str):decide ((Sum.inr a:Key)=Sum.inr b)=decide (a=b):=by(
by_cases e:a=b
·subst e;simp
have h:¬(Sum.inr a:Key)=Sum.inr b:=λq=>e (Sum.inr.inj q)
rw[kE h,kE e])
theorem qHM(a:Int)(b:Str):decide ((Sum.inl a:Key)=Sum.inr b)=false:=kE (λq=>nomatch q)
theorem qHN(a:Str)(b:Int):decide ((Sum.inr a:Key)=Sum.inl b)=false:=kE (λq=>nomatch q)
noncomputable def jW(prog:Program)(w:World):PySem.KeyKind prog w Key where
is:=q6H
hash:=keyH w
inj:=λv a b ha hb=>by
 rcases jY ha with⟨i,t,rfl,rfl⟩|⟨x,t,rfl,rfl⟩
 ·rcases jY hb with⟨j,u,rfl,e⟩|⟨y,u,rfl,e⟩
  ·injection e with e1 _;rw[e1]
  exact nomatch e
 rcases jY hb with⟨j,u,rfl,e⟩|⟨y,u,rfl,e⟩
 ·exact nomatch e
 injection e with e1 _;rw[e1]
byValue:=λk v h=>by rcases jY h with⟨i,t,rfl,rfl⟩|⟨x,t,rfl,rfl⟩<;>rfl
pyHash:=λhv h=>by
 rcases jY hv with⟨i,t,rfl,rfl⟩|⟨x,t,rfl,rfl⟩
 ·exact wpAny_pyHash_int h
 exact wpAny_pyHash_str h
eqBool:=λhu hv h=>by
 rcases jY hu with⟨i,t,rfl,rfl⟩|⟨x,t,rfl,rfl⟩
 ·rcases jY hv with⟨j,u,rfl,rfl⟩|⟨y,u,rfl,rfl⟩
  ·rw[qHK]at h;exact wpAny_eqBool_int h
  rw[qHM]at h;exact xS i t y u _ _ _ _ h
 rcases jY hv with⟨j,u,rfl,rfl⟩|⟨y,u,rfl,rfl⟩
 ·rw[qHN]at h;exact xT x t j u _ _ _ _ h
 rw[qHL]at h;exact wpAny_eqBool_str h
«strs»:=λk x t v h=>by
 rcases jY h with⟨i,u,rfl,e⟩|⟨y,u,rfl,e⟩
 ·exact nomatch e
 injection e with e1 _
 subst e1;cases v<;>rfl
theorem q8G(prog:Program)(w:World)(i:Int)(t:Tok):(jW prog w).is (.inl i) (.int i t)=true:=qC0 i t
theorem q8H(prog:Program)(w:World)(x:Str)(t:Tok):(jW prog w).is (.inr x) (.str x t)=true:=qC1 x t
inductive V where
|non|bl (b:Bool)|int (i:Int)|str (x:Str)|byt (b:Array UInt8)|flt (b:UInt64)|ref (a:Addr)|ty (n:String)
deriving DecidableEq
noncomputable def RelV:V→Value→Prop
| .non,u=>u=Value.none
| .bl b,u=>u=Value.bool b
| .int i,u=>∃t,u=Value.int i t
| .str x,u=>∃t,u=Value.str x t
| .byt b,u=>∃t,u=Value.bytes b t
| .flt b,u=>∃t,u=Value.float b t
| .ref a,u=>u=Value.ref a
| .ty n,u=>u=Value.type n
noncomputable abbrev Vals:List V→List Value→Prop:=Paired RelV
theorem Vals.length{xs:List V}{us:List Value}(r:Vals xs us):xs.length=us.length:=xQ r
theorem Vals.get:∀{xs:List V} {us:List Value} {i:Nat} {x:V},Vals xs us→xs[i]?=some x→∃u,us[i]?=some u∧RelV x u
|_,_,_,_,.nil,e=>by simp at e
|_,_,0,_,.cons r _,e=>by simp at e;subst e;exact⟨_,rfl,r⟩
|_,_,i+1,x,.cons _ t,e=>by obtain⟨u,h1,h2⟩:=Vals.get (i:=i) (x:=x) t (by simpa using e);exact⟨u,by simpa using h1,h2⟩
theorem Vals.set{x:V}{u:Value}(r:RelV x u):∀{xs:List V} {us:List Value} (i:Nat),Vals xs us→Vals (xs.set i x) (us.set i u)
|_,_,_,.nil=>.nil
|_,_,0,.cons _ t=>.cons r t
|_,_,i+1,.cons q t=>.cons q (Vals.set r i t)
theorem Vals.append:∀{xs ys:List V} {us ws:List Value},Vals xs us→Vals ys ws→Vals (xs++ys) (us++ws)
|_,_,_,_,.nil,s=>s
|_,_,_,_,.cons r t,s=>.cons r (Vals.append t s)
noncomputable def RelO:Option V→Option Value→Prop
|some v,some u=>RelV v u
|none,none=>True
|_,_=>False
noncomputable def KV{κ:Type}:List (κ×V)→List (κ×Value)→Prop:=Paired λ(p:κ×V) (q:κ×Value)=>p.1=q.1∧RelV p.2 q.2
noncomputable def kV:Key→V
| .inl i=>.int i
| .inr x=>.str x
inductive HO where
|lst (xs:List V)
|tup (xs:List V)
|dK (kvs:List (Key×V))|dT (kvs:List (List Key×V))
|set (S:Int→Bool) (n:Nat)
|ins (C dx:Addr) (fs:List (Str×V))
|own (x:Addr)
|xd (fs:List (Str×V))
|met (f x:Addr)
|rng (lo hi:Int)
|frz (o:Obj) (u:HO)
|tbl (ps:Array Value)
|ext (φ:Heap→Prop)
noncomputable abbrev Hp:=Addr→Option HO
noncomputable def upd(H:Hp)(a:Addr)(o:HO):Hp:=λb=>if b=a then some o else H b
theorem qI{H:Hp}{a:Addr}{o:HO}:upd H a o a=some o:=by unfold upd;rw[kI rfl]
theorem qC{H:Hp}{a b:Addr}{o:HO}(h:b≠a):upd H a o b=H b:=by unfold upd;rw[kF h]
theorem q7C{H:Hp}{a:Addr}{o u:HO}:upd (upd H a o) a u=upd H a u:=by funext b;unfold upd;split<;>rfl
theorem jP{H:Hp}{a b:Addr}{o u:HO}(h:H a=some o)(h':H b=some u)(d:o≠u):a≠b:=by intro e;subst e;rw[h]at h';exact d (kU h')
theorem qG{H:Hp}{a b:Addr}{o:HO}(h:H a=some o)(h':H b=none):a≠b:=by intro e;subst e;rw[h]at h';cases h'
section
variable(P:Program)(w:World)
noncomputable def jA(H:Hp)(h:Heap)(a:Addr):HO→Prop
| .lst xs=>xs.length≤sizeLine∧∃(its:List Value) (n:Nat),Vals xs its∧h.get? a=some { cls:=.type "list",data:=.seq its.toArray n }
| .tup xs=>xs.length≤sizeLine∧∃its:List Value,Vals xs its∧IsTup h a its.toArray
| .dK kvs=>kvs.length≤sizeLine∧(a==sysModules)=false∧∃vs,KV kvs vs∧h.DictOf (jW P w) a vs
| .dT kvs=>kvs.length≤sizeLine∧(a==sysModules)=false∧∃xs:List (List Key×Addr×Value),Paired (λ(p:List Key×V) (q:List Key×Addr×Value)=>p.1=q.1∧H q.2.1=some (.tup (p.1.map kV))∧RelV p.2 q.2.2) kvs xs∧∃o es ep,h.get? a=some o∧o.ExactDict∧o.data=.dict es ep∧es.toList=xs.map (entryOfKey (tupleKind (jW P w)))∧(xs.map (·.1)).Nodup
| .set S n=>h.SetOf (intKind P w) a S n
| .ins C dx fs=>H dx=some (.own a)∧fs.length≤1000∧dx≠a∧h.get? a=some (PySem.W.instObj C dx)∧∃mA,h.Ns1 dx mA∧(∀f,RelO (fs.lookup f) (mA f))∧PySem.Within mA (fs.map (·.1))
| .own _=>∃o,h.get? a=some o
| .xd fs=>∃mA,h.Ns1 a mA∧∀f,RelO (fs.lookup f) (mA f)
| .rng lo hi=>∃t u v,h.get? a=some { cls:=.type "range",data:=.fields #[.int lo t,.int hi u,.int 1 v] }
| .frz o u=>h.get? a=some o∧jA H h a u
| .tbl ps=>h.get? a=some { cls:=.none,data:=.fields ps }
| .met f x=>h.get? a=some (PySem.W.methodObj (.ref f) (.ref x))
| .ext φ=>φ h∧(∃o,h.get? a=some o)∧∀h1 h2:Heap,φ h1→(∀o,h1.get? a=some o→h2.get? a=some o)→φ h2
noncomputable def HOk(H:Hp)(h:Heap):Prop:=∀a o,H a=some o→jA P w H h a o
end
section
variable{P:Program}{w:World}{H H':Hp}{h h':Heap}{a:Addr}{o:HO}
theorem jA.lt(x:jA P w H h a o):a<h.objs.size:=by(
cases o with
|lst xs=>obtain⟨_,_,_,_,e⟩:=x;exact kP e
|tup xs=>obtain⟨_,_,_,p⟩:=x;exact p.lt
|dK kvs=>obtain⟨_,_,_,_,o,_,_,e,_⟩:=x;exact kP e
|dT kvs=>obtain⟨_,_,_,_,o,_,_,e,_⟩:=x;exact kP e
|set S n=>obtain⟨o,_,_,_,e,_⟩:=x;exact kP e
|ins C dx fs=>obtain⟨_,_,_,e,_⟩:=x;exact kP e
|own y=>obtain⟨_,e⟩:=x;exact kP e
|xd fs=>obtain⟨_,⟨_,_,_,e,_⟩,_⟩:=x;exact kP e
|rng lo hi=>obtain⟨_,_,_,e⟩:=x;exact kP e
|frz ob u=>obtain⟨e,_⟩:=x;exact kP e
|tbl ps=>exact kP (show h.get? a=some _ from x)
|met f y=>exact kP (show h.get? a=some _ from x)
|ext φ=>obtain⟨_,⟨_,e⟩,_⟩:=x;exact kP e)
theorem Paired.mapP{α β:Type}{F G:α→β→Prop}:∀{l₁:List α} {l₂:List β},Paired F l₁ l₂→(∀a b,F a b→G a b)→Paired G l₁ l₂
|_,_,.nil,_=>.nil
|_,_,.cons r t,f=>.cons (f _ _ r) (Paired.mapP t f)
theorem jA.stay(x:jA P w H h a o)(k:∀b u,(b=a∨H b=some (.own a))→h.get? b=some u→h'.get? b=some u)
 (ho:∀b,H b=some (.own a)→H' b=some (.own a)) (ht:∀b xs,H b=some (.tup xs)→H' b=some (.tup xs)):jA P w H' h' a o:=by(
induction o with
|lst xs=>obtain⟨z,its,n,r,e⟩:=x;exact⟨z,its,n,r,k _ _ (.inl rfl) e⟩
|tup xs=>obtain⟨z,its,r,ob,e,c⟩:=x;exact⟨z,its,r,ob,k _ _ (.inl rfl) e,c⟩
|dK kvs=>obtain⟨z,y,vs,r,ob,es,ep,e,c⟩:=x;exact⟨z,y,vs,r,ob,es,ep,k _ _ (.inl rfl) e,c⟩
|dT kvs=>obtain⟨z,y,xs,r,ob,es,ep,e,c⟩:=x;exact⟨z,y,xs,Paired.mapP r λp q z=>⟨z.1,ht _ _ z.2.1,z.2.2⟩,ob,es,ep,k _ _ (.inl rfl) e,c⟩
|set S n=>obtain⟨ob,es,ep,t,e,c⟩:=x;exact⟨ob,es,ep,t,k _ _ (.inl rfl) e,c⟩
|ins C dx fs=>obtain⟨d,z,ne,e,mA,⟨od,es,ep,e2,c⟩,r⟩:=x;exact⟨ho _ d,z,ne,k _ _ (.inl rfl) e,mA,⟨od,es,ep,k _ _ (.inr d) e2,c⟩,r⟩
|own y=>obtain⟨ob,e⟩:=x;exact⟨ob,k _ _ (.inl rfl) e⟩
|xd fs=>obtain⟨mA,⟨od,es,ep,e,c⟩,r⟩:=x;exact⟨mA,⟨od,es,ep,k _ _ (.inl rfl) e,c⟩,r⟩
|rng lo hi=>obtain⟨t,u,v,e⟩:=x;exact⟨t,u,v,k _ _ (.inl rfl) e⟩
|frz ob u ih=>obtain⟨e,q⟩:=x;exact⟨k _ _ (.inl rfl) e,ih q⟩
|tbl ps=>have e:h.get? a=some { cls:=.none,data:=.fields ps }:=x;show h'.get? a=some { cls:=.none,data:=.fields ps };exact k a _ (.inl rfl) e
|met f y=>have e:h.get? a=some (PySem.W.methodObj (.ref f) (.ref y)):=x;show h'.get? a=some (PySem.W.methodObj (.ref f) (.ref y));exact k a _ (.inl rfl) e
|ext φ=>obtain⟨p,⟨o,e⟩,st⟩:=x;exact⟨st _ _ p λo q=>k _ _ (.inl rfl) q,⟨o,k _ _ (.inl rfl) e⟩,st⟩)
theorem HOk.lt(x:HOk P w H h)(e:H a=some o):a<h.objs.size:=(x a o e).lt
theorem HOk.fresh(x:HOk P w H h)(e:h.objs.size≤a):H a=none:=by(
cases q:H a with
|none=>rfl
|some u=>exact absurd (mU (x.lt q) e) (d6 _))
theorem HOk.kept(x:HOk P w H h)(k:∀b u,h.get? b=some u→h'.get? b=some u):HOk P w H h':=λa o e=>(x a o e).stay (λb u _ q=>k b u q) (λ_ q=>q) λ_ _ q=>q
theorem HOk.laid(x:HOk P w H h)(k:∀b u,h.get? b=some u→h'.get? b=some u)(hp:h.objs.size≤a)(new:jA P w (upd H a o) h' a o):HOk P w (upd H a o) h':=λb u e=>by(
have hn:=x.fresh hp
by_cases hb:b=a
·subst hb;rw[qI]at e;cases e;exact new
rw[qC hb]at e
exact(x b u e).stay (λc v _ q=>k c v q) (λc q=>by rw[qC (qG q hn)];exact q) λc xs q=>by rw[qC (qG q hn)];exact q)
end
noncomputable def Rd(H:Hp)(a:Addr)(u:HO):Prop:=H a=some u∨∃o,H a=some (.frz o u)
theorem Rd.ok{P:Program}{w:World}{H:Hp}{h:Heap}{a:Addr}{u:HO}(r:Rd H a u)(x:HOk P w H h):jA P w H h a u:=by(
rcases r with r|⟨o,r⟩
·exact x a u r
obtain⟨_,q⟩:=x a _ r
exact q)
noncomputable def Mut:Option HO→Prop
|some (.lst _)=>True
|some (.dK _)=>True
|some (.dT _)=>True
|some (.set _ _)=>True
|some (.ins _ _ _)=>True
|some (.ext _)=>True
|_=>False
section
variable{P:Program}{w:World}{H:Hp}{h h':Heap}{x e:Addr}{o':HO}
theorem HOk.write(ok:HOk P w H h)(mu:Mut (H x))(he:e=x∨H e=some (.own x))(k:∀b u,b≠e→h.get? b=some u→h'.get? b=some u)(heo:∃u,h'.get? e=some u)
 (new:jA P w (upd H x o') h' x o'):HOk P w (upd H x o') h':=λb u q=>by(
have nown:∀c y,H c=some (.own y)→c≠x:=λc y r z=>by subst z;rw[r]at mu;exact mu
have ntup:∀c xs,H c=some (.tup xs)→c≠x:=λc xs r z=>by subst z;rw[r]at mu;exact mu
by_cases hb:b=x
·subst hb;rw[qI]at q;cases q;exact new
rw[qC hb]at q
by_cases hbe:b=e
·have q':H b=some (.own x):=by
  rcases he with z|z
  ·exact absurd (hbe.trans z) hb
  rw[hbe];exact z
 rw[q]at q';cases q';obtain⟨v,hv⟩:=heo;exact⟨v,by rw[hbe];exact hv⟩
refine(ok b u q).stay (λc v hc r=>k c v ?_ r) (λc r=>by rw[qC (nown c b r)];exact r) λc xs r=>by rw[qC (ntup c xs r)];exact r
rcases hc with rfl|hc
·exact hbe
rintro rfl
rcases he with z|z
·exact nown c b hc z
rw[hc]at z;cases z;exact hb rfl)
end
structure Un(fs ex:List Addr)(H H':Hp)(h h':Heap):Prop where
keep:∀b o,h.get? b=some o→H b=none→b∉fs→b∉ex→h'.get? b=some o
slot:∀b o,h.get? b=some o→H b=none→b∈fs→b∉ex→∃sl,h'.get? b=some { o with slots:=sl }
free:∀b o,h.get? b=some o→H b=none→b∉ex→H' b=none
there:∀b o,h.get? b=some o→b∉ex→∃o',h'.get? b=some o'
tups:∀b xs,H b=some (.tup xs)→H' b=some (.tup xs)
frzs:∀b o u,H b=some (.frz o u)→H' b=some (.frz o u)
tbls:∀b ps,H b=some (.tbl ps)→∃more,H' b=some (.tbl (ps++more))
section
variable{fs fs' ex ex':List Addr}{H H1 H2:Hp}{h h1 h2 h':Heap}{a x e:Addr}{o:HO}
theorem Un.any(u:Un fs ex H H1 h h1){b:Addr}{ob:Obj}(q:h.get? b=some ob)(n:H b=none)(hx:b∉ex):∃sl,h1.get? b=some { ob with slots:=sl }:=by(
by_cases hb:b∈fs
·exact u.slot b ob q n hb hx
exact⟨ob.slots,u.keep b ob q n hb hx⟩)
theorem Un.trans(a:Un fs ex H H1 h h1)(b:Un fs ex H1 H2 h1 h2):Un fs ex H H2 h h2 where
keep:=λc ob q n hc hx=>b.keep c ob (a.keep c ob q n hc hx) (a.free c ob q n hx) hc hx
slot:=λc ob q n hc hx=>by obtain⟨sl,e1⟩:=a.slot c ob q n hc hx;obtain⟨sl',e2⟩:=b.slot c _ e1 (a.free c ob q n hx) hc hx;exact⟨sl',e2⟩
free:=λc ob q n hx=>by obtain⟨o',e1⟩:=a.there c ob q hx;exact b.free c o' e1 (a.free c ob q n hx) hx
there:=λc ob q hx=>by obtain⟨o',e1⟩:=a.there c ob q hx;exact b.there c o' e1 hx
tups:=λc xs q=>b.tups c xs (a.tups c xs q)
frzs:=λc ob xs q=>b.frzs c ob xs (a.frzs c ob xs q)
tbls:=λc ps q=>by obtain⟨m1,e1⟩:=a.tbls c ps q;obtain⟨m2,e2⟩:=b.tbls c _ e1;exact⟨m1++m2,by rw[e2,xU]⟩
theorem Un.kept(k:∀b u,h.get? b=some u→h'.get? b=some u):Un fs ex H H h h':=⟨λb ob q _ _ _=>k b ob q,λb ob q _ _ _=>⟨ob.slots,k b ob q⟩,λ_ _ _ n _=>n,λb ob q _=>⟨ob,k b ob q⟩,λ_ _ q=>q,λ_ _ _ q=>q,λ_ ps q=>⟨#[],by rw[q];simp⟩⟩
theorem Un.refl:Un fs ex H H h h:=Un.kept λ_ _ q=>q
theorem Un.laid(k:∀b u,h.get? b=some u→h'.get? b=some u)(hp:h.objs.size≤a)(hn:H a=none):Un fs ex H (upd H a o) h h' where
keep:=λb u q _ _ _=>k b u q
slot:=λb u q _ _ _=>⟨u.slots,k b u q⟩
free:=λb u q n _=>by rw[qC (mK (mU (kP q) hp))];exact n
there:=λb u q _=>⟨u,k b u q⟩
tups:=λb xs q=>by rw[qC (qG q hn)];exact q
frzs:=λb u xs q=>by rw[qC (qG q hn)];exact q
tbls:=λb ps q=>⟨#[],by rw[qC (qG q hn),q];simp⟩
theorem Un.write(mu:Mut (H x))(he:e=x∨H e=some (.own x))(k:∀b u,b≠e→h.get? b=some u→h'.get? b=some u)(heo:∃u,h'.get? e=some u):Un fs ex H (upd H x o) h h':=by(
have hx:∀b,H b=none→b≠x:=λb n z=>by subst z;rw[n]at mu;exact mu
have hb:∀b,H b=none→b≠e:=λb n z=>by
 subst z;rcases he with r|r
 ·exact hx b n r
 rw[n]at r;cases r
have hm:∀b u,H b=some u→¬Mut (some u)→b≠x:=λb u q nm z=>by subst z;rw[q]at mu;exact nm mu
refine⟨λb u q n _ _=>k b u (hb b n) q,λb u q n _ _=>⟨u.slots,k b u (hb b n) q⟩,λb u q n _=>by rw[qC (hx b n)];exact n,λb u q _=>?_,λb xs q=>by rw[qC (hm b _ q λz=>z)];exact q,λb u xs q=>by rw[qC (hm b _ q λz=>z)];exact q,λb ps q=>⟨#[],by rw[qC (hm b _ q λz=>z),q];simp⟩⟩
by_cases hbe:b=e
·subst hbe;exact heo
exact⟨u,k b u hbe q⟩)
end
noncomputable def trk(h:Heap)(H:Hp):List Addr:=(List.range h.objs.size).filter λa=>(H a).isSome
noncomputable def hidT(h:Heap)(H:Hp):Heap:=PySem.W.hideAll h (trk h H)
theorem q6I(h:Heap)(H:Hp):(hidT h H).objs.size=h.objs.size:=PySem.W.hideAll_size _ _
theorem q4P{h:Heap}{H:Hp}{b:Addr}{o:Obj}(e:h.get? b=some o)(n:H b=none):(hidT h H).get? b=some o:=PySem.W.hideAll_get _ e λhm=>by  have q:(H b).isSome=true:=(mP.mp hm).2;rw[n]at q;simp at q
theorem qAW{h:Heap}{H:Hp}{b:Addr}{o:Obj}(e:(hidT h H).get? b=some o):h.get? b=some o∧H b=none:=by(
have e':h.get? b=some o:=PySem.W.of_hideAll (trk h H) e
refine⟨e',?_⟩
cases q:H b with
|none=>rfl
|some x=>have hm:b∈trk h H:=mP.mpr ⟨mQ.mpr (kP e'),by simp[q]⟩;have z:(hidT h H).get? b=none:=PySem.W.hideAll_none (trk h H) hm;rw[z]at e;cases e)
structure Mod(K:PySem.W.Frag)(mg:Str→Option Value)(base:Heap):Prop where
kin:K.In base
glob:base.Ns mainGlobals mg
blt:∃mb,base.Ns builtinsNs mb∧∀x:Str,x≠"__name__"→mb x=bootBuiltins x
nolimit:base.NoLimit
structure Cx where
prog:Program
w:World
K:PySem.W.Frag
mg:Str→Option Value
base:Heap
A:Around
N:List Str
s₀:Shared
H₀:Hp
env:Env
outer:List Env
stack:List Env
ex:List Addr
fn:Str→Bool
calm:Bool
pn:List (Addr×Obj)
xe:Value→Shared→Prop
noncomputable def frs(l:List Env):List Addr:=l.filterMap (·.frame)
noncomputable abbrev Cx.fs(X:Cx):List Addr:=frs X.outer
noncomputable def Vis(sc:Scope)(x:Str):Prop:=sc.names.lookup x=some .local∨sc.names.lookup x=some .cell∨sc.names.lookup x=some .free
noncomputable def Loc(sc:Scope)(x:Str):Prop:=sc.names.lookup x=some .local∨sc.names.lookup x=some .cell
noncomputable def Look(env:Env)(h:Heap)(m:Str→Option Value)(x:Str)(u:Value):Prop:=(env.kindOf x=some .local∧m x=some u)∨((env.kindOf x=some .cell∨env.kindOf x=some .free)∧∃c,env.cells.lookup x=some c∧h.IsCell c (some u))
structure Cx.Ok(X:Cx):Prop where
mod:Mod X.K X.mg X.base
kind:X.env.scope.kind=.function
glob:X.env.globals=mainGlobals
blt:X.env.builtins=builtinsNs
above:X.s₀.heap.objs.size≤X.env.locals
inj:∀x y c,X.env.cells.lookup x=some c→X.env.cells.lookup y=some c→x=y
has:∀x,(X.env.kindOf x=some .cell∨X.env.kindOf x=some .free)→∃c,X.env.cells.lookup x=some c
cab:∀x c,X.fn x=true→X.env.cells.lookup x=some c→X.s₀.heap.objs.size≤c
hd:X.calm=true→X.A.handled=none
frames:X.A.frames=some X.stack
stk:X.stack=X.outer∨(X.stack=X.env::X.outer∧X.env.frame=some X.env.locals)
exf:∀b∈X.ex,b≠X.env.locals∧∀x c,X.env.cells.lookup x=some c→c≠b
bs:∀b o,X.base.get? b=some o→X.s₀.heap.get? b=some o∧X.H₀ b=none
bsz:X.base.objs.size≤X.s₀.heap.objs.size
noex:∀b o,X.base.get? b=some o→b∉X.ex
exfs:∀b∈X.ex,b∉X.fs
funs:X.s₀.heap.FunFrames X.base X.outer
frf:∀b∈X.fs,X.H₀ b=none
structure Inv(X:Cx)(pins:List (Addr×Obj))(σ:List (Option V))(H:Hp)(s:Shared):Prop where
ok:X.Ok
os:s.os=X.s₀.os
bare:AllBare s.gens
base:Un X.fs X.ex X.H₀ H X.s₀.heap s.heap
loc:∃m,s.heap.Ns X.env.locals m∧∀(i:Nat) (x:Str) (v:V),X.N[i]?=some x→σ[i]?=some (some v)→Vis X.env.scope x→∃u,RelV v u∧Look X.env s.heap m x u
cell:∀x c,X.env.cells.lookup x=some c→∃v,s.heap.IsCell c v
free:H X.env.locals=none
freeC:∀x c,X.env.cells.lookup x=some c→H c=none
pin:∀p∈X.pn++pins,s.heap.get? p.1=some p.2∧H p.1=none∧p.1≠X.env.locals∧p.1∉X.fs∧∀v,p.2.data≠ .cell v
hok:HOk X.prog X.w H s.heap
len:σ.length=X.N.length
section
variable{X:Cx}{pins:List (Addr×Obj)}{σ:List (Option V)}{H H':Hp}{s:Shared}{h':Heap}
theorem Cx.Ok.nofr(ok:X.Ok){b:Addr}{o:Obj}(e:X.base.get? b=some o):b∉X.fs:=λhb=>by have:=(ok.funs.mem hb).1;rw[e]at this;cases this
theorem Inv.bs(I:Inv X pins σ H s):∀b o,X.base.get? b=some o→s.heap.get? b=some o∧H b=none:=λb o e=>⟨I.base.keep b o (I.ok.bs b o e).1 (I.ok.bs b o e).2 (I.ok.nofr e) (I.ok.noex b o e),I.base.free b o (I.ok.bs b o e).1 (I.ok.bs b o e).2 (I.ok.noex b o e)⟩
theorem Inv.bk(I:Inv X pins σ H s):∀b o,X.base.get? b=some o→s.heap.get? b=some o:=λb o e=>(I.bs b o e).1
theorem Inv.mod(I:Inv X pins σ H s):Mod X.K X.mg X.base:=I.ok.mod
theorem Inv.kIn(I:Inv X pins σ H s):X.K.In s.heap:=I.ok.mod.kin.keeps I.bk
theorem Inv.fr(I:Inv X pins σ H s):∃m,Fr X.base X.env.locals s.heap m:=let⟨m,hn,_⟩:=I.loc
 ⟨m,hn,I.bk,mF I.ok.bsz I.ok.above⟩
theorem Inv.lt(I:Inv X pins σ H s):X.env.locals<s.heap.objs.size:=let⟨_,hn,_⟩:=I.loc;hn.lt
theorem Inv.sz(I:Inv X pins σ H s):X.s₀.heap.objs.size≤s.heap.objs.size:=mF I.ok.above (c6 I.lt)
theorem Inv.nofs(I:Inv X pins σ H s){a:Addr}(h:s.heap.objs.size≤a):a∉X.fs:=λhb=>by obtain⟨_,o,ho,_⟩:=I.ok.funs.mem hb;exact absurd (mU (kP ho) (mF I.sz h)) (d6 _)
theorem Inv.cne(I:Inv X pins σ H s):∀x c,X.env.cells.lookup x=some c→c≠X.env.locals:=λx c e z=>by obtain⟨v,o,ho,hd⟩:=I.cell x c e;obtain⟨m,⟨o',es,ep,ho',hd',_⟩,_⟩:=I.loc;rw[z,ho']at ho;cases ho;rw[hd']at hd;cases hd
theorem Inv.funs(I:Inv X pins σ H s):s.heap.FunFrames X.base X.outer:=by(
have all:∀(l:List Env),(∀b∈frs l,b∈X.fs)→X.s₀.heap.FunFrames X.base l→s.heap.FunFrames X.base l:=by
 intro l;induction l with
 |nil=>intro _ _;trivial
 |cons env r ih=>intro hs hl;obtain⟨hk,⟨L,o,hf,hn,ho,hd⟩,hr⟩:=hl;have hL:L∈X.fs:=hs L (by unfold frs;rw[wC,hf];exact kX);obtain⟨sl,e⟩:=I.base.slot L o ho (I.ok.frf L hL) hL λz=>I.ok.exfs L z hL;exact⟨hk,⟨L,_,hf,hn,e,hd⟩,ih (λb hb=>hs b (by unfold frs;rw[wC,hf];exact kC _ hb)) hr⟩
exact all X.outer (λ_ hb=>hb) I.ok.funs)
theorem Inv.stack(I:Inv X pins σ H s):s.heap.FunFrames X.base X.stack:=by(
rcases I.ok.stk with e|⟨e,hf⟩
·rw[e];exact I.funs
rw[e]
obtain⟨m,hn,_⟩:=I.loc
refine .cons (by rw[I.ok.kind];decide) hf hn ?_ I.funs
exact pR (mF I.ok.bsz I.ok.above))
theorem Inv.stkSub(I:Inv X pins σ H s):∀b∈frs X.stack,b∈X.env.locals::X.fs:=λb hb=>by(
rcases I.ok.stk with e|⟨e,hf⟩
·rw[e]at hb;exact kC _ hb
rw[e]at hb
unfold frs at hb
rw[wC,hf]at hb
exact hb)
theorem Inv.stkFree(I:Inv X pins σ H s):∀b∈frs X.stack,H b=none:=λb hb=>by(
rcases kM.mp (I.stkSub b hb)with e|hb
·rw[e];exact I.free
obtain⟨_,o,ho,_⟩:=I.ok.funs.mem hb
exact I.base.free b o ho (I.ok.frf b hb) λz=>I.ok.exfs b z hb)
theorem Inv.step{g':Array GenState}{t':Nat}{d':Drawn}{ch:List Addr}(I:Inv X pins σ H s)
 (hch:∀b∈ch,(b∈X.ex∨X.s₀.heap.objs.size≤b)∧b≠X.env.locals∧(∀x c,X.env.cells.lookup x=some c→c≠b)∧∀p∈X.pn++pins,p.1≠b)
 (keep:∀b o,b≠X.env.locals→b∉X.fs→b∉ch→s.heap.get? b=some o→H b=none→h'.get? b=some o)
 (slot:∀b o,b≠X.env.locals→b∈X.fs→b∉ch→s.heap.get? b=some o→H b=none→∃sl,h'.get? b=some { o with slots:=sl }) (free:∀b o,b∉ch→s.heap.get? b=some o→H b=none→H' b=none)
 (there:∀b o,b∉ch→s.heap.get? b=some o→∃o',h'.get? b=some o')
 (tups:∀b xs,H b=some (.tup xs)→H' b=some (.tup xs)) (frzs:∀b o u,H b=some (.frz o u)→H' b=some (.frz o u)) (tbls:∀b ps,H b=some (.tbl ps)→∃more,H' b=some (.tbl (ps++more)))
 (ns:∀m,s.heap.Ns X.env.locals m→h'.Ns X.env.locals m) (hok:HOk X.prog X.w H' h') (hg:AllBare g'):
 Inv X pins σ H' { s with heap:=h',gens:=g',drawn:=d',toks:=t' }:=by(
have neL:∀b o,X.s₀.heap.get? b=some o→b≠X.env.locals:=λb o e=>mK (mU (kP e) I.ok.above)
have neC:∀b o,X.s₀.heap.get? b=some o→b∉X.ex→b∉ch:=λb o e hx hb=>by
 rcases(hch b hb).1 with z|z
 ·exact hx z
 exact absurd (mU (kP e) z) (d6 _)
have cellK:∀x c,X.env.cells.lookup x=some c→∀v,s.heap.IsCell c v→h'.IsCell c v:=λx c e v ⟨o,ho,hd⟩=>by
 have nch:c∉ch:=λz=>(hch c z).2.2.1 x c e rfl;by_cases hc:c∈X.fs
 ·obtain⟨sl,q⟩:=slot c o (I.cne x c e) hc nch ho (I.freeC x c e);exact⟨_,q,hd⟩
 exact⟨o,keep c o (I.cne x c e) hc nch ho (I.freeC x c e),hd⟩
refine⟨I.ok,I.os,hg,⟨λb o e n hb hx=>?_,λb o e n hb hx=>?_,λb o e n hx=>?_,λb o e hx=>?_,λb xs e=>tups b xs (I.base.tups b xs e),λb o xs e=>frzs b o xs (I.base.frzs b o xs e),λb ps e=>?_⟩,?_,λx c e=>?_,?_,λx c e=>?_,λp hp=>?_,hok,I.len⟩
·exact keep b o (neL b o e) hb (neC b o e hx) (I.base.keep b o e n hb hx) (I.base.free b o e n hx)
·obtain⟨sl,e1⟩:=I.base.slot b o e n hb hx;obtain⟨sl',e2⟩:=slot b _ (neL b o e) hb (neC b o e hx) e1 (I.base.free b o e n hx);exact⟨sl',e2⟩
·obtain⟨o',e1⟩:=I.base.there b o e hx;exact free b o' (neC b o e hx) e1 (I.base.free b o e n hx)
·obtain⟨o',e1⟩:=I.base.there b o e hx;exact there b o' (neC b o e hx) e1
·obtain⟨m1,e1⟩:=I.base.tbls b ps e;obtain⟨m2,e2⟩:=tbls b _ e1;exact⟨m1++m2,by rw[e2,xU]⟩
·obtain⟨m,hn,hl⟩:=I.loc;refine⟨m,ns m hn,λi x v e1 e2 e3=>?_⟩;obtain⟨u,r,l⟩:=hl i x v e1 e2 e3;refine⟨u,r,?_⟩;rcases l with l|⟨k,c,e,z⟩
 ·exact .inl l
 exact .inr ⟨k,c,e,cellK x c e _ z⟩
·obtain⟨v,z⟩:=I.cell x c e;exact⟨v,cellK x c e v z⟩
·obtain⟨m,⟨o,_,_,ho,_⟩,_⟩:=I.loc;exact free _ o (λz=>(hch _ z).2.1 rfl) ho I.free
·obtain⟨v,o,ho,hd⟩:=I.cell x c e;exact free c o (λz=>(hch c z).2.2.1 x c e rfl) ho (I.freeC x c e)
obtain⟨e,n,ne,nf,d⟩:=I.pin p hp
have nch:p.1∉ch:=λz=>(hch p.1 z).2.2.2 p hp rfl
exact⟨keep p.1 p.2 ne nf nch e n,free p.1 p.2 nch e n,ne,nf,d⟩)
theorem Inv.un{t':Nat}(I:Inv X pins σ H s)(u:Un X.fs [] H H' s.heap h')(hok:HOk X.prog X.w H' h'):Inv X pins σ H' { s with heap:=h',toks:=t' }:=by obtain⟨m,⟨o,es,ep,ho,r⟩,_⟩:=id I.loc;obtain⟨sl,hL⟩:=u.any ho I.free (by simp);exact I.step (g':=s.gens) (d':=s.drawn) (ch:=[]) (λ_ z=>nomatch z) (λb o _ hb _ e n=>u.keep b o e n hb (by simp)) (λb o _ hb _ e n=>u.slot b o e n hb (by simp)) (λb o _ e n=>u.free b o e n (by simp)) (λb o _ e=>u.there b o e (by simp)) u.tups u.frzs u.tbls (λm' hm=>by obtain⟨o',es',ep',ho',r'⟩:=hm;rw[ho]at ho';cases ho';exact⟨_,es',ep',hL,r'⟩) hok I.bare
theorem Inv.call{g':Array GenState}{t':Nat}{d':Drawn}{ch:List Addr}(I:Inv X pins σ H s)(u:Un (frs X.stack) ch H H' s.heap h')(hok:HOk X.prog X.w H' h')(hg:AllBare g')
 (hch:∀b∈ch,(b∈X.ex∨X.s₀.heap.objs.size≤b)∧b≠X.env.locals∧(∀x c,X.env.cells.lookup x=some c→c≠b)∧∀p∈X.pn++pins,p.1≠b):
 Inv X pins σ H' { s with heap:=h',gens:=g',drawn:=d',toks:=t' }:=by obtain⟨m,⟨o,es,ep,ho,r⟩,_⟩:=id I.loc;obtain⟨sl,hL⟩:=u.any ho I.free λz=>(hch _ z).2.1 rfl;exact I.step (ch:=ch) hch (λb o hL hb hc e n=>u.keep b o e n (λz=>(kM.mp (I.stkSub b z)).elim hL hb) hc) (λb o _ _ hc e n=>u.any e n hc) (λb o hc e n=>u.free b o e n hc) (λb o hc e=>u.there b o e hc) u.tups u.frzs u.tbls (λm' hm=>by obtain⟨o',es',ep',ho',r'⟩:=hm;rw[ho]at ho';cases ho';exact⟨_,es',ep',hL,r'⟩) hok hg
theorem Inv.turned{t':Nat}{it:Addr}(I:Inv X pins σ H s)(k:∀b o,b≠it→s.heap.get? b=some o→h'.get? b=some o)(hn:H it=none)(hL:it≠X.env.locals)
 (h1:it∈X.ex∨X.s₀.heap.objs.size≤it) (h2:∀x c,X.env.cells.lookup x=some c→c≠it) (h3:∀p∈X.pn++pins,p.1≠it):Inv X pins σ H { s with heap:=h',toks:=t' }:=by(
have nit:∀b u,H b=some u→b≠it:=λb u e z=>by rw[z,hn]at e;cases e
refine I.step (g':=s.gens) (d':=s.drawn) (ch:=[it]) (λb hb=>?_) (λb o _ _ hc e _=>k b o (λz=>hc (by simp[z])) e) (λb o _ _ hc e _=>⟨o.slots,k b o (λz=>hc (by simp[z])) e⟩) (λ_ _ _ _ n=>n)
 (λb o hc e=>⟨o,k b o (λz=>hc (by simp[z])) e⟩) (λ_ _ e=>e) (λ_ _ _ e=>e) (λb ps e=>⟨#[],by rw[e];simp⟩) (λm hm=>?_) (λb u e=>?_) I.bare
·have e:b=it:=by simpa using hb
 subst e;exact⟨h1,hL,h2,h3⟩
·obtain⟨o,es,ep,ho,r⟩:=hm;exact⟨o,es,ep,k _ o (wM hL) ho,r⟩
refine(I.hok b u e).stay (λc v hc q=>k c v ?_ q) (λ_ q=>q) λ_ _ q=>q
rcases hc with z|z
·rw[z];exact nit b u e
exact nit c _ z)
theorem Inv.tok(I:Inv X pins σ H s)(t:Nat):Inv X pins σ H { s with toks:=t }:=I.un (h':=s.heap) (t':=t) Un.refl I.hok
theorem Inv.kept{t':Nat}(I:Inv X pins σ H s)(k:∀b u,s.heap.get? b=some u→h'.get? b=some u):Inv X pins σ H { s with heap:=h',toks:=t' }:=I.un (Un.kept k) (I.hok.kept k)
theorem Inv.laid{a:Addr}{o:HO}{t':Nat}(I:Inv X pins σ H s)(k:∀b u,s.heap.get? b=some u→h'.get? b=some u)(hp:s.heap.objs.size≤a)(new:jA X.prog X.w (upd H a o) h' a o):
 Inv X pins σ (upd H a o) { s with heap:=h',toks:=t' }:=I.un (Un.laid k hp (I.hok.fresh hp)) (I.hok.laid k hp new)
theorem Inv.write{x e:Addr}{o:HO}{t':Nat}(I:Inv X pins σ H s)(mu:Mut (H x))(he:e=x∨H e=some (.own x))(k:∀b u,b≠e→s.heap.get? b=some u→h'.get? b=some u)(heo:∃u,h'.get? e=some u)
 (new:jA X.prog X.w (upd H x o) h' x o):Inv X pins σ (upd H x o) { s with heap:=h',toks:=t' }:=I.un (Un.write mu he k heo) (I.hok.write mu he k heo new)
theorem Inv.weak{σ':List (Option V)}(I:Inv X pins σ H s)(hl:σ'.length=σ.length)(w:∀(i:Nat) v,σ'[i]?=some (some v)→σ[i]?=some (some v)):Inv X pins σ' H s:=⟨I.ok,I.os,I.bare,I.base,let⟨m,hn,hl'⟩:=I.loc;⟨m,hn,λi x v e1 e2 e3=>hl' i x v e1 (w i v e2) e3⟩,I.cell,I.free,I.freeC,I.pin,I.hok,hl.trans I.len⟩
theorem Inv.pins_of{pins':List (Addr×Obj)}(I:Inv X pins σ H s)(h:∀p∈pins',s.heap.get? p.1=some p.2∧H p.1=none∧p.1≠X.env.locals∧p.1∉X.fs∧∀v,p.2.data≠ .cell v):Inv X pins' σ H s:=⟨I.ok,I.os,I.bare,I.base,I.loc,I.cell,I.free,I.freeC,λp hp=>(gH.mp hp).elim (λz=>I.pin p (gK _ z)) (h p),I.hok,I.len⟩
theorem q8I{N:List Str}(hN:N.Nodup){i j:Nat}{x:Str}(a:N[i]?=some x)(b:N[j]?=some x):i=j:=by obtain⟨h1,e1⟩:=kB.mp a;obtain⟨h2,e2⟩:=kB.mp b;exact(List.getElem_inj hN).mp (e1.trans e2.symm)
theorem q6J{M:Model}{A:Around}{E:Value→Shared→Prop}{i:Nat}{x:Str}{v:V}{u:Value}{Q:Unit→Shared→Prop}(I:Inv X pins σ H s)(hN:X.N.Nodup)(hi:X.N[i]?=some x)(hx:Loc X.env.scope x)(r:RelV v u)
 (h:∀s',Inv X pins (σ.set i (some v)) H s'→(∃a,Heap.SameBut a s.heap s'.heap∧(a=X.env.locals∨X.env.cells.lookup x=some a))→Q () s') (hf:X.fn x=true∨X.env.scope.names.lookup x=some .local:=by first|exact .inl rfl|exact .inr rfl|assumption):wpAny M A (storeName X.env x u) Q E s:=by(
obtain⟨m,hn,hl⟩:=id I.loc
have hcls:(X.env.scope.kind== .class||(X.env.scope.kind== .module&&X.env.locals !=X.env.globals))=false:=by rw[I.ok.kind];rfl
have hiσ:i<σ.length:=by rw[I.len];exact(kB.mp hi).1
have cne:=I.cne
have tracked:∀{a:Addr} {h':Heap},(∃o,s.heap.get? a=some o∧H a=none)→Heap.SameBut a s.heap h'→HOk X.prog X.w H h':=fun {a h'} ha hs b ob e=>by
 obtain⟨_,_,hfree⟩:=ha;refine(I.hok b ob e).stay (λc w' hc q=>(hs.2 c ?_).trans q) (λ_ q=>q) λ_ _ q=>q;rintro rfl
 rcases hc with rfl|hc
 ·rw[hfree]at e;cases e
 rw[hfree]at hc;cases hc
rcases hx with hk|hk
·refine wpAny_storeName_local hk hn (λh' hn' hs=>?_) hcls;obtain⟨oL,_,_,hoL,_⟩:=id hn;refine h _ ⟨I.ok,I.os,I.bare,⟨λb o e n hb hx=>?_,λb o e n hb hx=>?_,I.base.free,λb o e hx=>?_,I.base.tups,I.base.frzs,I.base.tbls⟩,⟨_,hn',λj y v' e1 e2 e3=>?_⟩,λy c e=>?_,I.free,I.freeC,λp hp=>?_,tracked ⟨oL,hoL,I.free⟩ hs,by simpa using I.len⟩ ⟨_,hs,.inl rfl⟩
 ·exact(hs.2 b (mK (mU (kP e) I.ok.above))).trans (I.base.keep b o e n hb hx)
 ·obtain⟨sl,e1⟩:=I.base.slot b o e n hb hx;exact⟨sl,(hs.2 b (mK (mU (kP e) I.ok.above))).trans e1⟩
 ·obtain⟨o',e1⟩:=I.base.there b o e hx;exact⟨o',(hs.2 b (mK (mU (kP e) I.ok.above))).trans e1⟩
 ·by_cases hj:j=i
  ·subst hj;rw[hi]at e1;cases e1;rw[n9 hiσ]at e2;cases e2;exact⟨u,r,.inl ⟨hk,by simp⟩⟩
  rw[cH (wM hj)]at e2;obtain⟨u',r',q⟩:=hl j y v' e1 e2 e3;refine⟨u',r',?_⟩;rcases q with⟨k,e⟩|⟨k,c,e,z⟩
  ·refine .inl ⟨k,?_⟩;have:y≠x:=λe=>hj (q8I hN e1 (e▸hi));simp[this,e]
  exact .inr ⟨k,c,e,z.sameBut hs (cne y c e)⟩
 ·obtain⟨w',z⟩:=I.cell y c e;exact⟨w',z.sameBut hs (cne y c e)⟩
 obtain⟨e,n,ne,nf,d⟩:=I.pin p hp;exact⟨(hs.2 p.1 ne).trans e,n,ne,nf,d⟩
have hfn:X.fn x=true:=by
 rcases hf with z|z
 ·exact z
 rw[z]at hk;cases hk
obtain⟨c,hc⟩:=I.ok.has x (.inl hk)
obtain⟨w',z⟩:=I.cell x c hc
refine wpAny_storeName_cell I.ok.kind hk hc z (λh' hc' hs=>?_)
obtain⟨oc,hoc,hocd⟩:=id z
refine h { s with heap:=h' } ⟨I.ok,I.os,I.bare,⟨λb o e n hb hx=>?_,λb o e n hb hx=>?_,I.base.free,λb o e hx=>?_,I.base.tups,I.base.frzs,I.base.tbls⟩,⟨m,hn.sameBut hs (wM (cne x c hc)),λj y v' e1 e2 e3=>?_⟩,λy c' e=>?_,I.free,I.freeC,λp hp=>?_,tracked ⟨oc,hoc,I.freeC x c hc⟩ hs,by simpa using I.len⟩ ⟨c,hs,.inr hc⟩
·exact(hs.2 b (mK (mU (kP e) (I.ok.cab x c hfn hc)))).trans (I.base.keep b o e n hb hx)
·obtain⟨sl,e1⟩:=I.base.slot b o e n hb hx;exact⟨sl,(hs.2 b (mK (mU (kP e) (I.ok.cab x c hfn hc)))).trans e1⟩
·obtain⟨o',e1⟩:=I.base.there b o e hx;exact⟨o',(hs.2 b (mK (mU (kP e) (I.ok.cab x c hfn hc)))).trans e1⟩
·by_cases hj:j=i
 ·subst hj;rw[hi]at e1;cases e1;rw[n9 hiσ]at e2;cases e2;exact⟨u,r,.inr ⟨.inl hk,c,hc,hc'⟩⟩
 rw[cH (wM hj)]at e2;obtain⟨u',r',q⟩:=hl j y v' e1 e2 e3;refine⟨u',r',?_⟩;rcases q with q|⟨k,c',e,z'⟩
 ·exact .inl q
 refine .inr ⟨k,c',e,z'.sameBut hs ?_⟩;rintro rfl
 exact hj (q8I hN e1 (I.ok.inj _ _ _ e hc▸hi))
·by_cases hcc:c'=c
 ·subst hcc;exact⟨_,hc'⟩
 obtain⟨w2,z2⟩:=I.cell y c' e;exact⟨w2,z2.sameBut hs hcc⟩
obtain⟨e,n,ne,nf,d⟩:=I.pin p hp
refine⟨(hs.2 p.1 ?_).trans e,n,ne,nf,d⟩
intro q
rw[q,hoc]at e
have q':oc=p.2:=kU e
exact d w' (by rw[←q'];exact hocd))
theorem q4Q{M:Model}{A:Around}{E:Value→Shared→Prop}{i:Nat}{x:Str}{v:V}{u:Value}{Q:Unit→Shared→Prop}(I:Inv X pins σ H s)(hN:X.N.Nodup)(hi:X.N[i]?=some x)(hx:Loc X.env.scope x)(r:RelV v u)
 (h:∀s',Inv X pins (σ.set i (some v)) H s'→Q () s') (hf:X.fn x=true∨X.env.scope.names.lookup x=some .local:=by first|exact .inl rfl|exact .inr rfl|assumption):wpAny M A (storeName X.env x u) Q E s:=q6J I hN hi hx r (λs' I' _=>h s' I') hf
theorem Inv.call'{s':Shared}{ch:List Addr}(I:Inv X pins σ H s)(ho:s'.os=s.os)(u:Un (frs X.stack) ch H H' s.heap s'.heap)(hok:HOk X.prog X.w H' s'.heap)(hg:AllBare s'.gens)
 (hch:∀b∈ch,(b∈X.ex∨X.s₀.heap.objs.size≤b)∧b≠X.env.locals∧(∀x c,X.env.cells.lookup x=some c→c≠b)∧∀p∈X.pn++pins,p.1≠b):Inv X pins σ H' s':=by(
obtain⟨h',g',d',t',o'⟩:=s'
have e:o'=s.os:=ho
subst e
exact I.call (g':=g') (t':=t') (d':=d') u hok hg hch)
end
noncomputable abbrev XK:=Value→Option Addr→Hp→Prop
noncomputable abbrev St:=List (Option V)
noncomputable abbrev VK:=V→Hp→Prop
noncomputable abbrev TE:=St→Hp→VK→Prop
noncomputable abbrev TT:=St→Hp→(Bool→Hp→Prop)→Prop
noncomputable abbrev TA:=St→Hp→(List V→Hp→Prop)→Prop
structure Ends where
nx:St→Hp→Prop
rt:VK
bk:St→Hp→Prop:=λ_ _=>False
ct:St→Hp→Prop:=λ_ _=>False
noncomputable abbrev TS:=Ends→St→Hp→Prop
noncomputable def EP(X:Cx)(pins:List (Addr×Obj))(σ:St)(Q:VK)(u:Value)(s':Shared):Prop:=∃v H',Inv X pins σ H' s'∧RelV v u∧Q v H'
noncomputable def TP(X:Cx)(pins:List (Addr×Obj))(σ:St)(Q:Bool→Hp→Prop)(b:Bool)(s':Shared):Prop:=∃H',Inv X pins σ H' s'∧Q b H'
noncomputable def AP(X:Cx)(pins:List (Addr×Obj))(σ:St)(Q:List V→Hp→Prop)(us:List Value)(s':Shared):Prop:=∃vs H',Inv X pins σ H' s'∧Vals vs us∧Q vs H'
noncomputable def SP(X:Cx)(pins:List (Addr×Obj))(D:Ends)(f:Flow)(s':Shared):Prop:=match f with
| .next=>∃σ' H',Inv X pins σ' H' s'∧D.nx σ' H'
| .brk=>∃σ' H',Inv X pins σ' H' s'∧D.bk σ' H'
| .cont=>∃σ' H',Inv X pins σ' H' s'∧D.ct σ' H'
| .ret u=>∃v σ' H',Inv X pins σ' H' s'∧RelV v u∧D.rt v H'
noncomputable def PE(X:Cx)(e:Expr)(t:TE):Prop:=∀(pins:List (Addr×Obj)) (s:Shared) (σ:St) (H:Hp) (Q:VK),Inv X pins σ H s→t σ H Q→wpAny (model X.prog X.w) X.A (eval e X.env) (EP X pins σ Q) X.xe s
noncomputable def PT(X:Cx)(e:Expr)(t:TT):Prop:=∀(pins:List (Addr×Obj)) (s:Shared) (σ:St) (H:Hp) (Q:Bool→Hp→Prop),Inv X pins σ H s→t σ H Q→wpAny (model X.prog X.w) X.A (isTrue e X.env (eval e X.env)) (TP X pins σ Q) X.xe s
noncomputable def PW(X:Cx)(e:Expr)(t:TT):Prop:=∀(whole:Sem Value) (pins:List (Addr×Obj)) (s:Shared) (σ:St) (H:Hp) (Q:Bool→Hp→Prop),Inv X pins σ H s→t σ H Q→wpAny (model X.prog X.w) X.A (isTrue e X.env whole) (TP X pins σ Q) X.xe s
theorem PW.pt{X:Cx}{e:Expr}{t:TT}(h:PW X e t):PT X e t:=h _
noncomputable def PA(X:Cx)(es:List Expr)(t:TA):Prop:=∀(pos:Pos) (pins:List (Addr×Obj)) (s:Shared) (σ:St) (H:Hp) (Q:List V→Hp→Prop),Inv X pins σ H s→t σ H Q→wpAny (model X.prog X.w) X.A (spliced (backTo pos (starEach es X.env))) (AP X pins σ Q) X.xe s
noncomputable def PS(X:Cx)(st:Stmt)(t:TS):Prop:=∀(pins:List (Addr×Obj)) (s:Shared) (σ:St) (H:Hp) (D:Ends),Inv X pins σ H s→t D σ H→wpAny (model X.prog X.w) X.A (exec st X.env) (SP X pins D) X.xe s
noncomputable def PSs(X:Cx)(st:List Stmt)(t:TS):Prop:=∀(pins:List (Addr×Obj)) (s:Shared) (σ:St) (H:Hp) (D:Ends),Inv X pins σ H s→t D σ H→wpAny (model X.prog X.w) X.A (execs st X.env) (SP X pins D) X.xe s
theorem thn{α:Type}{t:Sem α}{Q Q':α→Shared→Prop}{M:Model}{A:Around}{E:Value→Shared→Prop}{s:Shared}(h:wpAny M A t Q E s)(hQ:∀a s,Q a s→Q' a s):wpAny M A t Q' E s:=gY h hQ λ_ _ x=>x
section
variable{X:Cx}
theorem bin{a b:Expr}{ta tb:TE}(ha:PE X a ta)(hb:PE X b tb){pins:List (Addr×Obj)}{s:Shared}{σ:St}{H:Hp}{R:V→V→Hp→Prop}(I:Inv X pins σ H s)(h:ta σ H λx H1=>tb σ H1 λy H2=>R x y H2)
 {α:Type} {Q:α→Shared→Prop} {f:Value→Value→Sem α}
 (hf:∀v u s2 x y H2,Inv X pins σ H2 s2→RelV x v→RelV y u→R x y H2→wpAny (model X.prog X.w) X.A (f v u) Q X.xe s2):
 wpAny (model X.prog X.w) X.A (eval a X.env) (λv s₁=>wpAny (model X.prog X.w) X.A (eval b X.env) (λu s₂=>wpAny (model X.prog X.w) X.A (f v u) Q X.xe s₂) X.xe s₁) X.xe s:=by(
refine thn (ha pins s σ H _ I h) λv s1 hZ=>?_
obtain⟨x,H1,I1,r1,q1⟩:=hZ
refine thn (hb pins s1 σ H1 _ I1 q1) λu s2 hZ=>?_
obtain⟨y,H2,I2,r2,q2⟩:=hZ
exact hf v u s2 x y H2 I2 r1 r2 q2)
noncomputable def tVar(i:Nat):TE:=λσ H Q=>∃v,σ[i]?=some (some v)∧Q v H
noncomputable def tC(v:V):TE:=λ_ H Q=>Q v H
theorem qHO{i:Nat}{x:Str}{pos:Pos}(hN:X.N[i]?=some x)(hv:Vis X.env.scope x)(hd:(x==("__debug__":Str))=false:=by decide)(hcd:(x==("__classdict__":Str))=false:=by decide):PE X (.Name x pos) (tVar i):=by(
intro pins s σ H Q I h
obtain⟨v,e,h⟩:=h
obtain⟨m,hn,hl⟩:=I.loc
obtain⟨u,r,l⟩:=hl i x v hN e hv
have fin:EP X pins σ Q u s:=⟨v,H,I,r,h⟩
rcases l with⟨hk,hm⟩|⟨hk,c,hc,hcell⟩
·exact bL (l7 I.ok.kind hk hn hm fin) hd
rcases hk with hk|hk
·exact bL (xJ I.ok.kind hk hc hcell fin) hd
exact bL (wpAny_loadName_free I.ok.kind hk hc hcell fin hcd) hd)
theorem qH{i j pos}:PE X (.Constant (.int i) j pos) (tC (.int i)):=λ_ _ _ H _ I h=>wpAny_Constant_int ⟨.int i,H,I.tok _,⟨_,rfl⟩,h⟩
theorem q0K{b j pos}:PE X (.Constant (.bool b) j pos) (tC (.bl b)):=λ_ _ _ H _ I h=>Constant_bool ⟨.bl b,H,I,rfl,h⟩
theorem uY{j pos}:PE X (.Constant .none j pos) (tC .non):=λ_ _ _ H _ I h=>Constant_none ⟨.non,H,I,rfl,h⟩
theorem q0Q{x j pos}:PE X (.Constant (.str x) j pos) (tC (.str x)):=λ_ _ _ H _ I h=>Calls.Constant_str ⟨.str x,H,I.tok _,⟨_,rfl⟩,h⟩
noncomputable def Gl(X:Cx)(x:Str):Prop:=X.env.kindOf x=some .globalImplicit
theorem q1T{E:Value→Shared→Prop}{pins:List (Addr×Obj)}{s:Shared}{σ:St}{H:Hp}{x:Str}{u:Value}{pos:Pos}{Q:Value→Shared→Prop}(I:Inv X pins σ H s)(hg:Gl X x)(hm:X.mg x=some u)(h:Q u s)
 (hd:(x==("__debug__":Str))=false:=by decide):wpAny (model X.prog X.w) X.A (eval (.Name x pos) X.env) Q E s:=sI I.ok.kind hg (Calls.loadGlobal_global (by rw[I.ok.glob];exact I.mod.glob.keeps I.bk) hm h) hd
theorem q0R{E:Value→Shared→Prop}{pins:List (Addr×Obj)}{s:Shared}{σ:St}{H:Hp}{x:Str}{u:Value}{pos:Pos}{Q:Value→Shared→Prop}(I:Inv X pins σ H s)(hg:Gl X x)(hm:X.mg x=none)(hv:bootBuiltins x=some u)(h:Q u s)
 (hn:x≠"__name__":=by decide) (hd:(x==("__debug__":Str))=false:=by decide):wpAny (model X.prog X.w) X.A (eval (.Name x pos) X.env) Q E s:=by obtain⟨mb,h1,h2⟩:=I.mod.blt;exact sI I.ok.kind hg (Calls.loadGlobal_builtin (by rw[I.ok.glob];exact I.mod.glob.keeps I.bk) hm (by rw[I.ok.blt];exact h1.keeps I.bk) ((h2 x hn).trans hv) h) hd
theorem q1U{x:Str}{v:V}{u:Value}{pos:Pos}(hg:Gl X x)(hm:X.mg x=some u)(r:RelV v u)(hd:(x==("__debug__":Str))=false:=by decide):PE X (.Name x pos) (tC v):=λ_ _ _ H _ I h=>q1T I hg hm ⟨v,H,I,r,h⟩ hd
theorem q02{x:Str}{v:V}{u:Value}{pos:Pos}(hg:Gl X x)(hm:X.mg x=none)(hv:bootBuiltins x=some u)(r:RelV v u)(hn:x≠"__name__":=by decide)(hd:(x==("__debug__":Str))=false:=by decide):PE X (.Name x pos) (tC v):=λ_ _ _ H _ I h=>q0R I hg hm hv ⟨v,H,I,r,h⟩ hn hd
variable{a b:Expr}{ta tb:TE}{pos:Pos}
noncomputable def PC(X:Cx)(op:CmpOp)(a b:Expr)(t:TE):Prop:=∀(pins:List (Addr×Obj)) (s:Shared) (σ:St) (H:Hp) (Q:VK),Inv X pins σ H s→t σ H Q→wpAny (model X.prog X.w) X.A (eval a X.env) (λv s₁=>wpAny (model X.prog X.w) X.A (eval b X.env) (λu s₂=>wpAny (model X.prog X.w) X.A (compareOp op v u) (EP X pins σ Q) X.xe s₂) X.xe s₁) X.xe s
noncomputable def tB(t:TE):TT:=λσ H Q=>t σ H λx H1=>∃c,x=.bl c∧Q c H1
theorem qHP{op:CmpOp}{t:TE}(h:PC X op a b t)(h1:behindInMarks op b=false:=by first|exact nobehind _ (by decide) (by decide)|rfl):PE X (.Compare a [op] [b] pos) t:=λpins s σ H Q I hw=>wpAny_Compare1 (h pins s σ H Q I hw) h1
theorem qHQ{op:CmpOp}{t:TE}(h:PC X op a b t)(h1:behindInMarks op b=false:=by first|exact nobehind _ (by decide) (by decide)|rfl):PT X (.Compare a [op] [b] pos) (tB t):=by(
intro pins s σ H Q I hw
refine lO (thn (h pins s σ H _ I hw) λv s1 h1=>thn h1 λu s2 h2=>thn h2 λc s3 hZ=>?_) h1
obtain⟨x,H1,I1,r1,q1⟩:=hZ
obtain⟨d,rfl,q⟩:=q1
cases r1
exact gP ⟨H1,I1,q⟩)
theorem jR{e:Expr}{t:TE}(h:PE X e t)(he:∀whole,isTrue e X.env whole=(do let v←whole;standAt e.pos;holding [v] (truthy v)):=by intro _;rfl):PT X e (tB t):=by(
intro pins s σ H Q I hw
refine isTrue_plain (thn (h pins s σ H _ I hw) λv s1 hZ=>?_) (he _)
obtain⟨x,H1,I1,r1,q1⟩:=hZ
obtain⟨d,rfl,q⟩:=q1
cases r1
exact gP ⟨H1,I1,q⟩)
variable{tA tB':TT}{rest:List Expr}
noncomputable def tAnd(t u:TT):TT:=λσ H Q=>t σ H λc H1=>if c=true then u σ H1 Q else Q false H1
noncomputable def tOr(t u:TT):TT:=λσ H Q=>t σ H λc H1=>if c=true then Q true H1 else u σ H1 Q
noncomputable def tNot(t:TT):TT:=λσ H Q=>t σ H λc H1=>Q (!c) H1
theorem qAX(ha:PT X a tA):PW X (.BoolOp .And [a] pos) tA:=by(
intro wh pins s σ H Q I h
refine isTrue_and (thn (ha pins s σ H Q I h) λc s1 e=>?_)
cases c with
|true=>exact isTrue_and_nil e
|false=>exact e)
theorem q9Y(ha:PT X a tA):PW X (.BoolOp .Or [a] pos) tA:=by(
intro wh pins s σ H Q I h
refine isTrue_or (thn (ha pins s σ H Q I h) λc s1 e=>?_)
cases c with
|false=>exact isTrue_or_nil e
|true=>exact e)
theorem qCV(ha:PT X a tA)(hb:PW X (.BoolOp .And (b::rest) pos) tB'):PW X (.BoolOp .And (a::b::rest) pos) (tAnd tA tB'):=by(
intro wh pins s σ H Q I h
refine isTrue_and (thn (ha pins s σ H _ I h) λc s1 hZ=>?_)
obtain⟨H1,I1,q1⟩:=hZ
cases c with
|true=>exact hb wh pins s1 σ H1 Q I1 q1
|false=>exact⟨H1,I1,q1⟩)
theorem qAY(ha:PT X a tA)(hb:PW X (.BoolOp .Or (b::rest) pos) tB'):PW X (.BoolOp .Or (a::b::rest) pos) (tOr tA tB'):=by(
intro wh pins s σ H Q I h
refine isTrue_or (thn (ha pins s σ H _ I h) λc s1 hZ=>?_)
obtain⟨H1,I1,q1⟩:=hZ
cases c with
|true=>exact⟨H1,I1,q1⟩
|false=>exact hb wh pins s1 σ H1 Q I1 q1)
theorem yE(ha:PT X a tA):PT X (.UnaryOp .Not a pos) (tNot tA):=by intro pins s σ H Q I h;exact isTrue_not (ha pins s σ H (λc H1=>Q (!c) H1) I h)
noncomputable def qJS(ta tb:TE):TE:=λσ H Q=>ta σ H λx H1=>∃c,x=.bl c∧if c=true then tb σ H1 Q else Q (.bl false) H1
noncomputable def tOrV(ta tb:TE):TE:=λσ H Q=>ta σ H λx H1=>∃c,x=.bl c∧if c=true then Q (.bl true) H1 else tb σ H1 Q
noncomputable def qJT(ta:TE):TE:=λσ H Q=>ta σ H λx H1=>∃c,x=.bl c∧Q (.bl (!c)) H1
theorem q0S{op}{t:TE}(h:PE X a t):PE X (.BoolOp op [a] pos) t:=λpins s σ H Q I hw=>BoolOp_one (h pins s σ H Q I hw)
theorem q3G(ha:PE X a ta)(hb:PE X (.BoolOp .And (b::rest) pos) tb):PE X (.BoolOp .And (a::b::rest) pos) (qJS ta tb):=by(
intro pins s σ H Q I h
refine BoolOp_and (thn (ha pins s σ H _ I h) λv s1 hZ=>?_)
obtain⟨x,H1,I1,r1,q1⟩:=hZ
obtain⟨c,rfl,q1⟩:=q1
cases r1
refine gP ?_
cases c with
|true=>exact hb pins s1 σ H1 Q I1 q1
|false=>exact⟨.bl false,H1,I1,rfl,q1⟩)
theorem qH3(ha:PE X a ta)(hb:PE X (.BoolOp .Or (b::rest) pos) tb):PE X (.BoolOp .Or (a::b::rest) pos) (tOrV ta tb):=by(
intro pins s σ H Q I h
refine BoolOp_or (thn (ha pins s σ H _ I h) λv s1 hZ=>?_)
obtain⟨x,H1,I1,r1,q1⟩:=hZ
obtain⟨c,rfl,q1⟩:=q1
cases r1
refine gP ?_
cases c with
|false=>exact hb pins s1 σ H1 Q I1 q1
|true=>exact⟨.bl true,H1,I1,rfl,q1⟩)
theorem q9Z(ha:PE X a ta):PE X (.UnaryOp .Not a pos) (qJT ta):=by(
intro pins s σ H Q I h
refine UnaryOp_ (thn (ha pins s σ H _ I h) λv s1 hZ=>?_)
obtain⟨x,H1,I1,r1,q1⟩:=hZ
obtain⟨c,rfl,q1⟩:=q1
cases r1
exact not_of (gP ⟨.bl (!c),H1,I1,rfl,q1⟩))
noncomputable def tIf(t:TT)(ta tb:TE):TE:=λσ H Q=>t σ H λc H1=>if c=true then ta σ H1 Q else tb σ H1 Q
theorem qCW{c:Expr}(hc:PT X c tA)(ha:PE X a ta)(hb:PE X b tb):PE X (.IfExp c a b pos) (tIf tA ta tb):=by(
intro pins s σ H Q I h
refine wpAny_IfExp (thn (hc pins s σ H _ I h) λd s1 hZ=>?_)
obtain⟨H1,I1,q1⟩:=hZ
cases d with
|true=>exact ha pins s1 σ H1 Q I1 q1
|false=>exact hb pins s1 σ H1 Q I1 q1)
end
noncomputable def SqL(K:PySem.W.Frag)(H:Hp)(a:Addr)(xs:List V):Prop:=Rd H a (.lst xs)∨∃(o:Obj) (its:Array Value) (n:Nat),K.lookup a=some o∧o.cls=.type "list"∧o.dict=none∧o.data=.seq its n∧its.size≤sizeLine∧Vals xs its.toList
noncomputable def SqT(K:PySem.W.Frag)(H:Hp)(a:Addr)(xs:List V):Prop:=Rd H a (.tup xs)∨∃(o:Obj) (its:Array Value) (n:Nat),K.lookup a=some o∧o.cls=.type "tuple"∧o.data=.seq its n∧its.size≤sizeLine∧Vals xs its.toList
noncomputable def absV:Value→Option V
| .none=>some .non
| .bool b=>some (.bl b)
| .int i _=>some (.int i)
| .str x _=>some (.str x)
| .bytes b _=>some (.byt b)
| .float b _=>some (.flt b)
| .ref a=>some (.ref a)
| .type n=>some (.ty n)
|_=>none
theorem RelV.abs{x:V}{u:Value}(r:RelV x u):absV u=some x:=by(
cases x with
|non=>cases r;rfl
|bl _=>cases r;rfl
|int _=>obtain⟨t,rfl⟩:=r;rfl
|str _=>obtain⟨t,rfl⟩:=r;rfl
|byt _=>obtain⟨t,rfl⟩:=r;rfl
|flt _=>obtain⟨t,rfl⟩:=r;rfl
|ref _=>cases r;rfl
|ty _=>cases r;rfl)
theorem RelV.inj{x y:V}{u:Value}(r:RelV x u)(q:RelV y u):x=y:=kU (r.abs.symm.trans q.abs)
theorem Vals.inj{xs ys:List V}{us:List Value}(h:Vals xs us):Vals ys us→xs=ys:=by(
induction h generalizing ys with
|nil=>exact λg=>by cases g;rfl
|cons r t ih=>
 intro g;cases g with
 |cons r' t'=>rw[r.inj r',ih t'])
section
variable{X:Cx}{pins:List (Addr×Obj)}{σ:St}{H:Hp}{s:Shared}{a:Addr}{xs ys:List V}
theorem SqL.of{K:PySem.W.Frag}(h:H a=some (.lst xs)):SqL K H a xs:=.inl (.inl h)
theorem SqT.of{K:PySem.W.Frag}(h:H a=some (.tup xs)):SqT K H a xs:=.inl (.inl h)
theorem Inv.list(I:Inv X pins σ H s)(h:SqL X.K H a xs):∃its:List Value,Vals xs its∧PlainL s.heap a its.toArray∧xs.length≤sizeLine:=by(
rcases h with h|⟨o,its,n,hk,hc,hd,hs,hz,r⟩
·obtain⟨z,its,n,r,e⟩:=h.ok I.hok;exact⟨its,r,⟨_,n,e,rfl,rfl,rfl⟩,z⟩
refine⟨its.toList,r,⟨o,n,I.kIn a o hk,hc,hd,by simpa using hs⟩,?_⟩
have e:=r.length
simp only[k9]at e
omega)
theorem Inv.tuple(I:Inv X pins σ H s)(h:SqT X.K H a xs):∃its:List Value,Vals xs its∧IsTup s.heap a its.toArray∧xs.length≤sizeLine:=by(
rcases h with h|⟨o,its,n,hk,hc,hs,hz,r⟩
·obtain⟨z,its,r,p⟩:=h.ok I.hok;exact⟨its,r,p,z⟩
refine⟨its.toList,r,⟨o,I.kIn a o hk,hc,n,by simpa using hs⟩,?_⟩
have e:=r.length
simp only[k9]at e
omega)
theorem Inv.list_inj(I:Inv X pins σ H s)(h:SqL X.K H a xs)(h':SqL X.K H a ys):xs=ys:=by(
obtain⟨its,r,⟨o,n,e,_,_,d⟩,_⟩:=I.list h
obtain⟨its',r',⟨o',n',e',_,_,d'⟩,_⟩:=I.list h'
rw[e]at e';cases e'
rw[d]at d'
injection d' with d1 _
have:its=its':=by simpa using rK Array.toList d1
subst this
exact r.inj r')
end
noncomputable abbrev Cx.wish(X:Cx)(E:Value→Shared→Prop):Cx:={ X with xe:=E }
noncomputable abbrev Cx.nox(X:Cx):Cx:=X.wish λ_ _=>False
theorem Cx.Ok.wish{X:Cx}(ok:X.Ok)(E:Value→Shared→Prop):(X.wish E).Ok:=⟨ok.mod,ok.kind,ok.glob,ok.blt,ok.above,ok.inj,ok.has,ok.cab,ok.hd,ok.frames,ok.stk,ok.exf,ok.bs,ok.bsz,ok.noex,ok.exfs,ok.funs,ok.frf⟩
theorem Cx.Ok.unwish{X:Cx}{E:Value→Shared→Prop}(ok:(X.wish E).Ok):X.Ok:=⟨ok.mod,ok.kind,ok.glob,ok.blt,ok.above,ok.inj,ok.has,ok.cab,ok.hd,ok.frames,ok.stk,ok.exf,ok.bs,ok.bsz,ok.noex,ok.exfs,ok.funs,ok.frf⟩
section
variable{X:Cx}{pins:List (Addr×Obj)}{σ:St}{H:Hp}{s:Shared}{E:Value→Shared→Prop}
theorem Inv.wish(I:Inv X pins σ H s)(E:Value→Shared→Prop):Inv (X.wish E) pins σ H s:=⟨I.ok.wish E,I.os,I.bare,I.base,I.loc,I.cell,I.free,I.freeC,I.pin,I.hok,I.len⟩
theorem Inv.unwish(I:Inv (X.wish E) pins σ H s):Inv X pins σ H s:=⟨I.ok.unwish,I.os,I.bare,I.base,I.loc,I.cell,I.free,I.freeC,I.pin,I.hok,I.len⟩
theorem SP.unwish{D:Ends}{f:Flow}{s':Shared}(h:SP (X.wish E) pins D f s'):SP X pins D f s':=by(
cases f with
|next=>obtain⟨σ',H',I,q⟩:=h;exact⟨σ',H',I.unwish,q⟩
|brk=>obtain⟨σ',H',I,q⟩:=h;exact⟨σ',H',I.unwish,q⟩
|cont=>obtain⟨σ',H',I,q⟩:=h;exact⟨σ',H',I.unwish,q⟩
|ret u=>obtain⟨v,σ',H',I,r,q⟩:=h;exact⟨v,σ',H',I.unwish,r,q⟩)
theorem PSs.nox{st:List Stmt}{t:TS}(h:PSs X.nox st t):PSs X st t:=λpins s σ H D I hw=>gY (h pins s σ H D (I.wish _) hw) (λ_ _ q=>q.unwish) λ_ _ z=>False.elim z
end
section
variable{X:Cx}{st:Stmt}{rest:List Stmt}{t u:TS}{e:Expr}{te:TE}{pos:Pos}
noncomputable def qJU:TS:=λD σ H=>D.nx σ H
noncomputable def tSeq(t u:TS):TS:=λD σ H=>t { D with nx:=u D } σ H
theorem qQ:PSs X [] qJU:=λ_ _ σ H _ I h=>pW ⟨σ,H,I,h⟩
theorem qB(h1:PS X st t)(h2:PSs X rest u):PSs X (st::rest) (tSeq t u):=by(
intro pins s σ H D I h
refine wpAny_execs_cons (thn (h1 pins s σ H { D with nx:=u D } I h) λf s1 q=>?_)
cases f with
|next=>obtain⟨σ',H',I',q⟩:=q;exact h2 pins s1 σ' H' D I' q
|ret v=>exact q
|brk=>exact q
|cont=>exact q)
theorem qD(h1:PS X st t):PSs X [st] t:=by(
intro pins s σ H D I h
refine wpAny_execs_cons (thn (h1 pins s σ H D I h) λf s1 q=>?_)
cases f with
|next=>exact pW q
|ret v=>exact q
|brk=>exact q
|cont=>exact q)
theorem Inv.quiet{pins:List (Addr×Obj)}{σ:St}{H:Hp}{s:Shared}(I:Inv X pins σ H s):interactive X.env=false:=by simp[interactive,I.ok.kind]
noncomputable def qJV(te:TE):TS:=λD σ H=>te σ H λ_ H1=>D.nx σ H1
theorem qV(he:PE X e te)(hs:swapsWith e none pos.line X.env=pure false:=by rfl):PS X (.Expr e pos) (qJV te):=by intro pins s σ H D I h;exact wpAny_Expr_any (thn (he pins s σ H _ I h) λv s1 ⟨x,H1,I1,r1,q1⟩=>⟨σ,H1,I1,q1⟩) I.quiet hs
noncomputable def tRet(te:TE):TS:=λD σ H=>te σ H D.rt
theorem qM(he:PE X e te):PS X (.Return (some e) pos) (tRet te):=by intro pins s σ H D I h;exact wpAny_Return_some (thn (he pins s σ H _ I h) λv s1 ⟨x,H1,I1,r1,q1⟩=>⟨x,σ,H1,I1,r1,q1⟩)
noncomputable def tIfS(c:TT)(t u:TS):TS:=λD σ H=>c σ H λb H1=>if b=true then t D σ H1 else u D σ H1
theorem jE{c:Expr}{a b:List Stmt}{tc:TT}(hc:PT X c tc)(ha:PSs X a t)(hb:PSs X b u):PS X (.If c a b pos) (tIfS tc t u):=by(
intro pins s σ H D I h
refine wpAny_If (thn (hc pins s σ H _ I h) λd s1 hZ=>?_)
obtain⟨H1,I1,q1⟩:=hZ
cases d with
|true=>exact ha pins s1 σ H1 D I1 q1
|false=>exact hb pins s1 σ H1 D I1 q1)
noncomputable def qHR:TS:=λ_ _ _=>False
theorem j8:PS X st qHR:=λ_ _ _ _ _ _ h=>h.elim
end
noncomputable abbrev TG:=V→St→Hp→(St→Hp→Prop)→Prop
noncomputable abbrev TGs:=List V→St→Hp→(St→Hp→Prop)→Prop
noncomputable def PG(X:Cx)(target:Expr)(t:TG):Prop:=∀(pins:List (Addr×Obj)) (s:Shared) (σ:St) (H:Hp) (v:V) (u:Value) (Q:St→Hp→Prop),Inv X pins σ H s→RelV v u→t v σ H Q→wpAny (model X.prog X.w) X.A (assign target X.env u) (λ_ s'=>∃σ' H',Inv X pins σ' H' s'∧Q σ' H') X.xe s
noncomputable def PGs(X:Cx)(ts:List Expr)(t:TGs):Prop:=∀(pins:List (Addr×Obj)) (s:Shared) (σ:St) (H:Hp) (vs:List V) (us:List Value) (Q:St→Hp→Prop),Inv X pins σ H s→Vals vs us→t vs σ H Q→wpAny (model X.prog X.w) X.A (assignInOrder ((assignEach ts X.env).map (·.2)) us) (λ_ s'=>∃σ' H',Inv X pins σ' H' s'∧Q σ' H') X.xe s
noncomputable abbrev TSet:=V→V→V→Hp→(Hp→Prop)→Prop
noncomputable def PSet(X:Cx)(t:TSet):Prop:=∀(pins:List (Addr×Obj)) (s:Shared) (σ:St) (H:Hp) (o i v:V) (ov iv u:Value) (Q:Hp→Prop),Inv X pins σ H s→RelV o ov→RelV i iv→RelV v u→t o i v H Q→wpAny (model X.prog X.w) X.A (setItem ov iv u) (λ_ s'=>∃H',Inv X pins σ H' s'∧Q H') X.xe s
noncomputable abbrev TIp:=V→V→Hp→VK→Prop
noncomputable def PIp(X:Cx)(op:Operator)(t:TIp):Prop:=∀(pins:List (Addr×Obj)) (s:Shared) (σ:St) (H:Hp) (x y:V) (v u:Value) (Q:VK),Inv X pins σ H s→RelV x v→RelV y u→t x y H Q→wpAny (model X.prog X.w) X.A (inplaceOp op v u) (EP X pins σ Q) X.xe s
section
variable{X:Cx}{pos:Pos}
noncomputable def q2B(i:Nat):TG:=λv σ H Q=>Q (σ.set i (some v)) H
theorem qW{i:Nat}{x:Str}(hN:X.N.Nodup)(hi:X.N[i]?=some x)(hx:Loc X.env.scope x)(hf:X.fn x=true∨X.env.scope.names.lookup x=some .local:=by first|exact .inl rfl|exact .inr rfl|assumption):PG X (.Name x pos) (q2B i):=by intro pins s σ H v u Q I r h;exact aB (q4Q I hN hi hx r (λs' I'=>⟨_,H,I',h⟩) hf)
noncomputable def gNil:TGs:=λvs σ H Q=>vs=[]∧Q σ H
noncomputable def qH4(t:TG)(u:TGs):TGs:=λvs σ H Q=>∃v r,vs=v::r∧t v σ H λσ' H'=>u r σ' H' Q
theorem q4D:PGs X [] gNil:=by(
intro pins s σ H vs us Q I r h
obtain⟨e,h⟩:=h
subst e
cases r
exact assignInOrder_nil ⟨σ,H,I,h⟩)
theorem yU{e:Expr}{es:List Expr}{t:TG}{u:TGs}(h1:PG X e t)(h2:PGs X es u)
 (hs:(assignEach (e::es) X.env).map (·.2)=assign e X.env::(assignEach es X.env).map (·.2):=by rfl):PGs X (e::es) (qH4 t u):=by(
intro pins s σ H vs us Q I r h
obtain⟨v,vr,e1,h⟩:=h
subst e1
cases r with
|cons r rr=>rw[hs];refine assignInOrder_cons (thn (h1 pins s σ H _ _ _ I r h) λ_ s1 hZ=>?_);obtain⟨σ1,H1,I1,q1⟩:=hZ;exact h2 pins s1 σ1 H1 _ _ Q I1 rr q1)
noncomputable def gTup(K:PySem.W.Frag)(n:Nat)(t:TGs):TG:=λv σ H Q=>∃a xs,v=.ref a∧SqT K H a xs∧xs.length=n∧t xs σ H Q
theorem qA0{es:List Expr}{k:Nat}{t:TGs}{n:Nat}(hc:X.calm=true)(h:PGs X es t)
 (hn:(assignEach es X.env).length=n:=by rfl) (hst:(assignEach es X.env).findIdx? (·.1)=none:=by rfl):PG X (.Tuple es k pos) (gTup X.K n t):=by(
intro pins s σ H v u Q I r hw
obtain⟨a,xs,e1,hq,hl,hw⟩:=hw
subst e1
cases r
obtain⟨its,rv,ht,hz⟩:=I.tuple hq
refine assign_Tuple_tuple (I.ok.hd hc) ht (by simp[hn,←hl,rv.length]) hst λh' hx=>?_
have I1:Inv X pins σ H { s with heap:=h' }:=I.kept (t':=s.toks) λb o e=>hx b o (mK (kP e)) e
exact h pins _ σ H xs _ Q I1 (by simpa using rv) hw)
noncomputable def gSub(to ti:TE)(t:TSet):TG:=λv σ H Q=>to σ H λo H1=>ti σ H1 λi H2=>t o i v H2 λH3=>Q σ H3
theorem q4R{o i:Expr}{to ti:TE}{t:TSet}(ho:PE X o to)(hi:PE X i ti)(hs:PSet X t)
 (ha:∀v,assign (.Subscript o i pos) X.env v=(do
  let ov←holding [v] (eval o X.env)
  let iv←holding [v,ov] (eval i X.env)
  standAt pos
  holding [v,ov,iv] (setItem ov iv v)
  release [v,ov,iv] []):=by intro _;rfl):PG X (.Subscript o i pos) (gSub to ti t):=by(
intro pins s σ H v u Q I r h
rw[ha]
refine hG (gG (thn (ho pins s σ H _ I h) λov s1 hZ=>?_))
obtain⟨x,H1,I1,r1,q1⟩:=hZ
refine hG (gG (thn (hi pins s1 σ H1 _ I1 q1) λiv s2 hZ=>?_))
obtain⟨y,H2,I2,r2,q2⟩:=hZ
refine hG (pQ (hG (gG (thn (hs pins s2 σ H2 x y v ov iv u _ I2 r1 r2 r q2) λ_ s3 hZ=>?_))))
obtain⟨H3,I3,q3⟩:=hZ
exact wpAny_release ⟨σ,H3,I3,q3⟩)
noncomputable def tAsg(te:TE)(g:TG):TS:=λD σ H=>te σ H λx H1=>g x σ H1 D.nx
theorem q3H{tg e:Expr}{te:TE}{g:TG}(he:PE X e te)(hg:PG X tg g)(hs:swapsWithSole [tg] e pos.line X.env=pure false:=by rfl)(hw:swappedStores [tg] e X.env=pure none:=by rfl)
 (h1:(assignEach [tg] X.env).map (·.2)=[assign tg X.env]:=by rfl):PS X (.Assign [tg] e pos) (tAsg te g):=by(
intro pins s σ H D I h
refine wpAny_Assign_stores (thn (he pins s σ H _ I h) λv s1 hZ=>?_) hs hw
obtain⟨x,H1,I1,r1,q1⟩:=hZ
rw[h1]
exact thn (hg pins s1 σ H1 x v _ I1 r1 q1) λ_ s2 q=>q)
theorem qX{i:Nat}{x:Str}{e:Expr}{te:TE}{pos':Pos}(hN:X.N.Nodup)(hi:X.N[i]?=some x)(hx:Loc X.env.scope x)(he:PE X e te)(hs:swapsWith e (some (.Name x pos')) pos.line X.env=pure false:=by rfl)(hf:X.fn x=true∨X.env.scope.names.lookup x=some .local:=by first|exact .inl rfl|exact .inr rfl|assumption):
 PS X (.Assign [.Name x pos'] e pos) (tAsg te (q2B i)):=by(
intro pins s σ H D I h
refine wpAny_Assign_Name (thn (he pins s σ H _ I h) λv s1 hZ=>?_) hs
obtain⟨y,H1,I1,r1,q1⟩:=hZ
exact q4Q I1 hN hi hx r1 (λs2 I2=>⟨_,H1,I2,q1⟩) hf)
noncomputable def tAug(i:Nat)(te:TE)(ti:TIp):TS:=λD σ H=>∃x,σ[i]?=some (some x)∧te σ H λy H1=>ti x y H1 λz H2=>D.nx (σ.set i (some z)) H2
theorem qHS{i:Nat}{x:Str}{e:Expr}{te:TE}{op:Operator}{ti:TIp}{pos':Pos}(hN:X.N.Nodup)(hi:X.N[i]?=some x)(hx:Loc X.env.scope x)(he:PE X e te)(ho:PIp X op ti)(hf:X.fn x=true∨X.env.scope.names.lookup x=some .local:=by first|exact .inl rfl|exact .inr rfl|assumption):
 PS X (.AugAssign (.Name x pos') op e pos) (tAug i te ti):=by(
intro pins s σ H D I h
obtain⟨v,e1,h⟩:=h
obtain⟨m,hn,hl⟩:=I.loc
have vis:Vis X.env.scope x:=by rcases hx with k|k;exact .inl k;exact .inr (.inl k)
obtain⟨u,r,l⟩:=hl i x v hi e1 vis
refine wpAny_AugAssign_Name ?_
have go:wpAny (model X.prog X.w) X.A (eval e X.env) (λw s₂=>wpAny (model X.prog X.w) X.A (inplaceOp op u w) (λr s₃=>wpAny (model X.prog X.w) X.A (storeName X.env x r) (λ_=>SP X pins D .next) X.xe s₃) X.xe s₂) X.xe s:=by refine thn (he pins s σ H _ I h) λw s1 hZ=>?_;obtain⟨y,H1,I1,r1,q1⟩:=hZ;refine thn (ho pins s1 σ H1 v y u w _ I1 r r1 q1) λz s2 hZ=>?_;obtain⟨zv,H2,I2,r2,q2⟩:=hZ;exact q4Q I2 hN hi hx r2 (λs3 I3=>⟨_,H2,I3,q2⟩) hf
rcases l with⟨hk,hm⟩|⟨hk,c,hc,hcell⟩
·exact l7 I.ok.kind hk hn hm go
rcases hk with hk|hk
·exact xJ I.ok.kind hk hc hcell go
rcases hx with k|k
·have:X.env.scope.names.lookup x=some .free:=hk;rw[k]at this;cases this
have:X.env.scope.names.lookup x=some .free:=hk
rw[k]at this;cases this)
noncomputable def qJW(to ti te:TE)(tget:V→V→Hp→VK→Prop)(tip:TIp)(tset:TSet):TS:=λD σ H=>to σ H λo H1=>ti σ H1 λi H2=>tget o i H2 λx H3=>te σ H3 λy H4=>tip x y H4 λz H5=>tset o i z H5 λH6=>D.nx σ H6
noncomputable def PGet(X:Cx)(t:V→V→Hp→VK→Prop):Prop:=∀(pins:List (Addr×Obj)) (s:Shared) (σ:St) (H:Hp) (o i:V) (ov iv:Value) (Q:VK),Inv X pins σ H s→RelV o ov→RelV i iv→t o i H Q→wpAny (model X.prog X.w) X.A (getItem ov iv) (EP X pins σ Q) X.xe s
theorem q2W{o i e:Expr}{to ti te:TE}{tget:V→V→Hp→VK→Prop}{tip:TIp}{tset:TSet}{op:Operator}{tpos:Pos}(ho:PE X o to)(hi:PE X i ti)(hg:PGet X tget)(he:PE X e te)(hp:PIp X op tip)(hs:PSet X tset)
 (ha:∀ov iv new,augStore i ov iv new=(do holding [new,ov,iv] (setItem ov iv new);release [new,ov,iv] [];pure .next):=by intros;rfl):PS X (.AugAssign (.Subscript o i tpos) op e pos) (qJW to ti te tget tip tset):=by(
intro pins s σ H D I h
refine wpAny_AugAssign_SubscriptAny (thn (ho pins s σ H _ I h) λov s1 hZ=>?_) ha
obtain⟨x1,H1,I1,r1,q1⟩:=hZ
refine thn (hi pins s1 σ H1 _ I1 q1) λiv s2 hZ=>?_
obtain⟨x2,H2,I2,r2,q2⟩:=hZ
refine thn (hg pins s2 σ H2 x1 x2 ov iv _ I2 r1 r2 q2) λold s3 hZ=>?_
obtain⟨x3,H3,I3,r3,q3⟩:=hZ
refine thn (he pins s3 σ H3 _ I3 q3) λv s4 hZ=>?_
obtain⟨x4,H4,I4,r4,q4⟩:=hZ
refine thn (hp pins s4 σ H4 x3 x4 old v _ I4 r3 r4 q4) λnew s5 hZ=>?_
obtain⟨x5,H5,I5,r5,q5⟩:=hZ
exact thn (hs pins s5 σ H5 x1 x2 x5 ov iv new _ I5 r1 r2 r5 q5) λ_ s6 ⟨H6,I6,q6⟩=>⟨σ,H6,I6,q6⟩)
noncomputable def ipI(f:Int→Int→Int):TIp:=λx y H Q=>∃i j,x=.int i∧y=.int j∧Q (.int (f i j)) H
theorem q4S:PIp X .Add (ipI λi j=>i+j):=by(
intro pins s σ H x y v u Q I r1 r2 h
obtain⟨i,j,e1,e2,q⟩:=h
subst e1;subst e2
obtain⟨t,rfl⟩:=r1
obtain⟨t',rfl⟩:=r2
exact iadd_int ⟨.int _,H,I.tok _,⟨_,rfl⟩,q⟩)
theorem qHT:PIp X .Sub (ipI λi j=>i-j):=by(
intro pins s σ H x y v u Q I r1 r2 h
obtain⟨i,j,e1,e2,q⟩:=h
subst e1;subst e2
obtain⟨t,rfl⟩:=r1
obtain⟨t',rfl⟩:=r2
exact isub_int ⟨.int _,H,I.tok _,⟨_,rfl⟩,q⟩)
end
section
variable{X:Cx}{pos:Pos}
noncomputable def qHU(c:TT)(tb:TS):TS:=λD σ H=>∃W:Nat→St→Hp→Prop,(∃m,W m σ H)∧∀m σ H,W m σ H→c σ H λb H1=>if b=true then ∃N:St→Hp→Prop,(∀σ' H',N σ' H'→∃m',m'<m∧W m' σ' H')∧tb { D with nx:=N,ct:=N,bk:=D.nx } σ H1 else D.nx σ H1
theorem q8J{c:Expr}{body:List Stmt}{tc:TT}{tb:TS}(hp:PassesOwn (model X.prog X.w) X.A X.env X.xe)(hc:PT X c tc)(hb:PSs X body tb):PS X (.While c body [] pos) (qHU tc tb):=by(
intro pins s σ H D I h
obtain⟨W,⟨m0,w0⟩,turn⟩:=h
refine wpAny_While (codeAny_whileLoop (λn s'=>∃σ' H',Inv X pins σ' H' s'∧W n σ' H') ?_ m0 ⟨σ,H,I,w0⟩)
rintro n s1 ⟨σ1,H1,I1,w1⟩
refine rW hp (thn (hc pins s1 σ1 H1 _ I1 (turn n σ1 H1 w1)) λb s2 hZ=>?_)
obtain⟨H2,I2,q2⟩:=hZ
cases b with
|true=>
 obtain⟨N,hN,q2⟩:=q2;rw[kI rfl];refine rW hp (thn (hb pins s2 σ1 H2 _ I2 q2) λf s3 q3=>?_);cases f with
 |next=>obtain⟨σ3,H3,I3,n3⟩:=q3;obtain⟨m',hm,w3⟩:=hN σ3 H3 n3;exact⟨m',hm,σ3,H3,I3,w3⟩
 |cont=>obtain⟨σ3,H3,I3,n3⟩:=q3;obtain⟨m',hm,w3⟩:=hN σ3 H3 n3;exact⟨m',hm,σ3,H3,I3,w3⟩
 |brk=>exact q3
 |ret v=>exact q3
|false=>rw[kF kO];exact pW ⟨σ1,H2,I2,q2⟩)
end
structure It where
go:Nat→Hp→Prop
yld:Nat→Hp→V→Hp→Prop
stop:Nat→Hp→Prop
noncomputable def FpOk(X:Cx)(pins:List (Addr×Obj))(H:Hp)(b:Addr):Prop:=H b=none∧b≠X.env.locals∧b∉X.fs∧(b∈X.ex∨X.s₀.heap.objs.size≤b)∧(∀x c,X.env.cells.lookup x=some c→c≠b)∧∀p∈X.pn++pins,p.1≠b
theorem Inv.fpOk{X:Cx}{pins:List (Addr×Obj)}{σ:St}{H H':Hp}{s:Shared}{b:Addr}(I:Inv X pins σ H s)(hb:s.heap.objs.size≤b)(hn:H' b=none):FpOk X pins H' b:=by(
refine⟨hn,rM (mU I.lt hb),I.nofs hb,.inr (mF I.sz hb),λx c e z=>?_,λp hp z=>?_⟩
·obtain⟨v,q⟩:=I.cell x c e;exact absurd (mU q.lt (by rw[z];exact hb)) (d6 _)
exact absurd (mU (kP (I.pin p hp).1) (by rw[z];exact hb)) (d6 _))
structure Turn(P:Program)(w:World)(K:PySem.W.Frag)(tg:Expr)(J:It)(fp:List Addr)(it:Addr)(tn:Nat→Heap→Prop):Prop where
mem:it∈fp
obj:∀i h,tn i h→∀b∈fp,∃o,h.get? b=some o∧∀v,o.data≠ .cell v
keep:∀i h h',tn i h→(∀b∈fp,∀o,h.get? b=some o→h'.get? b=some o)→tn i h'
item:∀(X:Cx),X.prog=P→X.w=w→X.K=K→X.calm=true→∀(i:Nat) (pins:List (Addr×Obj)) (s:Shared) (σ:St) (H:Hp) (E:Value→Shared→Prop),Inv X pins σ H s→(∀b∈fp,FpOk X pins H b)→tn i s.heap→J.go i H→wpAny (model P w) X.A (pyNext (.ref it)) (λr s1=>∃u,r=some u∧wpAny (model P w) X.A (letOwnedTupleGo tg (.ref it) u) (λ_ s2=>∃x H',Inv X pins σ H' s2∧RelV x u∧J.yld i H x H'∧tn (i+1) s2.heap∧∀b∈fp,H' b=none) E s1) E s
done:∀(X:Cx),X.prog=P→X.w=w→X.K=K→X.calm=true→∀(i:Nat) (pins:List (Addr×Obj)) (s:Shared) (σ:St) (H:Hp) (E:Value→Shared→Prop),Inv X pins σ H s→(∀b∈fp,FpOk X pins H b)→tn i s.heap→J.stop i H→wpAny (model P w) X.A (pyNext (.ref it)) (λr s1=>r=none∧Inv X pins σ H s1) E s
self:∀(A:Around) (i:Nat) (s:Shared) (Q:Value→Shared→Prop) (E:Value→Shared→Prop),tn i s.heap→Q (.ref it) s→wpAny (model P w) A (pyIter (.ref it)) Q E s
noncomputable abbrev TI:=St→Hp→(It→Hp→Prop)→Prop
noncomputable def PIE(X:Cx)(pins:List (Addr×Obj))(σ:St)(tg:Expr)(R:It→Hp→Prop)(itv:Value)(s2:Shared):Prop:=∃(it:Addr) (fp:List Addr) (tn:Nat→Heap→Prop) (J:It) (H':Hp),itv=.ref it∧Inv X pins σ H' s2∧Turn X.prog X.w X.K tg J fp it tn∧tn 0 s2.heap∧(∀b∈fp,FpOk X pins H' b)∧R J H'
noncomputable def PI(X:Cx)(tg iter:Expr)(wi:TI):Prop:=∀(pins:List (Addr×Obj)) (s:Shared) (σ:St) (H:Hp) (R:It→Hp→Prop),Inv X pins σ H s→wi σ H R→wpAny (model X.prog X.w) X.A (eval iter X.env) (λv s1=>wpAny (model X.prog X.w) X.A (pyIter v) (PIE X pins σ tg R) X.xe s1) X.xe s
theorem qCX{M:Model}{A:Around}{E:Value→Shared→Prop}{s:Shared}{tg:Expr}{it:Addr}{u:Value}{o:Obj}{n:String}{vs:Array Value}{Q:Unit→Shared→Prop}(ho:s.heap.get? it=some o)(hc:o.cls=.type n)(hd:o.data=.fields vs)
 (hn:["enumerate","zip","dict_itemiterator","dict_reverseitemiterator","odict_iterator","itertools.zip_longest","itertools.pairwise"].contains n=false) (hQ:Q () s):wpAny M A (letOwnedTupleGo tg (.ref it) u) Q E s:=by(
unfold letOwnedTupleGo
cases tg<;>first
 |exact kL hQ
 |(cases u<;>first
  |exact kL hQ
  |(refine hG (wpAny_load ho ?_)
    rw[hc,hd];show wpAny M A (if(["enumerate","zip","dict_itemiterator","dict_reverseitemiterator","odict_iterator","itertools.zip_longest","itertools.pairwise"].contains n&&vs[0]?==some (rawInt _))=true then _ else _) Q E s;rw[kF (by intro h;rw[hn,Bool.false_and]at h;cases h)];exact kL hQ)))
noncomputable def Itl(K:PySem.W.Frag)(a:Addr):It:=⟨λi H=>∃xs x,SqL K H a xs∧xs[i]?=some x,λi H x H'=>H'=H∧∀xs,SqL K H a xs→xs[i]?=some x,λi H=>∃xs,SqL K H a xs∧xs.length≤i⟩
noncomputable def Itr(lo:Int)(n:Nat):It:=⟨λi _=>i<n,λi H x H'=>H'=H∧x=.int (lo+i),λi _=>n≤i⟩
theorem qC2{P:Program}{w:World}{K:PySem.W.Frag}{tg:Expr}(a it:Addr):Turn P w K tg (Itl K a) [it] it (λi h=>h.IsListIter it a i) where
mem:=by simp
obj:=λi h st b hb=>by
 have e:b=it:=by simpa using hb
 subst e;obtain⟨o,e,c,d⟩:=st;exact⟨o,e,λv z=>by rw[d]at z;cases z⟩
keep:=λi h h' st k=>st.at λo e=>k it (by simp) o e
item:=by intro X hP hw hK hc i pins s σ H E I hf st hg;subst hP hw hK;obtain⟨xs,x,hq,hx⟩:=hg;obtain⟨its,rv,p,hz⟩:=I.list hq;obtain⟨u,hu,ru⟩:=rv.get hx;obtain⟨f0,f1,f2,f3,f4,f5⟩:=hf it (by simp);refine wpAny_pyNext_list_item st p.isList (x:=u) (by simpa using hu) λh' st' sb=>?_;have I1:Inv X pins σ H { s with heap:=h' }:=I.turned (t':=s.toks) (λb o hb e=>(sb.2 b hb).trans e) f0 f1 f3 f4 f5;obtain⟨o,e,c,d⟩:=id st';exact⟨u,rfl,qCX (s:={ s with heap:=h' }) e c d (by decide) ⟨x,H,I1,ru,⟨rfl,λys hy=>by rw[I.list_inj hy hq];exact hx⟩,st',λb hb=>(hf b hb).1⟩⟩
done:=by intro X hP hw hK hc i pins s σ H E I hf st hg;subst hP hw hK;obtain⟨xs,hq,hx⟩:=hg;obtain⟨its,rv,p,hz⟩:=I.list hq;obtain⟨f0,f1,f2,f3,f4,f5⟩:=hf it (by simp);have hl:=rv.length;exact wpAny_pyNext_list_end (I.ok.hd hc) st p.isList (by simp;omega) λh' eb=>⟨rfl,I.turned (t':=s.toks) (λb o hb e=>eb b o hb e) f0 f1 f3 f4 f5⟩
self:=λ_ _ _ _ _ st h=>wpAny_pyIter_listiter st h
theorem qA1{P:Program}{w:World}{K:PySem.W.Frag}{tg:Expr}(it:Addr)(lo:Int)(n:Nat):Turn P w K tg (Itr lo n) [it] it (λi h=>IsRangeIter h it (lo+(i:Nat)*1) ((n:Int)-(i:Nat)) 1) where
mem:=by simp
obj:=λi h st b hb=>by
 have e:b=it:=by simpa using hb
 subst e;exact⟨_,st,λv z=>by have z':Data.fields _=Data.cell v:=z;cases z'⟩
keep:=λi h h' st k=>k it (by simp) _ st
item:=by intro X hP hw hK hc i pins s σ H E I hf st hg;subst hP hw hK;obtain⟨f0,f1,f2,f3,f4,f5⟩:=hf it (by simp);have W:=Walks.range (prog:=X.prog) (w:=X.w) (I.ok.hd hc) it lo 1 n;refine W.item i s _ _ hg st λv h' tk hv st' kk=>?_;obtain⟨t,rfl⟩:=hv;have I1:Inv X pins σ H { s with heap:=h',toks:=tk }:=I.turned (λb o hb e=>kk b o (by simpa using hb) e) f0 f1 f3 f4 f5;refine⟨_,rfl,qCX (s:={ s with heap:=h',toks:=tk }) (n:="range_iterator") st' rfl rfl (by decide) ⟨.int (lo+i),H,I1,⟨t,?_⟩,⟨rfl,rfl⟩,st',λb hb=>(hf b hb).1⟩⟩;rw[Int.mul_one]
done:=by intro X hP hw hK hc i pins s σ H E I hf st hg;subst hP hw hK;obtain⟨f0,f1,f2,f3,f4,f5⟩:=hf it (by simp);exact wpAny_pyNext_range_end (I.ok.hd hc) st (by have:n≤i:=hg;omega) λh' eb=>⟨rfl,I.turned (t':=s.toks) (λb o hb e=>eb b o hb e) f0 f1 f3 f4 f5⟩
self:=λ_ _ _ _ _ st h=>wpAny_pyIter_rangeiter st h
section
variable{X:Cx}{tg:Expr}
noncomputable def qJX(K:PySem.W.Frag)(tl:TE):TI:=λσ H R=>tl σ H λx H1=>∃a,x=.ref a∧(∃xs,SqL K H1 a xs)∧R (Itl K a) H1
theorem jN{l:Expr}{tl:TE}(hl:PE X l tl):PI X tg l (qJX X.K tl):=by(
intro pins s σ H R I h
refine thn (hl pins s σ H _ I h) λv s1 hZ=>?_
obtain⟨x,H1,I1,r1,q1⟩:=hZ
obtain⟨a,e,⟨xs,hq⟩,q⟩:=q1
subst e
cases r1
obtain⟨its,rv,p,hz⟩:=I1.list hq
refine sV p.isList ?_
refine⟨s1.heap.objs.size,[s1.heap.objs.size],_,_,H1,rfl,I1.kept (t':=s1.toks) λb o e=>hU _ e,qC2 a _,⟨_,mD _ rfl,rfl,rfl⟩,λb hb=>?_,q⟩
have e:b=s1.heap.objs.size:=by simpa using hb
subst e
exact I1.fpOk (kN _) (I1.hok.fresh (kN _)))
theorem q8K{pins:List (Addr×Obj)}{σ:St}{H:Hp}{s:Shared}{R:It→Hp→Prop}{E:Value→Shared→Prop}{lo hi:Int}{t u v:Tok}{tk:Nat}(I:Inv X pins σ H s)(h1:-(2 ^ 62)≤lo)(h2:lo<2 ^ 62)(h3:-(2 ^ 62)≤hi)(h4:hi<2 ^ 62)
 (q:R (Itr lo (hi-lo).toNat) H):wpAny (model X.prog X.w) X.A (pyIter (.ref s.heap.objs.size)) (PIE X pins σ tg R) E { s with heap:=s.heap.push { cls:=.type "range",data:=.fields #[.int lo t,.int hi u,.int 1 v] },toks:=tk }:=by(
refine wpAny_pyIter_range (IsRange.new ..) (small_one h1 h2 h3 h4) ?_
have I1:Inv X pins σ H { s with heap:=s.heap.push { cls:=.type "range",data:=.fields #[.int lo t,.int hi u,.int 1 v] },toks:=tk }:=I.kept λb o e=>hU _ e
refine⟨(s.heap.push { cls:=.type "range",data:=.fields #[.int lo t,.int hi u,.int 1 v] }).objs.size,[(s.heap.push { cls:=.type "range",data:=.fields #[.int lo t,.int hi u,.int 1 v] }).objs.size],_,_,H,rfl,I1.kept (t':=tk) λb o e=>hU _ e,qA1 _ lo (hi-lo).toNat,?_,λb hb=>?_,q⟩
·have e1:lo+((0:Nat):Int)*1=lo:=by simp
 have e2:(((hi-lo).toNat:Nat):Int)-((0:Nat):Int)=Builtin.Range.rangeSize lo hi 1:=by rw[rangeSize_one];split<;>omega
 show IsRangeIter _ _ (lo+((0:Nat):Int)*1) ((((hi-lo).toNat:Nat):Int)-((0:Nat):Int)) 1;rw[e1,e2];exact mD _ rfl
have e:b=(s.heap.push { cls:=.type "range",data:=.fields #[.int lo t,.int hi u,.int 1 v] }).objs.size:=by simpa using hb
subst e
exact I1.fpOk (kN _) (I1.hok.fresh (kN _)))
noncomputable def qJY(ta:TA):TI:=λσ H R=>ta σ H λvs H1=>∃j:Int,vs=[.int j]∧-(2 ^ 62)≤j∧j<2 ^ 62∧R (Itr 0 j.toNat) H1
noncomputable def qJZ(ta:TA):TI:=λσ H R=>ta σ H λvs H1=>∃i j:Int,vs=[.int i,.int j]∧(-(2 ^ 62)≤i∧i<2 ^ 62∧-(2 ^ 62)≤j∧j<2 ^ 62)∧R (Itr i (j-i).toNat) H1
theorem q6K{a:Expr}{ta:TA}{p pos:Pos}(hg:Gl X "range")(hm:X.mg "range"=none)(ha:PA X [a] ta)(hs:starEach [a] X.env=[(false,eval a X.env)]:=by rfl):PI X tg (.Call (.Name "range" p) [a] [] pos) (qJY ta):=by(
intro pins s σ H R I h
refine Call_ (q0R I hg hm boot_range (cC (thn (ha pos pins s σ H _ I h) λus s1 hZ=>?_) hs rfl))
obtain⟨vs,H1,I1,r1,q1⟩:=hZ
obtain⟨j,e,q1,q2,q⟩:=q1
subst e
cases r1 with
|cons r rr=>cases rr;obtain⟨t,rfl⟩:=r;exact call_range_1 (q8K I1 (by omega) (by omega) q1 q2 (by simpa using q)))
theorem q6L{a b:Expr}{ta:TA}{p pos:Pos}(hg:Gl X "range")(hm:X.mg "range"=none)(ha:PA X [a,b] ta)(hs:starEach [a,b] X.env=[(false,eval a X.env),(false,eval b X.env)]:=by rfl)(hs2:starEach [b] X.env=[(false,eval b X.env)]:=by rfl):
 PI X tg (.Call (.Name "range" p) [a,b] [] pos) (qJZ ta):=by(
intro pins s σ H R I h
refine Call_ (q0R I hg hm boot_range (cC (thn (ha pos pins s σ H _ I h) λus s1 ⟨vs,H1,I1,r1,q1⟩=>?_) (by rw[hs,hs2]) (by rw[hs2];rfl)))
obtain⟨i,j,e,⟨q1,q2,q3,q4⟩,q⟩:=q1
subst e
cases r1 with
|cons r rr=>
 cases rr with
 |cons r' rr=>cases rr;obtain⟨t,rfl⟩:=r;obtain⟨t',rfl⟩:=r';exact call_range_2 (q8K I1 q1 q2 q3 q4 q))
noncomputable def tFor(wi:TI)(g:TG)(tb:TS):TS:=λD σ H=>wi σ H λJ H1=>∃W:Nat→Nat→St→Hp→Prop,(∃m,W 0 m σ H1)∧∀i m σ H,W i m σ H→(J.stop i H∧D.nx σ H)∨(J.go i H∧∃N:St→Hp→Prop,(∀σ' H',N σ' H'→∃m',m'<m∧W (i+1) m' σ' H')∧∀x H',J.yld i H x H'→g x σ H' λσ2 H2=>tb { D with nx:=N,ct:=N,bk:=D.nx } σ2 H2)
noncomputable def q4T(fp:List Addr)(h:Heap):List (Addr×Obj):=fp.filterMap λb=>(h.get? b).map λo=>(b,o)
theorem yC{fp:List Addr}{h:Heap}{b:Addr}{o:Obj}(hb:b∈fp)(e:h.get? b=some o):(b,o)∈q4T fp h:=wN.mpr ⟨b,hb,by rw[e];rfl⟩
theorem qC3{fp:List Addr}{h:Heap}{p:Addr×Obj}(hp:p∈q4T fp h):p.1∈fp∧h.get? p.1=some p.2:=by(
obtain⟨b,hb,e⟩:=wN.mp hp
cases q:h.get? b with
|none=>rw[q]at e;cases e
|some o=>rw[q]at e;have e':(b,o)=p:=kU e;subst e';exact⟨hb,q⟩)
theorem Inv.pinned{pins:List (Addr×Obj)}{σ:St}{H:Hp}{s:Shared}{fp:List Addr}(I:Inv X pins σ H s)(hf:∀b∈fp,FpOk X pins H b)(ho:∀b∈fp,∃o,s.heap.get? b=some o∧∀v,o.data≠ .cell v):Inv X (pins++q4T fp s.heap) σ H s:=I.pins_of λp hp=>(gH.mp hp).elim (λz=>I.pin p (kQ _ z)) λz=>by  obtain⟨hb,e⟩:=qC3 z;obtain⟨f0,f1,f2,_⟩:=hf p.1 hb;obtain⟨o,e',d⟩:=ho p.1 hb;rw[e]at e';cases e';exact⟨e,f0,f1,f2,d⟩
theorem Inv.unpinned{pins pl:List (Addr×Obj)}{σ:St}{H:Hp}{s:Shared}(I:Inv X (pins++pl) σ H s):Inv X pins σ H s:=I.pins_of λp hp=>I.pin p (kQ _ (gK _ hp))
theorem vD{iter:Expr}{body:List Stmt}{wi:TI}{g:TG}{tb:TS}{pos:Pos}(hp:PassesOwn (model X.prog X.w) X.A X.env X.xe)(hc:X.calm=true)(hi:PI X tg iter wi)(hg:PG X tg g)(hb:PSs X body tb)
 (hs:∀x,foldedSetIterable iter X.env x=pure x:=by intro _;rfl):PS X (.For tg iter body [] pos) (tFor wi g tb):=by(
intro pins s σ H D I h
refine wpAny_For (thn (hi pins s σ H _ I h) λv s1 h1=>thn h1 λitv s2 h2=>?_) hs
obtain⟨it,fp,tn,J,H2,e,I2,T,st2,f2,W,⟨m0,w0⟩,turn⟩:=h2
subst e
have stat:∀{H':Hp},(∀b∈fp,H' b=none)→∀b∈fp,FpOk X pins H' b:=λhn b hb=>⟨hn b hb,(f2 b hb).2⟩
refine codeAny_forLoop_any (λn s'=>∃i σ' H',Inv X pins σ' H' s'∧tn i s'.heap∧(∀b∈fp,H' b=none)∧W i n σ' H') ?_ m0 ⟨0,σ,H2,I2,st2,λb hb=>(f2 b hb).1,w0⟩
rintro n s3 ⟨i,σ3,H3,I3,st3,fr3,w3⟩
rcases turn i n σ3 H3 w3 with⟨stop,qn⟩|⟨go,N,hN,step⟩
·refine rW hp (thn (T.done X rfl rfl rfl hc i pins s3 σ3 H3 X.xe I3 (stat fr3) st3 stop) λr s4 hZ=>?_);obtain⟨hr,I4⟩:=hZ;subst hr;exact pW ⟨σ3,H3,I4,qn⟩
refine rW hp (thn (T.item X rfl rfl rfl hc i pins s3 σ3 H3 X.xe I3 (stat fr3) st3 go) λr s4 hZ=>?_)
obtain⟨u,hr,h4⟩:=hZ
subst hr
refine rW hp (thn h4 λ_ s5 hZ=>?_)
obtain⟨x,H5,I5,r5,y5,st5,fr5⟩:=hZ
have I5':=I5.pinned (stat fr5) (T.obj _ _ st5)
refine rW hp (thn (hg _ s5 σ3 H5 x u _ I5' r5 (step x H5 y5)) λ_ s6 hZ=>?_)
obtain⟨σ6,H6,I6,q6⟩:=hZ
refine rW hp (thn (hb _ s6 σ6 H6 _ I6 q6) λf s7 q7=>?_)
have again:∀{σ7:St} {H7:Hp},Inv X (pins++q4T fp s5.heap) σ7 H7 s7→N σ7 H7→∃m,m<n∧∃i σ' H',Inv X pins σ' H' s7∧tn i s7.heap∧(∀b∈fp,H' b=none)∧W i m σ' H':=fun {σ7 H7} I7 n7=>by obtain⟨m',hm,w7⟩:=hN σ7 H7 n7;refine⟨m',hm,i+1,σ7,H7,I7.unpinned,T.keep _ _ _ st5 λb hb o e=>(I7.pin (b,o) (kQ _ (kQ _ (yC hb e)))).1,λb hb=>?_,w7⟩;obtain⟨o,e,d⟩:=T.obj _ _ st5 b hb;exact(I7.pin (b,o) (kQ _ (kQ _ (yC hb e)))).2.1
cases f with
|next=>obtain⟨σ7,H7,I7,n7⟩:=q7;exact again I7 n7
|cont=>obtain⟨σ7,H7,I7,n7⟩:=q7;exact again I7 n7
|brk=>obtain⟨σ7,H7,I7,q7⟩:=q7;exact⟨σ7,H7,I7.unpinned,q7⟩
|ret v=>obtain⟨x7,σ7,H7,I7,r7,q7⟩:=q7;exact⟨x7,σ7,H7,I7.unpinned,r7,q7⟩)
end
theorem zP{K:PySem.W.Frag}{a:Addr}{xs:List V}{g:TG}{tb:TS}{D:Ends}{σ:St}{H:Hp}(Pv:Nat→St→Hp→Prop)(h0:Pv 0 σ H)(hl:∀i σ H,i≤xs.length→Pv i σ H→SqL K H a xs)
 (hs:∀i x σ H,xs[i]?=some x→Pv i σ H→g x σ H λσ2 H2=>tb { D with nx:=Pv (i+1),ct:=Pv (i+1),bk:=D.nx } σ2 H2) (hd:∀σ H,Pv xs.length σ H→D.nx σ H):
 ∃W:Nat→Nat→St→Hp→Prop,(∃m,W 0 m σ H)∧∀i m σ H,W i m σ H→((Itl K a).stop i H∧D.nx σ H)∨((Itl K a).go i H∧∃N:St→Hp→Prop,(∀σ' H',N σ' H'→∃m',m'<m∧W (i+1) m' σ' H')∧∀x H',(Itl K a).yld i H x H'→g x σ H' λσ2 H2=>tb { D with nx:=N,ct:=N,bk:=D.nx } σ2 H2):=by(
refine⟨λi m σ H=>m=xs.length-i∧i≤xs.length∧Pv i σ H,⟨xs.length,by simp,mM _,h0⟩,?_⟩
rintro i m σ H ⟨rfl,hi,p⟩
have q:=hl i σ H hi p
by_cases hlt:i<xs.length
·refine .inr ⟨⟨xs,xs[i],q,by simp[hlt]⟩,Pv (i+1),λσ' H' p'=>⟨xs.length-(i+1),by omega,rfl,hlt,p'⟩,λx H' y=>?_⟩;obtain⟨e,y⟩:=y;subst e;exact hs i x σ _ (y xs q) p
have e:i=xs.length:=by omega
subst e
exact .inl ⟨⟨xs,q,kN _⟩,hd σ H p⟩)
theorem q6M{lo:Int}{n:Nat}{g:TG}{tb:TS}{D:Ends}{σ:St}{H:Hp}(Pv:Nat→St→Hp→Prop)(h0:Pv 0 σ H)
 (hs:∀i σ H,i<n→Pv i σ H→g (.int (lo+i)) σ H λσ2 H2=>tb { D with nx:=Pv (i+1),ct:=Pv (i+1),bk:=D.nx } σ2 H2) (hd:∀σ H,Pv n σ H→D.nx σ H):
 ∃W:Nat→Nat→St→Hp→Prop,(∃m,W 0 m σ H)∧∀i m σ H,W i m σ H→((Itr lo n).stop i H∧D.nx σ H)∨((Itr lo n).go i H∧∃N:St→Hp→Prop,(∀σ' H',N σ' H'→∃m',m'<m∧W (i+1) m' σ' H')∧∀x H',(Itr lo n).yld i H x H'→g x σ H' λσ2 H2=>tb { D with nx:=N,ct:=N,bk:=D.nx } σ2 H2):=by(
refine⟨λi m σ H=>m=n-i∧i≤n∧Pv i σ H,⟨n,by simp,mM _,h0⟩,?_⟩
rintro i m σ H ⟨rfl,hi,p⟩
by_cases hlt:i<n
·refine .inr ⟨hlt,Pv (i+1),λσ' H' p'=>⟨n-(i+1),by omega,rfl,hlt,p'⟩,λx H' y=>?_⟩;obtain⟨e,y⟩:=y;subst e y;exact hs i σ _ hlt p
have e:i=n:=by omega
subst e
exact .inl ⟨kN _,hd σ H p⟩)
noncomputable abbrev R2:=V→V→Hp→VK→Prop
noncomputable def OpR(X:Cx)(f:Value→Value→Sem Value)(r:R2):Prop:=∀(pins:List (Addr×Obj)) (s:Shared) (σ:St) (H:Hp) (x y:V) (v u:Value) (Q:VK),Inv X pins σ H s→RelV x v→RelV y u→r x y H Q→wpAny (model X.prog X.w) X.A (f v u) (EP X pins σ Q) X.xe s
noncomputable def q0T(X:Cx)(f:Value)(r:List V→Hp→VK→Prop):Prop:=∀(pins:List (Addr×Obj)) (s:Shared) (σ:St) (H:Hp) (xs:List V) (us:List Value) (Q:VK),Inv X pins σ H s→Vals xs us→r xs H Q→wpAny (model X.prog X.w) X.A (call f us) (EP X pins σ Q) X.xe s
noncomputable def tOp(r:R2)(ta tb:TE):TE:=λσ H Q=>ta σ H λx H1=>tb σ H1 λy H2=>r x y H2 Q
noncomputable def rI(C:Int→Int→Prop)(g:Int→Int→V):R2:=λx y H Q=>∃i j,x=.int i∧y=.int j∧C i j∧Q (g i j) H
noncomputable def rI0(g:Int→Int→V):R2:=λx y H Q=>∃i j,x=.int i∧y=.int j∧Q (g i j) H
section
variable{X:Cx}{a b c:Expr}{ta tb tc:TE}{pos:Pos}
theorem binT(ha:PE X a ta)(hb:PE X b tb){pins:List (Addr×Obj)}{s:Shared}{σ:St}{H:Hp}{R:V→V→Hp→Prop}(I:Inv X pins σ H s)
 (h:ta σ H λx H1=>tb σ H1 λy H2=>R x y H2) {Q:Value→Shared→Prop} {f:Value→Value→Sem Value}
 (hf:∀v u s2 x y H2,Inv X pins σ H2 s2→RelV x v→RelV y u→R x y H2→wpAny (model X.prog X.w) X.A (f v u) Q X.xe s2):
 wpAny (model X.prog X.w) X.A (eval a X.env) (λv s₁=>wpAny (model X.prog X.w) X.A (eval b X.env) (λu s₂=>wpAny (model X.prog X.w) X.A (f v u) Q X.xe s₂) X.xe s₁) X.xe s:=by(
refine thn (ha pins s σ H _ I h) λv s1 hZ=>?_
obtain⟨x,H1,I1,r1,q1⟩:=hZ
refine thn (hb pins s1 σ H1 _ I1 q1) λu s2 hZ=>?_
obtain⟨y,H2,I2,r2,q2⟩:=hZ
exact hf v u s2 x y H2 I2 r1 r2 q2)
theorem qR{op:Operator}{r:R2}(ho:OpR X (binaryOp op) r)(ha:PE X a ta)(hb:PE X b tb):PE X (.BinOp a op b pos) (tOp r ta tb):=by intro pins s σ H Q I h;exact wpAny_BinOp (binT ha hb I h λv u s2 x y H2 I2 rx ry q=>ho pins s2 σ H2 x y v u Q I2 rx ry q)
theorem opI{f:Value→Value→Sem Value}{C:Int→Int→Prop}{g:Int→Int→Int}
 (rule:∀(i j:Int) (t u:Tok) (s:Shared) (Q:Value→Shared→Prop) (E:Value→Shared→Prop),C i j→Q (.int (g i j) s.toks) { s with toks:=s.toks+1 }→wpAny (model X.prog X.w) X.A (f (.int i t) (.int j u)) Q E s):
 OpR X f (rI C λi j=>.int (g i j)):=by(
intro pins s σ H x y v u Q I rx ry h
obtain⟨i,j,rfl,rfl,hc,q⟩:=h
obtain⟨t,rfl⟩:=rx
obtain⟨t',rfl⟩:=ry
exact rule i j t t' s _ _ hc ⟨.int (g i j),H,I.tok _,⟨_,rfl⟩,q⟩)
theorem opI0{f:Value→Value→Sem Value}{g:Int→Int→Int}
 (rule:∀(i j:Int) (t u:Tok) (s:Shared) (Q:Value→Shared→Prop) (E:Value→Shared→Prop),Q (.int (g i j) s.toks) { s with toks:=s.toks+1 }→wpAny (model X.prog X.w) X.A (f (.int i t) (.int j u)) Q E s):
 OpR X f (rI0 λi j=>.int (g i j)):=by(
intro pins s σ H x y v u Q I rx ry h
obtain⟨i,j,rfl,rfl,q⟩:=h
obtain⟨t,rfl⟩:=rx
obtain⟨t',rfl⟩:=ry
exact rule i j t t' s _ _ ⟨.int (g i j),H,I.tok _,⟨_,rfl⟩,q⟩)
theorem opB0{f:Value→Value→Sem Value}{g:Int→Int→Bool}
 (rule:∀(i j:Int) (t u:Tok) (s:Shared) (Q:Value→Shared→Prop) (E:Value→Shared→Prop),Q (.bool (g i j)) s→wpAny (model X.prog X.w) X.A (f (.int i t) (.int j u)) Q E s):
 OpR X f (rI0 λi j=>.bl (g i j)):=by(
intro pins s σ H x y v u Q I rx ry h
obtain⟨i,j,rfl,rfl,q⟩:=h
obtain⟨t,rfl⟩:=rx
obtain⟨t',rfl⟩:=ry
exact rule i j t t' s _ _ ⟨.bl (g i j),H,I,rfl,q⟩)
noncomputable def CDiv(i j:Int):Prop:=0<j∧j<1073741824
noncomputable def CPow(i j:Int):Prop:=0≤j∧j≤1000000∧i.natAbs<2 ^ 64
noncomputable def CMul(i j:Int):Prop:=(-(2 ^ 64)<i∧i<2 ^ 64)∨(-(2 ^ 64)<j∧j<2 ^ 64)
theorem CMul.ok{i j:Int}(h:CMul i j):IntMulOk i j:=by(
rcases h with⟨h1,h2⟩|⟨h1,h2⟩
·exact .of_left (intBits_le_64 h1 h2)
exact .of_right (intBits_le_64 h1 h2))
theorem uN:OpR X (binaryOp .Add) (rI0 λi j=>.int (i+j)):=opI0 λ_ _ _ _ _ _ _ q=>add_int q
theorem vE:OpR X (binaryOp .Sub) (rI0 λi j=>.int (i-j)):=opI0 λ_ _ _ _ _ _ _ q=>sub_int q
theorem vF:OpR X (binaryOp .Mult) (rI CMul λi j=>.int (i*j)):=opI λ_ _ _ _ _ _ _ hc q=>mul_int q hc.ok
theorem v7:OpR X (binaryOp .FloorDiv) (rI CDiv λi j=>.int (i / j)):=opI λi j _ _ _ _ _ hc q=>by have h1:(0:Int)<j:=hc.1;have h2:j<1073741824:=hc.2;exact floordiv_int (by omega) (by rw[Int.fdiv_eq_ediv_of_nonneg i (by omega)];exact q) (.inl (PyProof.noPylong_small (by omega)))
theorem uD:OpR X (binaryOp .Mod) (rI (λ_ j=>0<j) λi j=>.int (i%j)):=opI λi j _ _ _ _ _ hc q=>by have h1:(0:Int)<j:=hc;exact mod_int' (by omega) (by rw[Int.fmod_eq_emod_of_nonneg i (by omega)];exact q)
theorem qCY:OpR X (binaryOp .Pow) (rI CPow λi j=>.int (i ^ j.toNat)):=opI λ_ _ _ _ _ _ _ hc q=>pow_int_small hc.1 hc.2.1 hc.2.2 q
theorem qHV:OpR X (binaryOp .LShift) (rI CPow λi j=>.int (i*2 ^ j.toNat)):=opI λ_ _ _ _ _ _ _ hc q=>lshift_int_small hc.1 hc.2.1 hc.2.2 q
theorem qK0:OpR X (binaryOp .BitOr) (rI0 λi j=>.int (Builtin.bitOr i j)):=opI0 λ_ _ _ _ _ _ _ q=>or_int q
end
noncomputable def scal:V→V→Bool
| .non,.non=>true| .non,.int _=>true| .int _,.non=>true| .non,.bl _=>true| .bl _,.non=>true| .non,.str _=>true| .str _,.non=>true
| .int _,.int _=>true| .bl _,.bl _=>true| .str _,.str _=>true| .byt _,.byt _=>true
| .int _,.str _=>true| .str _,.int _=>true| .bl _,.str _=>true| .str _,.bl _=>true
|_,_=>false
noncomputable def rEq:R2:=λx y H Q=>scal x y=true∧Q (.bl (decide (x=y))) H
noncomputable def rNe:R2:=λx y H Q=>scal x y=true∧Q (.bl (!decide (x=y))) H
theorem qAZ{i j:Int}:decide (V.int i=V.int j)=(i==j):=by rw[rX];simp
theorem qCZ{i j:Bool}:decide (V.bl i=V.bl j)=(i==j):=by rw[rX];simp
theorem qB0{i j:Str}:decide (V.str i=V.str j)=(i==j):=by rw[rX];simp
theorem qB1{i j:Array UInt8}:decide (V.byt i=V.byt j)=(i.toList==j.toList):=by(
rw[rX]
cases i
cases j
simp)
section
variable{X:Cx}{a b c:Expr}{ta tb tc:TE}{pos:Pos}
theorem jB{pins:List (Addr×Obj)}{σ:St}{H:Hp}{s:Shared}{Q:VK}{k k':Bool}(I:Inv X pins σ H s)(q:Q (.bl k) H)(e:k=k'):EP X pins σ Q (.bool k') s:=by subst e;exact⟨.bl k,H,I,rfl,q⟩
theorem q0L:OpR X (compareOp .Eq) rEq:=by(
intro pins s σ H x y v u Q I rx ry h
obtain⟨hs,q⟩:=h
cases x with
|non=>
 cases rx;cases y with
 |non=>cases ry;exact PySem.EqNone.eq_none_none (jB I q (by simp))
 |bl j=>cases ry;exact PySem.EqNone.eq_none_bool (jB I q (by simp))
 |int j=>obtain⟨t',rfl⟩:=ry;exact PySem.EqNone.eq_none_int (jB I q (by simp))
 |str j=>obtain⟨t',rfl⟩:=ry;exact PySem.EqNone.eq_none_str (jB I q (by simp))
 |_=>exact absurd (show false=true from hs) kO
|bl i=>
 cases rx;cases y with
 |non=>cases ry;exact PySem.EqNone.eq_bool_none (jB I q (by simp))
 |bl j=>cases ry;exact eq_bool (jB I q qCZ)
 |str j=>obtain⟨t',rfl⟩:=ry;exact bU (jB I q (by simp))
 |_=>exact absurd (show false=true from hs) kO
|int i=>
 obtain⟨t,rfl⟩:=rx;cases y with
 |non=>cases ry;exact PySem.EqNone.eq_int_none (jB I q (by simp))
 |int j=>obtain⟨t',rfl⟩:=ry;exact eq_int (jB I q qAZ)
 |str j=>obtain⟨t',rfl⟩:=ry;exact bY (jB I q (by simp))
 |_=>exact absurd (show false=true from hs) kO
|str i=>
 obtain⟨t,rfl⟩:=rx;cases y with
 |non=>cases ry;exact PySem.EqNone.eq_str_none (jB I q (by simp))
 |bl j=>cases ry;exact bV (jB I q (by simp))
 |int j=>obtain⟨t',rfl⟩:=ry;exact bZ (jB I q (by simp))
 |str j=>obtain⟨t',rfl⟩:=ry;exact eq_str (jB I q qB0)
 |_=>exact absurd (show false=true from hs) kO
|byt i=>
 obtain⟨t,rfl⟩:=rx;cases y with
 |byt j=>obtain⟨t',rfl⟩:=ry;exact PySem.W.eq_bytes (jB I q qB1)
 |_=>exact absurd (show false=true from hs) kO
|_=>cases y<;>exact absurd (show false=true from hs) kO)
theorem q8L:OpR X (compareOp .NotEq) rNe:=by(
intro pins s σ H x y v u Q I rx ry h
obtain⟨hs,q⟩:=h
cases x with
|non=>
 cases rx;cases y with
 |non=>cases ry;exact PySem.EqNone.ne_none_none (jB I q (by simp))
 |bl j=>cases ry;exact PySem.EqNone.ne_none_bool (jB I q (by simp))
 |int j=>obtain⟨t',rfl⟩:=ry;exact PySem.EqNone.ne_none_int (jB I q (by simp))
 |str j=>obtain⟨t',rfl⟩:=ry;exact PySem.EqNone.ne_none_str (jB I q (by simp))
 |_=>exact absurd (show false=true from hs) kO
|bl i=>
 cases rx;cases y with
 |non=>cases ry;exact PySem.EqNone.ne_bool_none (jB I q (by simp))
 |bl j=>cases ry;exact ne_bool (jB I q (rK not qCZ))
 |str j=>obtain⟨t',rfl⟩:=ry;exact bW (jB I q (by simp))
 |_=>exact absurd (show false=true from hs) kO
|int i=>
 obtain⟨t,rfl⟩:=rx;cases y with
 |non=>cases ry;exact PySem.EqNone.ne_int_none (jB I q (by simp))
 |int j=>obtain⟨t',rfl⟩:=ry;exact ne_int (jB I q (rK not qAZ))
 |str j=>obtain⟨t',rfl⟩:=ry;exact b9 (jB I q (by simp))
 |_=>exact absurd (show false=true from hs) kO
|str i=>
 obtain⟨t,rfl⟩:=rx;cases y with
 |non=>cases ry;exact PySem.EqNone.ne_str_none (jB I q (by simp))
 |bl j=>cases ry;exact bX (jB I q (by simp))
 |int j=>obtain⟨t',rfl⟩:=ry;exact eA (jB I q (by simp))
 |str j=>obtain⟨t',rfl⟩:=ry;exact ne_str (jB I q (rK not qB0))
 |_=>exact absurd (show false=true from hs) kO
|byt i=>
 obtain⟨t,rfl⟩:=rx;cases y with
 |byt j=>obtain⟨t',rfl⟩:=ry;exact PySem.W.ne_bytes (jB I q (rK not qB1))
 |_=>exact absurd (show false=true from hs) kO
|_=>cases y<;>exact absurd (show false=true from hs) kO)
theorem q4U:OpR X (compareOp .Lt) (rI0 λi j=>.bl (decide (i<j))):=opB0 λ_ _ _ _ _ _ _ q=>lt_int q
theorem qD0:OpR X (compareOp .LtE) (rI0 λi j=>.bl (decide (i≤j))):=opB0 λ_ _ _ _ _ _ _ q=>le_int q
theorem qK1:OpR X (compareOp .Gt) (rI0 λi j=>.bl (decide (j<i))):=opB0 λ_ _ _ _ _ _ _ q=>gt_int q
theorem qB2:OpR X (compareOp .GtE) (rI0 λi j=>.bl (decide (j≤i))):=opB0 λ_ _ _ _ _ _ _ q=>ge_int q
theorem qA2:OpR X (compareOp .Is) (λx y H Q=>y=.non∧Q (.bl (decide (x=.non))) H):=by(
intro pins s σ H x y v u Q I rx ry h
obtain⟨rfl,q⟩:=h
cases ry
refine is_none_gen (jB I q ?_)
cases x<;>first
 |(cases rx;rfl)
 |(obtain⟨t,rfl⟩:=rx;rfl))
theorem q4E:OpR X (compareOp .IsNot) (λx y H Q=>y=.non∧Q (.bl (!decide (x=.non))) H):=by(
intro pins s σ H x y v u Q I rx ry h
obtain⟨rfl,q⟩:=h
cases ry
refine isnot_none_gen (jB I q ?_)
cases x<;>first
 |(cases rx;rfl)
 |(obtain⟨t,rfl⟩:=rx;rfl))
theorem qY(b:Expr){op:CmpOp}(h:op≠ .In:=by decide)(h2:op≠ .NotIn:=by decide):behindInMarks op b=false:=by(
have e1:(op==CmpOp.In)=false:=by cases op<;>first|rfl|exact absurd rfl h
have e2:(op==CmpOp.NotIn)=false:=by cases op<;>first|rfl|exact absurd rfl h2
cases b<;>simp[behindInMarks,e1,e2])
theorem q03{op:CmpOp}{r:R2}(ho:OpR X (compareOp op) r)(ha:PE X a ta)(hb:PE X b tb)(hm:behindInMarks op b=false):PE X (.Compare a [op] [b] pos) (tOp r ta tb):=by intro pins s σ H Q I h;exact wpAny_Compare1 (binT ha hb I h λv u s2 x y H2 I2 rx ry q=>ho pins s2 σ H2 x y v u Q I2 rx ry q) hm
noncomputable def qH5(t:TE):TT:=λσ H Q=>t σ H λx H'=>∃k,x=.bl k∧Q k H'
theorem qU{op:CmpOp}{r:R2}(ho:OpR X (compareOp op) r)(ha:PE X a ta)(hb:PE X b tb)(hm:behindInMarks op b=false):PT X (.Compare a [op] [b] pos) (qH5 (tOp r ta tb)):=by(
intro pins s σ H Q I h
refine lO (thn (ha pins s σ H _ I h) λv s1 ⟨x,H1,I1,r1,q1⟩=>thn (hb pins s1 σ H1 _ I1 q1) λu s2 ⟨y,H2,I2,r2,q2⟩=>thn (ho pins s2 σ H2 x y v u _ I2 r1 r2 q2) λc s3 ⟨z,H3,I3,r3,k,e,q3⟩=>?_) hm
subst e
cases r3
exact gP ⟨H3,I3,q3⟩)
noncomputable def qD1(r r':R2)(ta tb tc:TE):TE:=λσ H Q=>ta σ H λx H1=>tb σ H1 λy H2=>r x y H2 λz H3=>∃k,z=.bl k∧(if k=true then tc σ H3 λw' H4=>r' y w' H4 Q else Q (.bl false) H3)
theorem qD2{op op':CmpOp}{r r':R2}(ho:OpR X (compareOp op) r)(ho':OpR X (compareOp op') r')(ha:PE X a ta)(hb:PE X b tb)(hc:PE X c tc)
 (hm:lastMarks [op,op'] [b,c]=false:=by with_unfolding_all rfl):PE X (.Compare a [op,op'] [b,c] pos) (qD1 r r' ta tb tc):=by(
intro pins s σ H Q I h
refine Compare_chain (thn (ha pins s σ H _ I h) λv s1 ⟨x,H1,I1,r1,q1⟩=>chain_link (thn (hb pins s1 σ H1 _ I1 q1) λu s2 ⟨y,H2,I2,r2,q2⟩=>thn (ho pins s2 σ H2 x y v u _ I2 r1 r2 q2) λd s3 ⟨z,H3,I3,r3,k,e,q3⟩=>?_)) hm
subst e
cases r3
refine gP ?_
cases k with
|false=>exact ite_ff ⟨.bl false,H3,I3,rfl,q3⟩
|true=>exact ite_tt (chain_last (thn (hc pins s3 σ H3 _ I3 q3) λw' s4 ⟨z',H4,I4,r4,q4⟩=>ho' pins s4 σ H4 y z' u w' Q I4 r2 r4 q4)))
theorem qD3{op op':CmpOp}{r r':R2}(ho:OpR X (compareOp op) r)(ho':OpR X (compareOp op') r')(ha:PE X a ta)(hb:PE X b tb)(hc:PE X c tc)
 (hm:lastMarks [op,op'] [b,c]=false:=by with_unfolding_all rfl):PT X (.Compare a [op,op'] [b,c] pos) (qH5 (qD1 r r' ta tb tc)):=by(
intro pins s σ H Q I h
refine isTrue_chain (thn (ha pins s σ H _ I h) λv s1 ⟨x,H1,I1,r1,q1⟩=>test_link (thn (hb pins s1 σ H1 _ I1 q1) λu s2 ⟨y,H2,I2,r2,q2⟩=>thn (ho pins s2 σ H2 x y v u _ I2 r1 r2 q2) λd s3 ⟨z,H3,I3,r3,k,e,q3⟩=>?_)) hm
subst e
cases r3
refine gP ?_
cases k with
|false=>obtain⟨k',e',q'⟩:=q3;cases e';exact ite_ff ⟨H3,I3,q'⟩
|true=>refine ite_tt (test_last (thn (hc pins s3 σ H3 _ I3 q3) λw' s4 ⟨z',H4,I4,r4,q4⟩=>thn (ho' pins s4 σ H4 y z' u w' _ I4 r2 r4 q4) λd' s5 hZ=>?_));obtain⟨z2,H5,I5,r5,k2,e2,q5⟩:=hZ;subst e2;cases r5;exact gP ⟨H5,I5,q5⟩)
theorem q4V:(sizeLine:Nat)<2 ^ 63:=by rw[gJ];decide
theorem zQ{x:V}{us:List Value}(r:Vals [x] us):∃u,us=[u]∧RelV x u:=by
 cases r with
 |cons r1 r2=>cases r2;exact⟨_,rfl,r1⟩
theorem qH6{x y:V}{us:List Value}(r:Vals [x,y] us):∃u w',us=[u,w']∧RelV x u∧RelV y w':=by(
cases r with
|cons r1 r2=>
 cases r2 with
 |cons r3 r4=>cases r4;exact⟨_,_,rfl,r1,r3⟩)
theorem q6N(hc:X.calm=true):q0T X (.builtin "min") (λxs H Q=>∃i j,xs=[.int i,.int j]∧Q (.int (if j<i then j else i)) H):=by(
intro pins s σ H xs us Q I r h
obtain⟨i,j,rfl,q⟩:=h
obtain⟨u,w',rfl,⟨t,rfl⟩,⟨t',rfl⟩⟩:=qH6 r
refine min_two_ints (I.ok.hd hc) λh' tk k=>⟨_,H,I.kept k,?_,q⟩
by_cases hj:j<i
·rw[kI hj,kI hj];exact⟨_,rfl⟩
rw[kF hj,kF hj];exact⟨_,rfl⟩)
end
structure ObjM(h:Heap)(x dx C:Addr)(mA:Str→Option Value):Prop where
obj:h.get? x=some (PySem.W.instObj C dx)
ns:h.Ns1 dx mA
ne:dx≠x
theorem q6O{h:Heap}{dx:Addr}{mA:Str→Option Value}(n:h.Ns1 dx mA):∃od,h.get? dx=some od∧∀name,PySem.W.lookIn name od=some (mA name):=by(
obtain⟨o,es,ep,ho,hd,hk,_,hm⟩:=n
refine⟨o,ho,λname=>?_⟩
have e:=hm name
unfold nsFind findBy at e
rw[←Array.find?_toList]at e
unfold PySem.W.lookIn
rw[hd]
dsimp only
split
·rename_i y q;rw[q]at e;exact rK some e
rename_i q
rw[q]at e
have a:es.toList.any (·.refKey)=false:=by rw[List.any_eq_false];intro y hy;obtain⟨z,t,hkey⟩:=hk y (Array.mem_toList_iff.mp hy);simp[DictEntry.refKey,hkey]
have a':¬es.toList.any (·.refKey)=true:=by rw[a];exact kO
rw[kF a']
exact rK some e)
theorem ObjM.look{h:Heap}{x dx C:Addr}{mA:Str→Option Value}(I:ObjM h x dx C mA):∃od,PySem.W.InstAt h x (PySem.W.instObj C dx) C (some od)∧∀name,PySem.W.lookIn name od=some (mA name):=let⟨od,ho,hl⟩:=q6O I.ns
 ⟨od,⟨I.obj,rfl,rfl,ho⟩,hl⟩
section
variable{prog:Program}{w:World}{A:Around}{E:Value→Shared→Prop}{s:Shared}{K:PySem.W.Frag}{x dx C f:Addr}{mA:Str→Option Value}{name:Str}{v:Value}
theorem qFA{expr:Bool}{Q:Value→Shared→Prop}(X:K.In s.heap)(I:ObjM s.heap x dx C mA)(hg:PySem.W.plainGet K C name=true)(hh:PySem.W.hasDictIn K C=true)
 (ha:PySem.W.findIn K (.ref C) name=some none) (hv:mA name=some v) (hv':PySem.W.handedIn v=true) (h:Q v { s with toks:=s.toks+1 }):
 wpAny (model prog w) A (getAttr (.ref x) name expr) Q E s:=by obtain⟨od,J,hl⟩:=I.look;exact PySem.W.get_value X J (p6 hg).1 (PySem.W.findObj_own hh ha rfl (by rw[hl,hv])) hv' h
theorem qD4{pl:Sem Bool}{Q:Value×List Value→Shared→Prop}(X:K.In s.heap)(I:ObjM s.heap x dx C mA)(hg:PySem.W.plainGet K C name=true)
 (hf:PySem.W.findIn K (.ref C) name=some (some (.ref f))) (ht:PySem.W.isFn K (.ref f)=true) (hv:mA name=none) (h:Q (.ref f,[.ref x]) s):
 wpAny (model prog w) A (getMethod (.ref x) name pl) Q E s:=by obtain⟨od,J,hl⟩:=I.look;exact PySem.W.method_fn X J (p6 hg).1 (p6 hg).2 hf (wA.mp ht) (by show(PySem.W.lookIn name od).map (·.isSome)=some false;rw[hl,hv];rfl) h
theorem qFB{ns:List Str}{Q:Unit→Shared→Prop}(X:K.In s.heap)(I:ObjM s.heap x dx C mA)
 (hs:PySem.W.findIn K (.ref C) "__setattr__"=some (some (.builtin "object.__setattr__"))) (hp:PySem.W.plainOver K C=true) (ht:PySem.W.takerIn K C name=some none) (hh:PySem.W.hasDictIn K C=true)
 (hw:PySem.Within mA ns) (hsz:ns.length≤sizeLine)
 (h:∀h',ObjM h' x dx C (λy=>if y=name then some v else mA y)→Heap.SameBut dx s.heap h'→Q () { s with heap:=h',toks:=s.toks+2 }):
 wpAny (model prog w) A (setAttr (.ref x) name v) Q E s:=by(
obtain⟨od,J,hl⟩:=I.look
refine PySem.W.set_plain X J hs (PySem.W.osa_open (s:={ s with toks:=s.toks+1 }) (r:=none) X J hp ht λb=>?_)
obtain⟨cd,hc,hd'⟩:=pK hh
have hx:s.heap.get? x=some ⟨.ref C,some dx,.plain,#[]⟩:=I.obj
refine hG (kL (hG (hG (wpAny_loadPart hx (hG (eQ (s:={ s with toks:=s.toks+1 }) (PySem.W.looks_clsIn X hc) ?_))))))
rw[hd']
refine kL (a:=some dx) (hG (kL (hG ?_)))
refine wpAny_nsSet1 (s:={ s with toks:=s.toks+1 }) I.ns λh' hn2 hs2=>?_
obtain⟨oD,esD,epD,hoD,hdD,hcD⟩:=hn2.count (PySem.Within.cons name v hw)
refine hG (wpAny_lookBehind hoD (by rw[hdD];exact pastItsLine_dict (mF hcD (by rw[mC];omega))) ?_)
exact kL (h _ ⟨(hs2.2 _ (wM I.ne)).trans I.obj,hn2,I.ne⟩ hs2))
theorem qD5{R:Result→Shared→Prop}{vs:List Value}{kw:List (Str×Value)}(X:K.In s.heap)(hm:PySem.W.makesIn K C=true)
 (hi:PySem.W.findIn K (.ref C) "__init__"=some (some (.ref f))) (hf:PySem.W.typeIn K (.ref f)=some (.type "function"))
 (h:codeAny (model prog w) (A.under (.builtin "type.__call__" ⟨.ref C::vs,kw⟩)) (.call (.ref f) ⟨.ref (s.heap.objs.size+1)::vs,kw⟩) (PySem.W.InitBack (s.heap.objs.size+1) R)
  { s with heap:=(s.heap.push PySem.W.emptyDict).push (PySem.W.instObj C s.heap.objs.size) }):
 codeAny (model prog w) A (.call (.ref C) ⟨vs,kw⟩) R s:=by obtain⟨hh,g,d,t,os⟩:=s;exact aD (aU X hm) (cI X hi) (λself=>PySem.W.bind_fn X self hf) (.inl rfl) h
end
noncomputable def putF(f:Str)(v:V):List (Str×V)→List (Str×V)
| []=>[(f,v)]
|(g,x)::r=>if g=f then(g,v)::r else(g,x)::putF f v r
theorem q3U(f g:Str)(v:V):∀fs:List (Str×V),(putF f v fs).lookup g=if g=f then some v else fs.lookup g
| []=>by
 show List.lookup g [(f,v)]=_;by_cases h:g=f
 ·have hb:(g==f)=true:=wA.mpr h;simp only[List.lookup,hb,kI h]
 have hb:(g==f)=false:=rJ.mpr h;simp only[List.lookup,hb,kF h]
|(k,x)::r=>by
 have ih:=q3U f g v r;rw[show putF f v ((k,x)::r)=(if k=f then(k,v)::r else(k,x)::putF f v r)from rfl];by_cases hk:k=f
 ·rw[kI hk];by_cases h:g=k
  ·have hb:(g==k)=true:=wA.mpr h;simp only[List.lookup,hb,kI (h.trans hk)]
  have hb:(g==k)=false:=rJ.mpr h;simp only[List.lookup,hb,kF (λe:g=f=>h (e.trans hk.symm))]
 rw[kF hk];by_cases h:g=k
 ·have hb:(g==k)=true:=wA.mpr h;simp only[List.lookup,hb,kF (λe:g=f=>hk (h.symm.trans e))]
 have hb:(g==k)=false:=rJ.mpr h;simp only[List.lookup,hb];exact ih
theorem q3I(f:Str)(v:V):∀fs:List (Str×V),f∈(putF f v fs).map (·.1)∧∀g,g∈fs.map (·.1)→g∈(putF f v fs).map (·.1)
| []=>⟨by simp[putF],λg h=>by simp at h⟩
|(k,x)::r=>by
 obtain⟨i1,i2⟩:=q3I f v r;rw[show putF f v ((k,x)::r)=(if k=f then(k,v)::r else(k,x)::putF f v r)from rfl];by_cases hk:k=f
 ·rw[kI hk];subst hk;exact⟨by simp,λg h=>by simpa using h⟩
 rw[kF hk];refine⟨?_,λg h=>?_⟩
 ·rw[mJ];exact kC _ i1
 rw[mJ]at h ⊢;rcases kM.mp h with e|e
 ·exact kM.mpr (.inl e)
 exact kC _ (i2 g e)
theorem q3V(f:Str)(v:V):∀fs:List (Str×V),(putF f v fs).length≤fs.length+1
| []=>by simp[putF]
|(k,x)::r=>by
 have ih:=q3V f v r;rw[show putF f v ((k,x)::r)=(if k=f then(k,v)::r else(k,x)::putF f v r)from rfl];by_cases hk:k=f
 ·rw[kI hk,mC,mC];omega
 rw[kF hk,mC,mC];omega
theorem RelO.some_of{v:V}{o:Option Value}(r:RelO (some v) o):∃u,o=some u∧RelV v u:=by(
cases o with
|none=>exact(show False from r).elim
|some u=>exact⟨u,rfl,r⟩)
theorem RelO.none_of{o:Option Value}(r:RelO none o):o=none:=by(
cases o with
|none=>rfl
|some u=>exact(show False from r).elim)
theorem qC4{v:V}{u:Value}(r:RelV v u):PySem.W.handedIn u=true:=by(
cases v with
|non=>cases(show u=Value.none from r);rfl
|bl b=>cases(show u=Value.bool b from r);rfl
|int i=>obtain⟨t,e⟩:=(show ∃t,u=Value.int i t from r);cases e;rfl
|str x=>obtain⟨t,e⟩:=(show ∃t,u=Value.str x t from r);cases e;rfl
|byt b=>obtain⟨t,e⟩:=(show ∃t,u=Value.bytes b t from r);cases e;rfl
|flt b=>obtain⟨t,e⟩:=(show ∃t,u=Value.float b t from r);cases e;rfl
|ref a=>cases(show u=Value.ref a from r);rfl
|ty n=>cases(show u=Value.type n from r);rfl)
section
variable{P:Program}{w:World}{H H':Hp}{h h':Heap}{a C dx:Addr}{fs fs':List (Str×V)}
theorem q4F(hok:HOk P w H h)(e:H a=some (.ins C dx fs)):∃mA,ObjM h a dx C mA∧(∀f,RelO (fs.lookup f) (mA f))∧PySem.Within mA (fs.map (·.1))∧fs.length≤1000∧H dx=some (.own a):=by obtain⟨d,z,ne,ob,mA,n,r,q⟩:=(show jA P w H h a (.ins C dx fs)from hok a _ e);exact⟨mA,⟨ob,n,ne⟩,r,q,z,d⟩
end
structure Cls(K:PySem.W.Frag)(C:Addr):Prop where
pg:PySem.W.plainGet K C Str.empty=true
hd:PySem.W.hasDictIn K C=true
po:PySem.W.plainOver K C=true
sa:PySem.W.findIn K (.ref C) "__setattr__"=some (some (.builtin "object.__setattr__"))
theorem Cls.get{K:PySem.W.Frag}{C:Addr}(c:Cls K C)(f:Str):PySem.W.plainGet K C f=true:=c.pg
noncomputable def qN(K:PySem.W.Frag)(C:Addr)(f:Str):Prop:=PySem.W.findIn K (.ref C) f=some none
theorem qN.taker{K:PySem.W.Frag}{C:Addr}{f:Str}(n:qN K C f):PySem.W.takerIn K C f=some none:=by unfold PySem.W.takerIn;rw[show PySem.W.findIn K (.ref C) f=some none from n];rfl
structure Meth(K:PySem.W.Frag)(C:Addr)(m:Str)(f:Addr):Prop where
at_:PySem.W.findIn K (.ref C) m=some (some (.ref f))
fn:PySem.W.isFn K (.ref f)=true
kp:PySem.W.keepIn K (.ref f)=true
section
variable{X:Cx}{pins:List (Addr×Obj)}{σ:St}{H:Hp}{s:Shared}{a C dx:Addr}{fs:List (Str×V)}{f:Str}{v:V}{A:Around}{E:Value→Shared→Prop}
theorem q4W{b:Bool}{Q:Value→Shared→Prop}(I:Inv X pins σ H s)(e:H a=some (.ins C dx fs))(c:Cls X.K C)(n:qN X.K C f)(l:fs.lookup f=some v)
 (h:∀u s',Inv X pins σ H s'→RelV v u→Q u s'):wpAny (model X.prog X.w) A (getAttr (.ref a) f b) Q E s:=by obtain⟨mA,O,r,_,_,_⟩:=q4F I.hok e;obtain⟨u,hu,ru⟩:=RelO.some_of (v:=v) (o:=mA f) (by rw[←l];exact r f);exact qFA I.kIn O (c.get f) c.hd n hu (qC4 ru) (h u _ (I.tok _) ru)
theorem q04{m:Str}{g:Addr}{pl:Sem Bool}{Q:Value×List Value→Shared→Prop}(I:Inv X pins σ H s)(e:H a=some (.ins C dx fs))(c:Cls X.K C)(k:Meth X.K C m g)(l:fs.lookup m=none)
 (h:Q (.ref g,[.ref a]) s):wpAny (model X.prog X.w) A (getMethod (.ref a) m pl) Q E s:=by obtain⟨mA,O,r,_,_,_⟩:=q4F I.hok e;have hn:mA m=none:=RelO.none_of (by rw[←l];exact r m);exact qD4 I.kIn O (c.get m) k.at_ k.fn hn h
theorem q4X{y:V}{u:Value}{Q:Unit→Shared→Prop}(I:Inv X pins σ H s)(e:H a=some (.ins C dx fs))(c:Cls X.K C)(n:qN X.K C f)(hl:fs.length<1000)(ry:RelV y u)
 (h:∀s',Inv X pins σ (upd H a (.ins C dx (putF f y fs))) s'→Q () s'):wpAny (model X.prog X.w) A (setAttr (.ref a) f u) Q E s:=by(
obtain⟨mA,O,r,wi,_,ho⟩:=q4F I.hok e
have hz:(fs.map (·.1)).length≤sizeLine:=by rw[h9,gJ];omega
refine qFB I.kIn O c.sa c.po n.taker c.hd wi hz λh' O' sb=>h _ ?_
have hd:∃o,h'.get? dx=some o:=let⟨o,_,_,e',_⟩:=O'.ns;⟨o,e'⟩
refine I.write (x:=a) (e:=dx) (by rw[e];exact True.intro) (.inr ho) (λb q hb z=>(sb.2 b hb).trans z) hd ?_
refine⟨by rw[qC O.ne];exact ho,?_,O.ne,O'.obj,_,O'.ns,λg=>?_,λg hg=>?_⟩
·have:=q3V f y fs;omega
·show RelO ((putF f y fs).lookup g) (if g=f then some u else mA g);rw[q3U];by_cases q:g=f
 ·rw[kI q,kI q];exact ry
 rw[kF q,kF q];exact r g
by_cases q:g=f
·rw[q];exact(q3I f y fs).1
refine(q3I f y fs).2 g (wi g λz=>hg ?_)
show(if g=f then some u else mA g)=none
rw[kF q];exact z)
theorem Inv.made(I:Inv X pins σ H s):Inv X pins σ (upd (upd H s.heap.objs.size (.own (s.heap.objs.size+1))) (s.heap.objs.size+1) (.ins C s.heap.objs.size []))
 { s with heap:=(s.heap.push PySem.W.emptyDict).push (PySem.W.instObj C s.heap.objs.size) }:=by(
have e1:(s.heap.push PySem.W.emptyDict).get? s.heap.objs.size=some PySem.W.emptyDict:=mD s.heap rfl
have e2:((s.heap.push PySem.W.emptyDict).push (PySem.W.instObj C s.heap.objs.size)).get? (s.heap.objs.size+1)=some (PySem.W.instObj C s.heap.objs.size):=by have:=mD (s.heap.push PySem.W.emptyDict) (o:=PySem.W.instObj C s.heap.objs.size) rfl;rwa [wG]at this
have e3:(s.heap.push PySem.W.emptyDict).Ns s.heap.objs.size (λ_=>none):=⟨PySem.W.emptyDict,#[],_,e1,rfl,(λe he=>absurd he (by simp)),λ_=>rfl⟩
have I1:=I.laid (a:=s.heap.objs.size) (o:=.own (s.heap.objs.size+1)) (h':=s.heap.push PySem.W.emptyDict) (t':=s.toks) (λb u q=>hU _ q) (kN _) ⟨_,e1⟩
refine I1.laid (a:=s.heap.objs.size+1) (o:=.ins C s.heap.objs.size []) (t':=s.toks) (λb u q=>hU _ q) (c7 (wG _ _)) ?_
have ne:s.heap.objs.size≠s.heap.objs.size+1:=mK (rO _)
refine⟨by rw[qC ne,qI],mM _,ne,e2,λ_=>none,(Heap.Ns1.of_empty e3).at λo q=>hU _ q,λ_=>True.intro,λy hy=>absurd rfl hy⟩)
theorem qFC{prog:Program}{w:World}{env:Env}{e:Expr}{f:Str}{pos:Pos}{s:Shared}{Q:Value→Shared→Prop}(hb:attributeBase e f env (eval e env)=eval e env)
 (h:wpAny (model prog w) A (eval e env) (λo s₁=>wpAny (model prog w) A (getAttr o f true) Q E s₁) E s):wpAny (model prog w) A (eval (.Attribute e f pos) env) Q E s:=Attribute_any_ h (by rw[arm_eval_Attribute,hb])
end
noncomputable def tFld(K:PySem.W.Frag)(ta:TE)(f:Str):TE:=λσ H Q=>ta σ H λx H1=>∃a C dx fs v,x=.ref a∧H1 a=some (.ins C dx fs)∧Cls K C∧qN K C f∧fs.lookup f=some v∧Q v H1
noncomputable def sFld(K:PySem.W.Frag)(ta tv:TE)(f:Str):TS:=λD σ H=>tv σ H λy H1=>ta σ H1 λx H2=>∃a C dx fs,x=.ref a∧H2 a=some (.ins C dx fs)∧Cls K C∧qN K C f∧fs.length<1000∧D.nx σ (upd H2 a (.ins C dx (putF f y fs)))
noncomputable def InOp(X:Cx)(op:Operator)(rd:V→V→Hp→VK→Prop):Prop:=∀(pins:List (Addr×Obj)) (s:Shared) (σ:St) (H:Hp) (x y:V) (u v:Value) (Q:VK),Inv X pins σ H s→RelV x u→RelV y v→rd x y H Q→wpAny (model X.prog X.w) X.A (inplaceOp op u v) (EP X pins σ Q) X.xe s
noncomputable def qFD(K:PySem.W.Frag)(ta tv:TE)(rd:V→V→Hp→VK→Prop)(f:Str):TS:=λD σ H=>ta σ H λx H1=>∃a C dx fs v,x=.ref a∧H1 a=some (.ins C dx fs)∧Cls K C∧qN K C f∧fs.lookup f=some v∧tv σ H1 λy H2=>rd v y H2 λz H3=>∃dx' fs',H3 a=some (.ins C dx' fs')∧fs'.length<1000∧D.nx σ (upd H3 a (.ins C dx' (putF f z fs')))
section
variable{X:Cx}{o e value:Expr}{f:Str}{pos pos' tpos:Pos}{ta tv:TE}
theorem qJ(he:PE X e ta)(hb:attributeBase e f X.env (eval e X.env)=eval e X.env):PE X (.Attribute e f pos) (tFld X.K ta f):=by(
intro pins s σ H Q I h
refine qFC hb (thn (he pins s σ H _ I h) λu s1 hZ=>?_)
obtain⟨x,H1,I1,rx,a,C,dx,fs,v,ex,ea,c,n,l,q⟩:=hZ
subst ex
obtain rfl:u=Value.ref a:=rx
exact q4W I1 ea c n l λu' s2 I2 ru=>⟨v,H1,I2,ru,q⟩)
theorem jI(ha:PE X o ta)(hv:PE X value tv)(hs:swapsWith value (some (.Attribute o f pos')) pos.line X.env=pure false):PS X (.Assign [.Attribute o f pos'] value pos) (sFld X.K ta tv f):=by(
intro pins s σ H D I h
refine plainObj_wpAny_Assign_Attribute (thn (hv pins s σ H _ I h) λu s1 ⟨y,H1,I1,ry,q⟩=>thn (ha pins s1 σ H1 _ I1 q) λov s2 hZ=>?_) hs
obtain⟨x,H2,I2,rx,a,C,dx,fs,ex,ea,c,n,l,q2⟩:=hZ
subst ex
obtain rfl:ov=Value.ref a:=rx
exact q4X I2 ea c n l ry λs3 I3=>⟨σ,_,I3,q2⟩)
theorem q6P{op:Operator}{rd:V→V→Hp→VK→Prop}(ha:PE X o ta)(hv:PE X value tv)(hop:InOp X op rd):PS X (.AugAssign (.Attribute o f tpos) op value pos) (qFD X.K ta tv rd f):=by(
intro pins s σ H D I h
refine wpAny_AugAssign_AttributeAny (thn (ha pins s σ H _ I h) λov s1 hZ=>?_)
obtain⟨x,H1,I1,rx,a,C,dx,fs,v,ex,ea,c,n,l,q⟩:=hZ
subst ex
obtain rfl:ov=Value.ref a:=rx
refine q4W I1 ea c n l λu s2 I2 ru=>thn (hv pins s2 σ H1 _ I2 q) λw3 s3 ⟨y,H2,I3,ry,q3⟩=>thn (hop pins s3 σ H2 v y u w3 _ I3 ru ry q3) λw4 s4 hZ=>?_
obtain⟨z,H3,I4,rz,dx',fs',ea',l',q4⟩:=hZ
exact q4X I4 ea' c n l' rz λs5 I5=>⟨σ,_,I5,q4⟩)
noncomputable def rAdd:V→V→Hp→VK→Prop:=λx y H Q=>∃i j,x=.int i∧y=.int j∧Q (.int (i+j)) H
noncomputable def rSub:V→V→Hp→VK→Prop:=λx y H Q=>∃i j,x=.int i∧y=.int j∧Q (.int (i-j)) H
theorem qHW:InOp X .Add rAdd:=by(
rintro pins s σ H x y u v Q I rx ry ⟨i,j,rfl,rfl,q⟩
obtain⟨t,rfl⟩:=(show ∃t,u=Value.int i t from rx)
obtain⟨t',rfl⟩:=(show ∃t',v=Value.int j t' from ry)
exact PyProof.Rows.iadd_int ⟨.int (i+j),H,I.tok _,⟨_,rfl⟩,q⟩)
theorem qHX:InOp X .Sub rSub:=by(
rintro pins s σ H x y u v Q I rx ry ⟨i,j,rfl,rfl,q⟩
obtain⟨t,rfl⟩:=(show ∃t,u=Value.int i t from rx)
obtain⟨t',rfl⟩:=(show ∃t',v=Value.int j t' from ry)
exact PyProof.Rows.isub_int ⟨.int (i-j),H,I.tok _,⟨_,rfl⟩,q⟩)
end
section
variable{X:Cx}{pins:List (Addr×Obj)}{σ:St}{H:Hp}{s:Shared}{A:Around}{E:Value→Shared→Prop}{Q:Value→Shared→Prop}{c:Value}{b:Bool}
inductive TyOf(K:PySem.W.Frag)(H:Hp):V→Value→Prop where
|non:TyOf K H .non (.type "NoneType")
|bl (x:Bool):TyOf K H (.bl x) (.type "bool")
|int (i:Int):TyOf K H (.int i) (.type "int")
|str (x:Str):TyOf K H (.str x) (.type "str")
|flt (x:UInt64):TyOf K H (.flt x) (.type "float")
|lst {a:Addr} {xs:List V} (e:H a=some (.lst xs)):TyOf K H (.ref a) (.type "list")
|frz {a:Addr} {o:Obj} {xs:List V} (e:H a=some (.frz o (.lst xs))):TyOf K H (.ref a) (.type "list")
|tup {a:Addr} {xs:List V} (e:H a=some (.tup xs)):TyOf K H (.ref a) (.type "tuple")
|dK {a:Addr} {kvs:List (Key×V)} (e:H a=some (.dK kvs)):TyOf K H (.ref a) (.type "dict")
|dT {a:Addr} {kvs:List (List Key×V)} (e:H a=some (.dT kvs)):TyOf K H (.ref a) (.type "dict")
|ins {a C dx:Addr} {fs:List (Str×V)} (e:H a=some (.ins C dx fs)) (cl:Cls K C) (ha:PySem.W.findIn K (.ref C) "__class__"=some (some (.builtin "object.__class__")))
 (hn:PySem.W.specialIn K (.builtin "object.__class__") "__get__"=some (some (.builtin "getset_descriptor.__get__"))) (htk:PySem.W.takesIn K (.builtin "object.__class__")=some true)
 (hm:PySem.W.mroIn K C (.type "object")=some true):TyOf K H (.ref a) (.ref C)
theorem qC5{x:V}{u t:Value}(I:Inv X pins σ H s)(rx:RelV x u)(ty:TyOf X.K H x t)(e:PySem.W.kitOne X.K t c=some b)(h:∀tk,Q (.bool b) { s with toks:=tk }):
 wpAny (model X.prog X.w) A (call (.builtin "isinstance") [u,c]) Q E s:=by(
cases ty with
|non=>cases(show u=Value.none from rx);exact gW PySem.W.kitx_none I.kIn True.intro e (λz=>nomatch z) h
|bl y=>cases(show u=Value.bool y from rx);exact gW PySem.W.kitx_bool I.kIn True.intro e (λz=>nomatch z) h
|int i=>obtain⟨t,q⟩:=(show ∃t,u=Value.int i t from rx);cases q;exact gW PySem.W.kitx_int I.kIn True.intro e (λz=>nomatch z) h
|str y=>obtain⟨t,q⟩:=(show ∃t,u=Value.str y t from rx);cases q;exact gW PySem.W.kitx_str I.kIn True.intro e (λz=>nomatch z) h
|flt y=>obtain⟨t,q⟩:=(show ∃t,u=Value.float y t from rx);cases q;exact gW PySem.W.kitx_float I.kIn True.intro e (λz=>nomatch z) h
|@lst a xs ea=>cases(show u=Value.ref a from rx);obtain⟨_,_,n,_,h1⟩:=(show jA X.prog X.w H s.heap a (.lst xs)from I.hok a _ ea);exact gW aE I.kIn ⟨_,h1,rfl⟩ e (λz=>nomatch z) h
|@frz a ob xs ea=>cases(show u=Value.ref a from rx);obtain⟨_,_,_,n,_,h1⟩:=(show jA X.prog X.w H s.heap a (.frz ob (.lst xs))from I.hok a _ ea);exact gW aE I.kIn ⟨_,h1,rfl⟩ e (λz=>nomatch z) h
|@tup a xs ea=>cases(show u=Value.ref a from rx);obtain⟨_,_,_,p⟩:=(show jA X.prog X.w H s.heap a (.tup xs)from I.hok a _ ea);obtain⟨o,h1,h2,_⟩:=p;exact gW PySem.W.kitx_tuple I.kIn ⟨o,h1,h2⟩ e (λz=>nomatch z) h
|@dK a kvs ea=>cases(show u=Value.ref a from rx);obtain⟨_,_,vs,_,p⟩:=(show jA X.prog X.w H s.heap a (.dK kvs)from I.hok a _ ea);obtain⟨o,es,ep,h1,h2,_⟩:=p;exact gW aF I.kIn ⟨o,h1,h2.1⟩ e (λz=>nomatch z) h
|@dT a kvs ea=>cases(show u=Value.ref a from rx);obtain⟨_,_,xs,_,o,es,ep,h1,h2,_⟩:=(show jA X.prog X.w H s.heap a (.dT kvs)from I.hok a _ ea);exact gW aF I.kIn ⟨o,h1,h2.1⟩ e (λz=>nomatch z) h
|@ins a C dx fs ea cl ha hn htk hm=>cases(show u=Value.ref a from rx);obtain⟨mA,O,_⟩:=q4F I.hok ea;obtain⟨od,J,_⟩:=O.look;exact gW (PySem.W.kitx_own (cl.get _) cl.hd ha hn htk hm) I.kIn J e (λz=>nomatch z) h)
end
structure Room(k:Nat)(A:Around):Prop where
hd:A.handled=none
dp:A.depth+3*k+5<recursionLimit
un:A.units+16*k+200<cLine
theorem Room.mono{j k:Nat}{A:Around}(r:Room k A)(h:j≤k):Room j A:=⟨r.hd,by have:=r.dp;omega,by have:=r.un;omega⟩
theorem Room.deeper{k:Nat}{A:Around}(r:Room (k+1) A)(env:Env):Room k (A.deeper env):=⟨r.hd,by have:=r.dp;show A.depth+1+3*k+5< _;omega,by have:=r.un;show A.units+3+16*k+200< _;omega⟩
theorem Room.in1{k:Nat}{A:Around}(r:Room (k+1) A):Room k A.in1:=⟨r.hd,by have:=r.dp;show A.depth+3*k+5< _;omega,by have:=r.un;show A.units+1+16*k+200< _;omega⟩
theorem qA3{A:Around}{C:Addr}{us:List Value}{kw:List (Str×Value)}:(A.under (.builtin "type.__call__" ⟨.ref C::us,kw⟩)).depth=A.depth+1:=by first|rfl|simp[Around.under,Code.weight,Code.isCreation,Code.isGuard,Code.isCaller,Code.frames,Code.isFrame,guardIds]
theorem qA4{A:Around}{C:Addr}{us:List Value}{kw:List (Str×Value)}:(A.under (.builtin "type.__call__" ⟨.ref C::us,kw⟩)).units=A.units+1:=by first|rfl|simp[Around.under,Code.cUnits,Code.frames,Code.isFrame]
theorem Room.make{k:Nat}{A:Around}(r:Room (k+1) A)(C:Addr)(us:List Value)(kw:List (Str×Value)):Room k (A.under (.builtin "type.__call__" ⟨.ref C::us,kw⟩)):=⟨r.hd,by have:=r.dp;rw[qA3];omega,by have:=r.un;rw[qA4];omega⟩
theorem Room.depth{k:Nat}{A:Around}(r:Room k A):A.depth<recursionLimit:=by have:=r.dp;omega
theorem Room.units{k:Nat}{A:Around}(r:Room k A):A.units+64<cLine:=by have:=r.un;omega
noncomputable def tNil:TA:=λ_ H Q=>Q [] H
noncomputable def q6Q(ta:TE)(tr:TA):TA:=λσ H Q=>ta σ H λx H1=>tr σ H1 λxs H2=>Q (x::xs) H2
section
variable{X:Cx}{e:Expr}{es:List Expr}{te:TE}{t:TA}{pos:Pos}
theorem qF:PA X [] tNil:=λ_ _ _ _ H Q I h=>aG ⟨[],H,I,.nil,h⟩
theorem qA(ha:PE X e te)(hr:PA X es t)(hs:starEach (e::es) X.env=(false,eval e X.env)::starEach es X.env:=by rfl):PA X (e::es) (q6Q te t):=by(
intro pos pins s σ H Q I h
rw[hs]
show wpAny _ _ (spliced ((false,eval e X.env)::backTo pos (starEach es X.env))) _ _ s
refine xV (thn (ha pins s σ H _ I h) λu s1 hZ=>?_)
obtain⟨x,H1,I1,r1,q1⟩:=hZ
exact thn (hr pos pins s1 σ H1 _ I1 q1) λus s2 ⟨xs,H2,I2,r2,q2⟩=>⟨x::xs,H2,I2,.cons r1 r2,q2⟩)
end
noncomputable abbrev Sp:=List V→Hp→VK→XK→Prop
noncomputable abbrev CXT:=List Env→Hp→Shared→XK→Value→Shared→Prop
structure Env0(P:Program)(w:World)(K:PySem.W.Frag)(mg:Str→Option Value)(base:Heap)(A:Around)(outer:List Env)(s:Shared)(H:Hp):Prop where
frames:A.frames=some outer
mod:Mod K mg base
bs:∀b o,base.get? b=some o→s.heap.get? b=some o∧H b=none
bsz:base.objs.size≤s.heap.objs.size
funs:s.heap.FunFrames base outer
frf:∀b∈frs outer,H b=none
hok:HOk P w H s.heap
bare:AllBare s.gens
noncomputable def CE(outer:List Env)(P:Program)(w:World)(H:Hp)(s:Shared)(Q:VK)(u:Value)(s':Shared):Prop:=∃v H',s'.os=s.os∧AllBare s'.gens∧Un (frs outer) [] H H' s.heap s'.heap∧HOk P w H' s'.heap∧RelV v u∧Q v H'
noncomputable def CR(CX:CXT)(outer:List Env)(P:Program)(w:World)(H:Hp)(s:Shared)(Q:VK)(E:XK)(r:Result)(s':Shared):Prop:=match r with
| .ok (.ret u)=>CE outer P w H s Q u s'
| .ok _=>False
| .error e=>CX outer H s E e s'
structure FnOk(P:Program)(w:World)(K:PySem.W.Frag)(mg:Str→Option Value)(base:Heap)(CX:CXT)(k:Nat)(f:Addr)(fd:FuncData)(ps:List Str)(sp:Sp):Prop where
len:∀vs H Q E,sp vs H Q E→vs.length=ps.length
run:∀(A:Around) (outer:List Env) (s:Shared) (H:Hp) (args:Args) (us:List Value) (vs:List V) (Q:VK) (E:XK),Room k A→Env0 P w K mg base A outer s H→BindsTo s fd args (ps.zip us)→Vals vs us→sp vs H Q E→codeAny (model P w) A (.call (.ref f) args) (CR CX outer P w H s Q E) s
theorem FnOk.mono{P:Program}{w:World}{K:PySem.W.Frag}{mg:Str→Option Value}{base:Heap}{CX:CXT}{j k:Nat}{f:Addr}{fd:FuncData}{ps:List Str}{sp:Sp}(F:FnOk P w K mg base CX j f fd ps sp)(h:j≤k:=by decide):
 FnOk P w K mg base CX k f fd ps sp:=⟨F.len,λA outer s H args us vs Q E hr=>F.run A outer s H args us vs Q E (hr.mono h)⟩
theorem Env0.make{P:Program}{w:World}{K:PySem.W.Frag}{mg:Str→Option Value}{base:Heap}{A:Around}{outer:List Env}{s:Shared}{H:Hp}(e:Env0 P w K mg base A outer s H)(C:Addr)(us:List Value)(kw:List (Str×Value)):
 Env0 P w K mg base (A.under (.builtin "type.__call__" ⟨.ref C::us,kw⟩)) outer s H:=⟨by first|exact e.frames|(simpa[Around.under,Code.envs,Code.isFrame,pushEnvs]using e.frames),e.mod,e.bs,e.bsz,e.funs,e.frf,e.hok,e.bare⟩
section
variable{X:Cx}{pins:List (Addr×Obj)}{σ:St}{H:Hp}{s s':Shared}
theorem Inv.env0(I:Inv X pins σ H s):Env0 X.prog X.w X.K X.mg X.base X.A X.stack s H:=⟨I.ok.frames,I.ok.mod,I.bs,mF I.ok.bsz I.sz,I.stack,I.stkFree,I.hok,I.bare⟩
theorem Inv.after{Q:VK}{u:Value}(I:Inv X pins σ H s)(h:CE X.stack X.prog X.w H s Q u s'):EP X pins σ Q u s':=by(
obtain⟨v,H',os,bare,un,hok,r,q⟩:=h
obtain⟨hh,g,d,t,os'⟩:=s'
obtain rfl:os'=s.os:=os
exact⟨v,H',I.call (h':=hh) (g':=g) (d':=d) (t':=t) (ch:=[]) un hok bare (λb z=>absurd z (by simp)),r,q⟩)
end
noncomputable def qH7(sp:Sp)(dvs:List V)(E:XK)(t:TA):TE:=λσ H Q=>t σ H λvs H1=>sp (vs++dvs) H1 Q E
noncomputable def qH8(C:Addr)(m:Str)(sp:Sp)(dvs:List V)(E:XK)(ta:TE)(t:TA):TE:=λσ H Q=>ta σ H λx H1=>∃a dx fs,x=.ref a∧H1 a=some (.ins C dx fs)∧fs.lookup m=none∧t σ H1 λvs H2=>sp (x::(vs++dvs)) H2 Q E
noncomputable def qK2(C:Addr)(sp:Sp)(dvs:List V)(E:XK)(t:TA):TE:=λσ H Q=>t σ H λvs H1=>∀x dx,H1 x=none→H1 dx=none→dx≠x→sp (.ref x::(vs++dvs)) (upd (upd H1 dx (.own x)) x (.ins C dx [])) (λv H2=>v=.non∧Q (.ref x) H2) E
noncomputable def jO(K:PySem.W.Frag)(fd:FuncData)(ps:List Str)(ds:List Value):Prop:=∀(s:Shared) (us:List Value),K.In s.heap→(us++ds).length=ps.length→BindsTo s fd ⟨us,[]⟩ (ps.zip (us++ds))
theorem jO.all{K:PySem.W.Frag}{fd:FuncData}{ps:List Str}(h:∀us:List Value,us.length=ps.length→bindArgs fd ⟨us,[]⟩=pure (ps.zip us)):jO K fd ps []:=λs us _ hl=>by rw[dQ]at hl ⊢;exact .of_eq (h us hl)
noncomputable def q05(CX:CXT)(X:Cx)(E:XK):Prop:=∀(pins:List (Addr×Obj)) (σ:St) (H:Hp) (s:Shared) (e:Value) (s':Shared),Inv X pins σ H s→CX X.stack H s E e s'→X.xe e s'
section
variable{X:Cx}{CX:CXT}{k:Nat}{f C:Addr}{fd:FuncData}{ps:List Str}{sp:Sp}{dvs:List V}{ds:List Value}{E:XK}{x m:Str}{p pos apos:Pos}{e o:Expr}{es:List Expr}{ta:TE}{t:TA}
theorem q7D{pins:List (Addr×Obj)}{σ:St}{H:Hp}{s:Shared}{Q:VK}{us:List Value}{vs:List V}(F:FnOk X.prog X.w X.K X.mg X.base CX k f fd ps sp)(hr:Room k X.A)(hb:jO X.K fd ps ds)(hd:Vals dvs ds)(hx:q05 CX X E)
 (I:Inv X pins σ H s) (r:Vals vs us) (h:sp (vs++dvs) H Q E):wpAny (model X.prog X.w) X.A (call (.ref f) us) (EP X pins σ Q) X.xe s:=by(
have r2:Vals (vs++dvs) (us++ds):=r.append hd
have hl:(us++ds).length=ps.length:=by rw[←r2.length];exact F.len _ _ _ _ h
refine cJ (wO (F.run X.A X.stack s H ⟨us,[]⟩ (us++ds) (vs++dvs) Q E hr I.env0 (hb s us I.kIn hl) r2 h) λr s' hq=>?_)
cases r with
|error e=>exact hx pins σ H s e s' I hq
|ok fl=>
 cases fl with
 |ret u=>exact I.after hq
 |next=>exact False.elim hq
 |brk=>exact False.elim hq
 |cont=>exact False.elim hq)
theorem qS(F:FnOk X.prog X.w X.K X.mg X.base CX k f fd ps sp)(hr:Room k X.A)(hg:Gl X x)(hm:X.mg x=some (.ref f))(hk:PySem.W.keepIn X.K (.ref f)=true)(hb:jO X.K fd ps ds)(hd:Vals dvs ds)(hx:q05 CX X E)
 (ha:PA X (e::es) t) (hdb:(x==("__debug__":Str))=false:=by decide) (he:starEach (e::es) X.env=(false,eval e X.env)::starEach es X.env:=by rfl) (hpl:(backTo pos (starEach es X.env)).any (·.1)=false:=by rfl):
 PE X (.Call (.Name x p) (e::es) [] pos) (qH7 sp dvs E t):=by(
intro pins s σ H Q I h
refine dE (q1T I hg hm ?_ hdb)
refine wP (h₀:=X.base) I.ok.mod.kin hk (thn (ha pos pins s σ H _ I h) λus s1 ⟨vs,H1,I1,r,q⟩=>⟨I1.kIn,?_⟩) he hpl
exact q7D F hr hb hd hx I1 r q)
theorem j0{pl:Sem Bool}(he:PE X o ta)(c:Cls X.K C)(hm:Meth X.K C m f)(F:FnOk X.prog X.w X.K X.mg X.base CX k f fd ps sp)(hr:Room k X.A)(hb:jO X.K fd ps ds)(hd:Vals dvs ds)(hx:q05 CX X E)(ha:PA X (e::es) t)
 (hst:starEach (e::es) X.env=(false,eval e X.env)::starEach es X.env:=by rfl) (hpl:(backTo pos (starEach es X.env)).any (·.1)=false:=by rfl)
 (ht:eval (.Call (.Attribute o m apos) (e::es) [] pos) X.env=(do
  let ov←eval o X.env
  standAt apos.atName
  let(f,first)←holding [ov] (getMethod ov m pl)
  callWith pos f first (backTo pos (starEach (e::es) X.env)) (backToKw pos (keywordEach [] X.env))):=by rfl):
 PE X (.Call (.Attribute o m apos) (e::es) [] pos) (qH8 C m sp dvs E ta t):=by(
intro pins s σ H Q I h
refine rQ (pl:=pl) (thn (he pins s σ H _ I h) λu s1 hZ=>?_) ht
obtain⟨x,H1,I1,rx,a,dx,fs,ex,ea,l,q⟩:=hZ
subst ex
obtain rfl:u=Value.ref a:=rx
refine q04 I1 ea c hm l ?_
refine wP (first:=[.ref a]) (h₀:=X.base) I.ok.mod.kin hm.kp (thn (ha pos pins s1 σ H1 _ I1 q) λus s2 ⟨vs,H2,I2,r,q2⟩=>⟨I2.kIn,?_⟩) hst hpl
exact q7D (us:=.ref a::us) (vs:=.ref a::vs) F hr hb hd hx I2 (.cons rfl r) q2)
theorem qT{pl:Sem Bool}(he:PE X o ta)(c:Cls X.K C)(hm:Meth X.K C m f)(F:FnOk X.prog X.w X.K X.mg X.base CX k f fd ps sp)(hr:Room k X.A)(hb:jO X.K fd ps ds)(hd:Vals dvs ds)(hx:q05 CX X E)
 (ht:eval (.Call (.Attribute o m apos) [] [] pos) X.env=(do
  let ov←eval o X.env
  standAt apos.atName
  let(f,first)←holding [ov] (getMethod ov m pl)
  callWith pos f first (backTo pos (starEach [] X.env)) (backToKw pos (keywordEach [] X.env))):=by rfl):
 PE X (.Call (.Attribute o m apos) [] [] pos) (qH8 C m sp dvs E ta tNil):=by(
intro pins s σ H Q I h
refine rQ (pl:=pl) (thn (he pins s σ H _ I h) λu s1 hZ=>?_) ht
obtain⟨x,H1,I1,rx,a,dx,fs,ex,ea,l,q⟩:=hZ
subst ex
obtain rfl:u=Value.ref a:=rx
refine q04 I1 ea c hm l ?_
exact p7 (first:=[.ref a]) I1.kIn hm.kp (q7D (us:=[.ref a]) (vs:=[.ref a]) F hr hb hd hx I1 (.cons rfl .nil) q))
structure Mk(K:PySem.W.Frag)(C f:Addr):Prop where
makes:PySem.W.makesIn K C=true
init:PySem.W.findIn K (.ref C) "__init__"=some (some (.ref f))
fn:PySem.W.isFn K (.ref f)=true
kp:PySem.W.keepIn K (.ref C)=true
theorem qD6{pins:List (Addr×Obj)}{σ:St}{H:Hp}{s:Shared}{Q:VK}{us:List Value}{vs:List V}(M:Mk X.K C f)(F:FnOk X.prog X.w X.K X.mg X.base CX k f fd ps sp)(hr:Room (k+1) X.A)(hb:jO X.K fd ps ds)(hd:Vals dvs ds)
 (hx:q05 CX X E) (I:Inv X pins σ H s) (r:Vals vs us)
 (h:∀x dx,H x=none→H dx=none→dx≠x→sp (.ref x::(vs++dvs)) (upd (upd H dx (.own x)) x (.ins C dx [])) (λv H2=>v=.non∧Q (.ref x) H2) E):
 wpAny (model X.prog X.w) X.A (call (.ref C) us) (EP X pins σ Q) X.xe s:=by(
have hq:=h (s.heap.objs.size+1) s.heap.objs.size (I.hok.fresh (g4 _)) (I.hok.fresh (kN _)) (mK (rO _))
have I2:=Inv.made (C:=C) I
have r2:Vals (V.ref (s.heap.objs.size+1)::(vs++dvs)) (Value.ref (s.heap.objs.size+1)::(us++ds)):=.cons rfl (r.append hd)
have hl:(Value.ref (s.heap.objs.size+1)::us++ds).length=ps.length:=by have e:=r2.length;rw[F.len _ _ _ _ hq]at e;exact e.symm
refine cJ (qD5 (f:=f) I.kIn M.makes M.init (wA.mp M.fn) (wO (F.run _ X.stack _ _ ⟨Value.ref (s.heap.objs.size+1)::us,[]⟩ (Value.ref (s.heap.objs.size+1)::(us++ds)) _ _ E (hr.make C us [])
 (I2.env0.make C us []) (hb _ (Value.ref (s.heap.objs.size+1)::us) I2.kIn hl) r2 hq) λr s' hq'=>?_))
cases r with
|error e=>exact hx pins σ _ _ e s' I2 hq'
|ok fl=>
 cases fl with
 |ret u=>obtain⟨v,H',I3,rv,ev,q3⟩:=I2.after hq';subst ev;exact⟨rv,⟨V.ref (s.heap.objs.size+1),H',I3,rfl,q3⟩⟩
 |next=>exact False.elim hq'
 |brk=>exact False.elim hq'
 |cont=>exact False.elim hq')
theorem q4G(M:Mk X.K C f)(F:FnOk X.prog X.w X.K X.mg X.base CX k f fd ps sp)(hr:Room (k+1) X.A)(hg:Gl X x)(hm:X.mg x=some (.ref C))(hb:jO X.K fd ps ds)(hd:Vals dvs ds)(hx:q05 CX X E)
 (ha:PA X (e::es) t) (hdb:(x==("__debug__":Str))=false:=by decide) (he:starEach (e::es) X.env=(false,eval e X.env)::starEach es X.env:=by rfl) (hpl:(backTo pos (starEach es X.env)).any (·.1)=false:=by rfl):
 PE X (.Call (.Name x p) (e::es) [] pos) (qK2 C sp dvs E t):=by(
intro pins s σ H Q I h
refine dE (q1T I hg hm ?_ hdb)
refine wP (h₀:=X.base) I.ok.mod.kin M.kp (thn (ha pos pins s σ H _ I h) λus s1 ⟨vs,H1,I1,r,q⟩=>⟨I1.kIn,?_⟩) he hpl
exact qD6 M F hr hb hd hx I1 r q)
end
noncomputable def PK(X:Cx)(kws:List Keyword)(t:TA):Prop:=∀(pos:Pos) (pins:List (Addr×Obj)) (s:Shared) (σ:St) (H:Hp) (Q:List V→Hp→Prop),Inv X pins σ H s→t σ H Q→wpAny (model X.prog X.w) X.A (evalAll ((backToKw pos (keywordEach kws X.env)).map (·.2))) (AP X pins σ Q) X.xe s
section
variable{X:Cx}{CX:CXT}{k:Nat}{f C:Addr}{fd:FuncData}{ps ks:List Str}{sp:Sp}{E:XK}{x m:Str}{p pos apos kpos:Pos}{e o:Expr}{es:List Expr}{kws:List Keyword}{te ta:TE}{t tk:TA}{nm:Option Str}
theorem qA5:PK X [] tNil:=λ_ _ _ _ H Q I h=>wpAny_evalAll_nil ⟨[],H,I,.nil,h⟩
theorem q7E(ha:PE X e te)(hr:PK X kws t):PK X (⟨nm,e,kpos⟩::kws) (q6Q te t):=by(
intro pos pins s σ H Q I h
show wpAny _ _ (evalAll ((do let v←eval e X.env;standAt pos;pure v)::(backToKw pos (keywordEach kws X.env)).map (·.2))) _ _ s
refine wpAny_evalAll_cons (hG (thn (ha pins s σ H _ I h) λu s1 ⟨x,H1,I1,r1,q1⟩=>hG (pQ (kL ?_))))
exact thn (hr pos pins s1 σ H1 _ I1 q1) λus s2 ⟨xs,H2,I2,r2,q2⟩=>⟨x::xs,H2,I2,.cons r1 r2,q2⟩)
variable{g:List Value→List Value→List Value}{gV:List V→List V→List V}
end
structure FnScope(N P:List Str)(sc:Scope):Prop where
kind:sc.kind=.function
co:sc.isCoroutine=false
gen:sc.isGenerator=false
nd:N.Nodup
pre:N.take P.length=P
par:∀x∈P,sc.names.lookup x=some .local∨sc.names.lookup x=some .cell
nofree:∀y∈sc.names,y.2≠ .free
theorem q6R{kindOf:Str→Option NameKind}{x:Str}:∀{binds:List (Str×Value)} {m:Str→Option Value},(∀v,(x,v)∉binds)→bindL kindOf binds m x=m x
| [],_,_=>rfl
|(n,v)::r,m,h=>by
 unfold bindL;rw[q6R λw hw=>h w (kC _ hw)];split
 ·have:x≠n:=by rintro rfl;exact h v kX
  simp[this]
 rfl
theorem q6S{kindOf:Str→Option NameKind}{x:Str}:∀{binds:List (Str×Value)} {m:Str→Option Value},(∀v,(x,v)∉binds)→bindC kindOf binds m x=m x
| [],_,_=>rfl
|(n,v)::r,m,h=>by
 unfold bindC;rw[q6S λw hw=>h w (kC _ hw)];split
 ·rfl
 have:x≠n:=by rintro rfl;exact h v kX
 simp[this]
theorem q6T{kindOf:Str→Option NameKind}{x:Str}{v:Value}:∀{P:List Str} {vs:List Value} {i:Nat} {m:Str→Option Value},P.Nodup→P[i]?=some x→vs[i]?=some v→kindOf x=some .local→bindL kindOf (P.zip vs) m x=some v
| [],_,_,_,_,h,_,_=>by simp at h
|_::_,[],_,_,_,_,h,_=>by simp at h
|p::P,w::vs,0,m,nd,h1,h2,hk=>by simp at h1 h2;subst h1;subst h2;show bindL kindOf ((p,w)::P.zip vs) m p=_;unfold bindL;rw[q6R λv hv=>(mY.mp nd).1 (pX hv).1,kI hk];simp
|p::P,w::vs,i+1,m,nd,h1,h2,hk=>by show bindL kindOf ((p,w)::P.zip vs) m x=_;unfold bindL;exact q6T (i:=i) (mY.mp nd).2 (by simpa using h1) (by simpa using h2) hk
theorem q6U{kindOf:Str→Option NameKind}{x:Str}{v:Value}:∀{P:List Str} {vs:List Value} {i:Nat} {m:Str→Option Value},P.Nodup→P[i]?=some x→vs[i]?=some v→kindOf x≠some .local→bindC kindOf (P.zip vs) m x=some v
| [],_,_,_,_,h,_,_=>by simp at h
|_::_,[],_,_,_,_,h,_=>by simp at h
|p::P,w::vs,0,m,nd,h1,h2,hk=>by simp at h1 h2;subst h1;subst h2;show bindC kindOf ((p,w)::P.zip vs) m p=_;unfold bindC;rw[q6S λv hv=>(mY.mp nd).1 (pX hv).1,kF hk];simp
|p::P,w::vs,i+1,m,nd,h1,h2,hk=>by show bindC kindOf ((p,w)::P.zip vs) m x=_;unfold bindC;exact q6U (i:=i) (mY.mp nd).2 (by simpa using h1) (by simpa using h2) hk
noncomputable def vU(N:List Str)(vs:List V):St:=vs.map some++List.replicate (N.length-vs.length) none
noncomputable def cxOf(CX:CXT)(P:Program)(w:World)(K:PySem.W.Frag)(mg:Str→Option Value)(base:Heap)(N:List Str)(qual:Str)(scope:Scope)(f:Addr)(cd:Value)(A:Around)(outer:List Env)(s:Shared)(H:Hp)(E:XK):Cx where
prog:=P
w:=w
K:=K
mg:=mg
base:=base
A:=A.deeper (envOfC qual scope s.heap.objs.size f cd)
N:=N
s₀:=s
H₀:=H
env:=envOfC qual scope s.heap.objs.size f cd
outer:=outer
stack:=envOfC qual scope s.heap.objs.size f cd::outer
ex:=[]
calm:=true
fn:=λ_=>true
pn:=[]
xe:=λe s'=>wpAny (model P w) (A.deeper (envOfC qual scope s.heap.objs.size f cd)) (leaving (envOfC qual scope s.heap.objs.size f cd) e) (λ_ s''=>CX outer H s E e s'') (λe' s''=>CX outer H s E e' s'') s'
theorem q8M{sc:Scope}{n:Nat}{x:Str}(h:sc.names.lookup x=some .cell):∃c,(cellsFrom n sc.names []).lookup x=some c:=by have q:=c8 sc.names n [] (.inl h);exact cU.mp q
theorem q6V{CX:CXT}{P:Program}{w:World}{K:PySem.W.Frag}{mg:Str→Option Value}{base:Heap}{N ps:List Str}{qual:Str}{scope:Scope}{f:Addr}{cd:Value}{A:Around}{outer:List Env}{s s1:Shared}{H:Hp}{E:XK}{us:List Value}{vs:List V}
 (S:FnScope N ps scope) (hd:A.handled=none) (e0:Env0 P w K mg base A outer s H) (hl:vs.length=ps.length) (r:Vals vs us)
 (x:InCallC s s.heap.objs.size (bindL (envOfC qual scope s.heap.objs.size f cd).kindOf (ps.zip us) λ_=>none) (cellsFrom (s.heap.objs.size+1) scope.names []) (bindC (envOfC qual scope s.heap.objs.size f cd).kindOf (ps.zip us) λ_=>none) s1):
 Inv (cxOf CX P w K mg base N qual scope f cd A outer s H E) [] (vU N vs) H s1:=by(
have hpl:ps.length≤N.length:=by have:=rK List.length S.pre;rw[mZ]at this;omega
obtain⟨h1,tk,rfl,hk⟩:=x.done
have noA:∀b:Addr,b∉(cxOf CX P w K mg base N qual scope f cd A outer s H E).ex:=λb z=>absurd (show b∈([]:List Addr)from z) (by simp)
refine⟨⟨e0.mod,S.kind,rfl,rfl,kN _,λy z c h1 h2=>?_,λy hy=>?_,λy c _ h=>?_,λ_=>hd,l8 e0.frames,.inr ⟨rfl,rfl⟩,λb z=>absurd z (noA b),e0.bs,e0.bsz,λb _ _=>noA b,λb z=>absurd z (noA b),e0.funs,e0.frf⟩,rfl,e0.bare,Un.kept hk,⟨_,x.toInCall.ns,λi y v h1 h2 h3=>?_⟩,λy c h=>⟨_,x.cell y c h⟩,e0.hok.fresh (kN _),λy c h=>?_,λp hp=>absurd (show p∈([]:List (Addr×Obj))from hp) (by simp),e0.hok.kept hk,?_⟩
·exact name_of_addr x.apart (gO h1) (gO h2)
·have hy:scope.names.lookup y=some .cell∨scope.names.lookup y=some .free:=hy;rcases hy with hy|hy
 ·exact q8M hy
 exact absurd rfl (S.nofree _ (gO hy))
·exact c6 (x.above y c (gO h))
·have hi:i<vs.length:=by
  unfold vU at h2;by_cases hi:i<vs.length
  ·exact hi
  rw[dJ (by simpa using hi)]at h2;rw[wH]at h2;split at h2<;>cases h2
 have ha:vs[i]?=some v:=by
  unfold vU at h2;rw[rS (by simpa using hi),mG]at h2;cases e:vs[i]? with
  |none=>rw[e]at h2;cases h2
  |some a=>rw[e]at h2;cases h2;rfl
 obtain⟨u,hu,rv⟩:=r.get ha;have hp:ps[i]?=some y:=by rw[←S.pre,List.getElem?_take_of_lt (by omega)];exact h1
 have ndP:ps.Nodup:=by rw[←S.pre];exact S.nd.sublist (List.take_sublist _ _)
 refine⟨u,rv,?_⟩;rcases S.par y (gE hp)with k|k
 ·exact .inl ⟨k,q6T ndP hp hu k⟩
 obtain⟨c,e⟩:=q8M (n:=s.heap.objs.size+1) k;refine .inr ⟨.inl k,c,e,?_⟩;have q:=x.cell y c e;rw[q6U ndP hp hu (by show scope.names.lookup y≠_;rw[k];decide)]at q;exact q
·exact e0.hok.fresh (c6 (x.above y c (gO h)))
unfold vU
show _=N.length
rw[kZ,h9,gM]
omega)
theorem qB3{CX:CXT}{P:Program}{w:World}{K:PySem.W.Frag}{mg:Str→Option Value}{base:Heap}{k:Nat}{f:Addr}{name qual:Str}{params:Arguments}{body:List Stmt}{scope:Scope}{dV kV doc pm cdv ct oc:Value}{an od:Option Addr}
 {osl:Array (Option Value)} {N ps:List Str} {sp:Sp} (lk:K.lookup f=some ⟨oc,od,.func (PySem.W.fnOf name qual params body scope dV kV doc pm an cdv ct),osl⟩) (hcd:PySem.W.codeIn K cdv qual=true) (S:FnScope N ps scope)
 (len:∀vs H Q E,sp vs H Q E→vs.length=ps.length)
 (hbody:∀(A:Around) (outer:List Env) (s:Shared) (H:Hp) (vs:List V) (Q:VK) (E:XK),Room k (A.deeper (envOfC qual scope s.heap.objs.size f cdv))→sp vs H Q E→∃t,PSs (cxOf CX P w K mg base N qual scope f cdv A outer s H E) body t∧t { nx:=λ_ H'=>Q .non H',rt:=Q } (vU N vs) H):
 FnOk P w K mg base CX (k+1) f (PySem.W.fnOf name qual params body scope dV kV doc pm an cdv ct) ps sp:=by(
refine⟨len,λA outer s H args us vs Q E hr e0 hb r hsp=>?_⟩
have hl:=len _ _ _ _ hsp
have KX:K.In s.heap:=e0.mod.kin.keeps λb o e=>(e0.bs b o e).1
have lim:s.heap.NoLimit:=e0.mod.nolimit.keeps λb o e=>(e0.bs b o e).1
have hkind:∀y∈ps.zip us,scope.names.lookup y.1=some .local∨(scope.names.lookup y.1=some .cell∧((cellsFrom (s.heap.objs.size+1) scope.names []).lookup y.1).isSome=true):=λ⟨n,v⟩ hy=>by
 rcases S.par n (pX hy).1 with q|q
 ·exact .inl q
 exact .inr ⟨q,c8 _ _ _ (.inl q)⟩
refine codeAny_call_function hr.depth (KX _ _ lk) rfl S.co S.gen rfl (PySem.W.codeRec_of KX hcd) (hb _ _ _ _ ?_)
refine sJ S.kind hkind λenv he s1 x=>?_
subst he
refine⟨lim.keeps x.toInCall.keep,codeAny_func ?_⟩
obtain⟨t,ht,hq⟩:=hbody A outer s H vs Q E (hr.deeper _) hsp
have I:Inv (cxOf CX P w K mg base N qual scope f cdv A outer s H E) [] (vU N vs) H s1:=q6V S hr.hd e0 hl r x
refine gY (ht [] s1 (vU N vs) H _ I hq) (λfl s' hs=>?_) λe s' hs=>hs
have fin:∀{σ':St} {H':Hp} {v:V} {u:Value},Inv (cxOf CX P w K mg base N qual scope f cdv A outer s H E) [] σ' H' s'→RelV v u→Q v H'→CE outer P w H s Q u s':=fun {σ' H' v u} J rv q=>⟨v,H',J.os,J.bare,J.base,J.hok,rv,q⟩
cases fl with
|ret u=>obtain⟨v,σ',H',J,rv,q⟩:=hs;exact fin J rv q
|next=>obtain⟨σ',H',J,q⟩:=hs;exact fin (v:=V.non) (u:=Value.none) J rfl q
|brk=>obtain⟨_,_,_,q⟩:=hs;exact False.elim q
|cont=>obtain⟨_,_,_,q⟩:=hs;exact False.elim q)
section
variable{X:Cx}{x:Str}{p pos:Pos}{e:Expr}{es:List Expr}{t:TA}{id T:String}{r:List V→Hp→VK→Prop}
noncomputable def tCB(r:List V→Hp→VK→Prop)(t:TA):TE:=λσ H Q=>t σ H λvs H1=>r vs H1 Q
theorem j9(hc:q0T X (.builtin id) r)(hg:Gl X x)(hm:X.mg x=none)(hv:bootBuiltins x=some (.builtin id))(ha:PA X (e::es) t)(hn:x≠"__name__":=by decide)(hdb:(x==("__debug__":Str))=false:=by decide)
 (he:starEach (e::es) X.env=(false,eval e X.env)::starEach es X.env:=by rfl) (hpl:(backTo pos (starEach es X.env)).any (·.1)=false:=by rfl):PE X (.Call (.Name x p) (e::es) [] pos) (tCB r t):=by intro pins s σ H Q I h;refine dE (q0R I hg hm hv ?_ hn hdb);exact PyProof.Rows.callWith_builtin1 (thn (ha pos pins s σ H _ I h) λus s1 ⟨vs,H1,I1,r1,q1⟩=>hc pins s1 σ H1 vs us Q I1 r1 q1) he hpl
theorem q1V(hc:q0T X (.type T) r)(hg:Gl X x)(hm:X.mg x=none)(hv:bootBuiltins x=some (.type T))(ha:PA X (e::es) t)(hn:x≠"__name__":=by decide)(hdb:(x==("__debug__":Str))=false:=by decide)
 (he:starEach (e::es) X.env=(false,eval e X.env)::starEach es X.env:=by rfl) (hpl:(backTo pos (starEach es X.env)).any (·.1)=false:=by rfl):PE X (.Call (.Name x p) (e::es) [] pos) (tCB r t):=by intro pins s σ H Q I h;refine dE (q0R I hg hm hv ?_ hn hdb);exact cC (thn (ha pos pins s σ H _ I h) λus s1 ⟨vs,H1,I1,r1,q1⟩=>hc pins s1 σ H1 vs us Q I1 r1 q1) he hpl
end
end L2
namespace HT
open PySem PyProof.Rows
noncomputable def lexLt:List Int→List Int→Bool
| [],[]=>false
| [],_::_=>true
|_::_,[]=>false
|x::xs,y::ys=>if x=y then lexLt xs ys else decide (x<y)
theorem qA6(x y:Int)(xs ys:List Int):lexLt (x::xs) (y::ys)=if x=y then lexLt xs ys else decide (x<y):=rfl
theorem q63:lexLt [] []=false:=rfl
theorem q4Y(y:Int)(ys:List Int):lexLt [] (y::ys)=true:=rfl
theorem q4Z(x:Int)(xs:List Int):lexLt (x::xs) []=false:=rfl
theorem qD7(A:Around)(s:Shared)(a:Int)(t:Tok)(c:Int)(u:Tok):∃e,SeqAt.EqAt A s (.int a t) (.int c u) e∧(e=true↔a=c):=⟨(a==c),sK a t c u,by simp⟩
theorem qD8(A:Around)(s:Shared)(a:Int)(t:Tok)(c:Int)(u:Tok)(prog:Program)(w:World)(E:Value→Shared→Prop)(Q:Value→Shared→Prop)(h:Q (.bool (decide (a<c))) s):
 wpAny (model prog w) A (richCompare .Lt (.int a t) (.int c u)) Q E s:=(PyProof.Rows.lt_int h:wpAny (model prog w) A (compareOp .Lt (.int a t) (.int c u)) Q E s)
section
open PySem.SeqAt
open PySem.AutoSeq1 (wpAny_loadPart')
open PySem.MeetsSeq PySem.MeetsSeq2 PySem.MeetsSeq3
theorem q64(l b:Addr)(items items2:Array Value)(n n2:Nat)(dd dd2:Option Addr)(sl sl2:Array (Option Value))(ns ms:List Int)(hi:IntsAre items.toList ns)(hj:IntsAre items2.toList ms):
 Meets (Builtin.«tuple.__lt__» ⟨[.ref l,.ref b],[]⟩)
  (λ_ R s=>s.heap.get? l=some { cls:=.type "tuple",dict:=dd,data:=.seq items n,slots:=sl }∧s.heap.get? b=some { cls:=.type "tuple",dict:=dd2,data:=.seq items2 n2,slots:=sl2 }∧R (.ok (.ret (.bool (lexLt ns ms)))) s):=.of_wp λprog w A R s h=>by(
 obtain⟨hp,g,d,tk,os⟩:=s;obtain⟨hl,hb,h⟩:=h;have f2:=AutoSeq1.sub_tuple_tuple;have z1:items.size=ns.length:=by rw[←hi.length];simp
 have z2:items2.size=ms.length:=by rw[←hj.length];simp
 wp_walk using lK hl,lK hb,wpAny_forIn_list _ (λrest b s'=>b.1=none∧s'=⟨hp,g,d,tk,os⟩∧∃(vs ws:List Value) (ns' ms':List Int),rest=vs.zip ws∧IntsAre vs ns'∧IntsAre ws ms'∧ns'.length+items2.size=ms'.length+items.size∧R (.ok (.ret (.bool (lexLt ns' ms')))) ⟨hp,g,d,tk,os⟩) _
 case turn=>
  rintro⟨y,x⟩ rest b s' ⟨hb',rfl,vs,ws,ns',ms',hz,hvi,hwi,hlen,hR⟩
  cases hvi with
  |nil=>rw[List.zip_nil_left]at hz;cases hz
  |cons a t hvi'=>
   cases hwi with
   |nil=>rw[List.zip_nil_right]at hz;cases hz
   |cons c u hwi'=>
    rw[xW]at hz;injection hz with hyx hrest
    injection hyx with hy hx
    subst hy hx;rw[qA6]at hR;simp only[mC]at hlen;obtain⟨e,he,hiff⟩:=qD7 A.in1 ⟨hp,g,d,tk,os⟩ a t c u;refine hG (he prog w _ _ ?_);cases e with
    |true=>
     rw[kI (hiff.mp rfl)]at hR;wp_walk
     exact⟨rfl,rfl,_,_,_,_,hrest,hvi',hwi',by omega,hR⟩
    |false=>
     rw[kF (λq=>absurd (hiff.mpr q) kO)]at hR;have hri:=qD8 A.in1 ⟨hp,g,d,tk,os⟩ a t c u prog w;wp_walk using hri
     exact⟨_,rfl,by simpa using hR⟩
 case fin=>
  rintro⟨b1,b2⟩ s' ⟨hb',rfl,vs,ws,ns',ms',hz,hvi,hwi,hlen,hR⟩
  simp only at hb';subst hb';have hv:lexLt ns' ms'=decide (items.size<items2.size):=by
   cases hvi with
   |nil=>
    cases hwi with
    |nil=>simp only[rZ]at hlen;rw[q63];exact(kE (by omega)).symm
    |cons c u hw=>simp only[rZ,mC]at hlen;rw[q4Y];exact(hV (by omega)).symm
   |cons a t hv=>
    cases hwi with
    |nil=>simp only[rZ,mC]at hlen;rw[q4Z];exact(kE (by omega)).symm
    |cons c u hw=>rw[xW]at hz;cases hz
  rw[hv]at hR;wp_walk
  exact⟨_,rfl,by simpa[Builtin.Tuple.tupleCompareSizes]using hR⟩
 case h=>exact⟨rfl,rfl,items.toList,items2.toList,ns,ms,rfl,hi,hj,by omega,h⟩)
end
section
variable{prog:Program}{w:World}{A:Around}{E:Value→Shared→Prop}{s:Shared}
theorem lt_tupInts{l b:Addr}{items items2:Array Value}{ns ms:List Int}{Q:Value→Shared→Prop}(hl:IsTup s.heap l items)(hb:IsTup s.heap b items2)(hi:IntsAre items.toList ns)(hj:IntsAre items2.toList ms)
 (hu:A.units<cLine) (h:Q (.bool (lexLt ns ms)) s):wpAny (model prog w) A (compareOp .Lt (.ref l) (.ref b)) Q E s:=by(
obtain⟨⟨cls,dd,data,sl⟩,ho,hc,n,hd⟩:=id hl
obtain⟨⟨cls2,dd2,data2,sl2⟩,ho2,hc2,n2,hd2⟩:=id hb
simp only at hc hd hc2 hd2
subst hc hd hc2 hd2
exact richCompare_meets_room (op:=.Lt) ⟨_,ho,rfl⟩ ⟨_,ho2,rfl⟩ PySem.F.slot_tuple_lt PySem.F.entry_tuple_lt (PySem.F.args_tuple_lt_2 _ _) (q64 l b items items2 n n2 dd dd2 sl sl2 ns ms hi hj)
 ⟨ho,ho2,show Value.bool (lexLt ns ms)≠Value.notImplemented∧Q (.bool (lexLt ns ms)) s from⟨(λx=>nomatch x),h⟩⟩ hu)
end
end HT
namespace L2
open PySem PySem.Spec PyProof.Rows
noncomputable def ixN(n:Nat)(i:Int):Option Nat:=if 0≤i then(if i<n then some i.toNat else none)else if-(n:Int)≤i then some (i+n).toNat else none
noncomputable def atI{α:Type}(xs:List α)(i:Int):Option α:=(ixN xs.length i).bind λj=>xs[j]?
theorem qB4{n:Nat}{i:Int}{j:Nat}(h:ixN n i=some j):seqIndex? i n=some j∧j<n∧-(n:Int)≤i∧i<n:=by(
unfold ixN at h
by_cases h0:0≤i
·rw[kI h0]at h;by_cases h1:i<n
 ·rw[kI h1]at h;have e:i.toNat=j:=kU h;exact⟨by rw[l9 h0 h1,e],by omega,by omega,h1⟩
 rw[kF h1]at h;cases h
rw[kF h0]at h
by_cases h1:-(n:Int)≤i
·rw[kI h1]at h;have e:(i+n).toNat=j:=kU h;exact⟨by rw[lA (by omega) h1,e],by omega,h1,by omega⟩
rw[kF h1]at h;cases h)
theorem q7F{α:Type}{xs:List α}{i:Int}{v:α}(h:atI xs i=some v):∃j,seqIndex? i xs.length=some j∧xs[j]?=some v∧j<xs.length∧-(xs.length:Int)≤i∧i<xs.length:=by(
unfold atI at h
cases e:ixN xs.length i with
|none=>rw[e]at h;cases h
|some j=>rw[e]at h;obtain⟨h1,h2,h3,h4⟩:=qB4 e;exact⟨j,h1,h,h2,h3,h4⟩)
theorem uR{α:Type}{xs:List α}{j:Nat}{v:α}(h:xs[j]?=some v):atI xs (j:Int)=some v:=by
 have hj:j<xs.length:=(kB.mp h).1;have e:ixN xs.length (j:Int)=some j:=by unfold ixN;rw[kI (by omega),kI (by omega)];simp
 unfold atI;rw[e];exact h
noncomputable def qFE(b:Expr):Prop:=∀o i,subscripted b false o i=operate [o,i] (getItem o i)
noncomputable def IxR(X:Cx)(r:R2):Prop:=∀(value slice:Expr) (pins:List (Addr×Obj)) (s:Shared) (σ:St) (H:Hp) (x y:V) (v u:Value) (Q:VK),Inv X pins σ H s→RelV x v→RelV y u→r x y H Q→subscripted slice false v u=operate [v,u] (getItem v u)→wpAny (model X.prog X.w) X.A (subscriptTail value slice v u) (EP X pins σ Q) X.xe s
noncomputable def MtR(X:Cx)(id:String)(r:V→List V→Hp→VK→Prop):Prop:=∀(pins:List (Addr×Obj)) (s:Shared) (σ:St) (H:Hp) (x:V) (xs:List V) (v:Value) (us:List Value) (Q:VK),Inv X pins σ H s→RelV x v→Vals xs us→r x xs H Q→wpAny (model X.prog X.w) X.A (call (.builtin id) (v::us)) (EP X pins σ Q) X.xe s
section
variable{X:Cx}{a b:Expr}{ta tb:TE}{pos:Pos}
theorem qZ{r:R2}(hr:IxR X r)(ha:PE X a ta)(hb:PE X b tb)(hs:qFE b):PE X (.Subscript a b pos) (tOp r ta tb):=by intro pins s σ H Q I h;exact Subscript_ (binT ha hb I h λv u s2 x y H2 I2 rx ry q=>hr a b pins s2 σ H2 x y v u Q I2 rx ry q (hs _ _))
noncomputable def rIxL(K:PySem.W.Frag):R2:=λx y H Q=>∃p xs i v,x=.ref p∧y=.int i∧SqL K H p xs∧atI xs i=some v∧Q v H
noncomputable def rIxT(K:PySem.W.Frag):R2:=λx y H Q=>∃p xs i v,x=.ref p∧y=.int i∧SqT K H p xs∧atI xs i=some v∧Q v H
theorem jK:IxR X (rIxL X.K):=by(
intro value slice pins s σ H x y v u Q I rx ry h hs
obtain⟨p,xs,i,z,rfl,rfl,hq,he,q⟩:=h
cases rx
obtain⟨t,rfl⟩:=ry
obtain⟨its,r,pl,hz⟩:=I.list hq
obtain⟨j,h1,h2,h3,h4,h5⟩:=q7F he
obtain⟨w,ew,rw'⟩:=r.get h2
have hl:=r.length
have hn:=q4V
have fin:EP X pins σ Q w s:=⟨z,H,I,rw',q⟩
by_cases h0:0≤i
·have hj:i.toNat=j:=by rw[l9 h0 h5]at h1;exact kU h1
 exact item_listR pl.isList h0 (by omega) (by rw[hj];simpa using ew) fin hs
have hj:(i+(its.toArray.size:Int)).toNat=j:=by rw[lA (by omega) h4]at h1;rw[mB,←hl];exact kU h1
exact lB (x:=w) pl.isList.typeIs slot_list_getitem.lookup
 (lC (Q:=λr s'=>r=w∧EP X pins σ Q r s') pl.isList (by omega) (by rw[mB]<;>omega) (by omega) (by rw[hj];simpa using ew) ⟨rfl,fin⟩) hs)
theorem jX:IxR X (rIxT X.K):=by(
intro value slice pins s σ H x y v u Q I rx ry h hs
obtain⟨p,xs,i,z,rfl,rfl,hq,he,q⟩:=h
cases rx
obtain⟨t,rfl⟩:=ry
obtain⟨its,r,pl,hz⟩:=I.tuple hq
obtain⟨j,h1,h2,h3,h4,h5⟩:=q7F he
obtain⟨w,ew,rw'⟩:=r.get h2
have hl:=r.length
have hn:=q4V
have fin:EP X pins σ Q w s:=⟨z,H,I,rw',q⟩
exact lB (x:=w) pl.typeIs slot_tuple_getitem.lookup
 (getItem_tuple (j:=j) (Q:=λr s'=>r=w∧EP X pins σ Q r s') pl (by omega) (by omega) (by rw[mB,←hl];exact h1) (by simpa using ew) ⟨rfl,fin⟩) hs)
theorem qA7(its:List Value)(n j:Nat)(u:Value):Obj.mapSeq (·.setIfInBounds j u) { cls:=.type "list",data:=.seq its.toArray n } = { cls:=.type "list",data:=.seq (its.set j u).toArray n }:=by simp[Obj.mapSeq]
theorem Inv.lst{pins:List (Addr×Obj)}{σ:St}{H:Hp}{s:Shared}{p:Addr}{xs:List V}(I:Inv X pins σ H s)(h:H p=some (.lst xs)):
 ∃(its:List Value) (n:Nat),Vals xs its∧s.heap.get? p=some { cls:=.type "list",data:=.seq its.toArray n }∧xs.length≤sizeLine:=by obtain⟨z,its,n,r,e⟩:=I.hok p _ h;exact⟨its,n,r,e,z⟩
theorem Inv.lstUpd{pins:List (Addr×Obj)}{σ:St}{H:Hp}{s:Shared}{p:Addr}{xs ys:List V}{its its':List Value}{n n':Nat}{f:Obj→Obj}(I:Inv X pins σ H s)(h:H p=some (.lst xs))
 (ho:s.heap.get? p=some { cls:=.type "list",data:=.seq its.toArray n }) (hf:f { cls:=.type "list",data:=.seq its.toArray n } = { cls:=.type "list",data:=.seq its'.toArray n' }) (r:Vals ys its') (hz:ys.length≤sizeLine) (t:Nat):
 Inv X pins σ (upd H p (.lst ys)) { s with heap:=s.heap.update p f,toks:=t }:=by
 have e:(s.heap.update p f).get? p=some { cls:=.type "list",data:=.seq its'.toArray n' }:=by rw[gN f ho (by rw[hf]<;>rfl),hf]
 refine I.write (x:=p) (e:=p) (by rw[h];trivial) (.inl rfl) (λb u hb q=>(kY _ _ (wM hb)).trans q) ⟨_,e⟩ ?_;exact⟨hz,its',n',r,e⟩
noncomputable def qK3:V→V→V→Hp→(Hp→Prop)→Prop:=λo i v H Q=>∃p xs k j,o=.ref p∧i=.int k∧H p=some (.lst xs)∧ixN xs.length k=some j∧Q (upd H p (.lst (xs.set j v)))
theorem yV:PSet X qK3:=by(
intro pins s σ H o i v ov iv u Q I ro ri rv h
obtain⟨p,xs,k,j,rfl,rfl,hp,hj,q⟩:=h
cases ro
obtain⟨t,rfl⟩:=ri
obtain⟨its,n,r,ho,hz⟩:=I.lst hp
obtain⟨h1,h2,h3,h4⟩:=qB4 hj
have hl:=r.length
have hn:=q4V
have I':Inv X pins σ (upd H p (.lst (xs.set j v))) { s with heap:=s.heap.update p (Obj.mapSeq (·.setIfInBounds j u)) }:=I.lstUpd hp ho (qA7 its n j u) (r.set rv j) (by rw[gL];exact hz) s.toks
by_cases h0:0≤k
·have hk:k.toNat=j:=by rw[l9 h0 h4]at h1;exact kU h1
 exact PySem.W.ki_setAt ho h0 (by omega) (by rw[mB,←hl];exact h4) (by rw[hk];exact⟨_,I',q⟩)
have hk:(k+(its.toArray.size:Int)).toNat=j:=by rw[lA (by omega) h3]at h1;rw[mB,←hl];exact kU h1
exact PySem.W.ki_setBack ho (by omega) (by rw[mB,←hl];exact h3) (by omega) (by rw[hk];exact⟨_,I',q⟩))
noncomputable def q0M:V→Bool
| .non=>true
| .bl _=>true
| .int _=>true
| .str _=>true
|_=>false
noncomputable def eqV:V→V→Bool
| .non,.non=>true
| .bl a,.bl b=>a==b
| .bl a,.int b=>(if a then 1 else 0)==b
| .int a,.bl b=>a==(if b then 1 else 0)
| .int a,.int b=>a==b
| .str a,.str b=>a==b
|_,_=>false
theorem qD9{A:Around}{s:Shared}{y x:V}{u v:Value}(ry:RelV y u)(rx:RelV x v)(fy:q0M y=true)(fx:q0M x=true):SeqAt.EqAt A s u v (eqV y x):=by(
cases y with
|non=>
 cases ry;cases x with
 |non=>cases rx;exact lL _
 |bl b=>cases rx;exact SeqAt.EqAt.none_bool b
 |int b=>obtain⟨t,rfl⟩:=rx;exact SeqAt.EqAt.none_int b t
 |str b=>obtain⟨t,rfl⟩:=rx;exact SeqAt.EqAt.none_str b t
 |_=>exact absurd (show false=true from fx) kO
|bl a=>
 cases ry;cases x with
 |non=>cases rx;exact SeqAt.EqAt.bool_none a
 |bl b=>cases rx;exact SeqAt.EqAt.bool_bool a b
 |int b=>obtain⟨t,rfl⟩:=rx;exact SeqAt.EqAt.bool_int a b t
 |str b=>obtain⟨t,rfl⟩:=rx;exact SeqAt.EqAt.bool_str a b t
 |_=>exact absurd (show false=true from fx) kO
|int a=>
 obtain⟨t',rfl⟩:=ry;cases x with
 |non=>cases rx;exact SeqAt.EqAt.int_none a t'
 |bl b=>cases rx;exact SeqAt.EqAt.int_bool a t' b
 |int b=>obtain⟨t,rfl⟩:=rx;exact sK a t' b t
 |str b=>obtain⟨t,rfl⟩:=rx;exact xS a t' b t
 |_=>exact absurd (show false=true from fx) kO
|str a=>
 obtain⟨t',rfl⟩:=ry;cases x with
 |non=>cases rx;exact SeqAt.EqAt.str_none a t'
 |bl b=>cases rx;exact SeqAt.EqAt.str_bool a t' b
 |int b=>obtain⟨t,rfl⟩:=rx;exact xT a t' b t
 |str b=>obtain⟨t,rfl⟩:=rx;exact SeqAt.EqAt.str_str a t' b t
 |_=>exact absurd (show false=true from fx) kO
|_=>exact absurd (show false=true from fy) kO)
noncomputable def eqU(x:V)(u:Value):Bool:=match u with
| .none=>eqV .non x
| .bool b=>eqV (.bl b) x
| .int i _=>eqV (.int i) x
| .str z _=>eqV (.str z) x
|_=>false
theorem qDA{x y:V}{u:Value}(r:RelV y u)(f:q0M y=true):eqU x u=eqV y x:=by(
cases y with
|non=>cases r;rfl
|bl b=>cases r;rfl
|int i=>obtain⟨t,rfl⟩:=r;rfl
|str z=>obtain⟨t,rfl⟩:=r;rfl
|_=>exact absurd (show false=true from f) kO)
theorem q7G{x:V}:∀{xs:List V} {us:List Value},Vals xs us→xs.all q0M=true→us.any (eqU x)=xs.any λy=>eqV y x
|_,_,.nil,_=>rfl
|y::xs,u::us,.cons r t,f=>by rw[eC,mR]at f;rw[cV,cV,qDA r f.1,q7G t f.2]
theorem q50{A:Around}{s:Shared}{x:V}{v:Value}(rx:RelV x v)(fx:q0M x=true):∀{xs:List V} {us:List Value},Vals xs us→xs.all q0M=true→∀u∈us,SeqAt.EqAt A s u v (eqU x u)
|_,_,.nil,_=>λu hu=>by cases hu
|y::xs,u::us,.cons r t,f=>λu' hu=>by
 rw[eC,mR]at f;rcases kM.mp hu with rfl|hu
 ·rw[qDA r f.1];exact qD9 r rx f.1 fx
 exact q50 rx fx t f.2 u' hu
noncomputable def inV(x:V)(xs:List V):Bool:=xs.any λy=>eqV y x
noncomputable def rIn(K:PySem.W.Frag)(neg:Bool):R2:=λx y H Q=>∃p xs,y=.ref p∧(SqL K H p xs∨SqT K H p xs)∧q0M x=true∧xs.all q0M=true∧Q (.bl (if neg then !inV x xs else inV x xs)) H
theorem q7H:OpR X (compareOp .NotIn) (rIn X.K true):=by(
intro pins s σ H x y v u Q I rx ry h
obtain⟨p,xs,rfl,hq,fx,fs,q⟩:=h
cases ry
rcases hq with hq|hq
·obtain⟨its,r,pl,hz⟩:=I.list hq;refine SeqAt.notIn_listAt (eqU x) pl.isList (λw hw=>q50 rx fx r fs w (by simpa using hw)) ⟨.bl _,H,I,rfl,?_⟩;rw[show its.toArray.any (eqU x)=its.any (eqU x) by simp,q7G r fs];exact q
obtain⟨its,r,pl,hz⟩:=I.tuple hq
refine SeqAt.notIn_tupleAt (eqU x) pl (λw hw=>q50 rx fx r fs w (by simpa using hw)) ⟨.bl _,H,I,rfl,?_⟩
rw[show its.toArray.any (eqU x)=its.any (eqU x) by simp,q7G r fs]
exact q)
theorem jS:q0T X (.builtin "len") (λxs H Q=>∃p ys,xs=[.ref p]∧(SqL X.K H p ys∨SqT X.K H p ys)∧Q (.int ys.length) H):=by(
intro pins s σ H xs us Q I r h
obtain⟨p,ys,rfl,hq,q⟩:=h
obtain⟨u,rfl,rx⟩:=zQ r
cases rx
have hn:=q4V
rcases hq with hq|hq
·obtain⟨its,r',pl,hz⟩:=I.list hq;have hlen:=r'.length;exact Calls.call_len_list pl.isList (by simp only[mB]<;>omega) ⟨.int ys.length,H,I.tok _,⟨s.toks+1,by rw[mB,hlen]⟩,q⟩
obtain⟨its,r',pl,hz⟩:=I.tuple hq
have hlen:=r'.length
exact len_tuple pl (by simp only[mB]<;>omega) ⟨.int ys.length,H,I.tok _,⟨s.toks+1,by rw[mB,hlen]⟩,q⟩)
theorem q7I:q0T X (.type "list") (λxs H Q=>∃p ys,xs=[.ref p]∧(SqL X.K H p ys∨SqT X.K H p ys)∧∀l,H l=none→Q (.ref l) (upd H l (.lst ys))):=by(
intro pins s σ H xs us Q I r h
obtain⟨p,ys,rfl,hq,q⟩:=h
obtain⟨u,rfl,rx⟩:=zQ r
cases rx
have fin:∀(its:List Value),Vals ys its→ys.length≤sizeLine→∀(h':Heap) (c':Nat),(∀b o',s.heap.get? b=some o'→h'.get? b=some o')→h'.get? s.heap.objs.size=some { cls:=.type "list",dict:=none,data:=.seq its.toArray c',slots:=#[] }→EP X pins σ Q (.ref s.heap.objs.size) { s with heap:=h' }:=λits r' hz h' c' kp e=>⟨.ref s.heap.objs.size,_,I.laid (t':=s.toks) kp (kN _) (show jA X.prog X.w _ h' _ (.lst ys)from⟨hz,its,c',r',e⟩),rfl,q _ (I.hok.fresh (kN _))⟩
rcases hq with hq|hq
·obtain⟨its,r',pl,hz⟩:=I.list hq;have hlen:=r'.length;obtain⟨o,ho,hc,n,hd⟩:=pl.isList;exact call_list_seq p (.inl rfl) ho hc hd (λh' c' kp e=>fin its r' hz h' c' kp e) (by simp only[mB]<;>omega)
obtain⟨its,r',pl,hz⟩:=I.tuple hq
have hlen:=r'.length
obtain⟨o,ho,hc,n,hd⟩:=pl
exact call_list_seq p (.inr rfl) ho hc hd (λh' c' kp e=>fin its r' hz h' c' kp e) (by simp only[mB]<;>omega))
noncomputable def tyV(K:PySem.W.Frag)(T:String)(x:V)(H:Hp):Prop:=match x with
| .str _=>T="str"
| .int _=>T="int"
| .ref p=>(T="list"∧∃xs,SqL K H p xs)∨(T="tuple"∧∃o,K.lookup p=some o∧o.cls=.type "tuple"∧o.dict=none)∨(T="dict"∧((∃kvs,H p=some (.dK kvs))∨∃kvs,H p=some (.dT kvs)))∨(T="set"∧∃S n,H p=some (.set S n))
|_=>False
theorem qDB{pins:List (Addr×Obj)}{σ:St}{H:Hp}{s:Shared}{T:String}{x:V}{v:Value}(I:Inv X pins σ H s)(r:RelV x v)(ty:tyV X.K T x H):
 s.TypeIs v T∧∀a,v=.ref a→∃ob,s.heap.get? a=some ob∧ob.dict=none:=by(
cases x with
|str z=>obtain⟨t,rfl⟩:=r;cases(show T="str" from ty);exact⟨typeIs_str s z t,λ_ e=>nomatch e⟩
|int i=>obtain⟨t,rfl⟩:=r;cases(show T="int" from ty);exact⟨bM s i t,λ_ e=>nomatch e⟩
|ref p=>
 cases r;rcases ty with⟨rfl,xs,hq⟩|⟨rfl,o,hk,hc,hd⟩|⟨rfl,hk⟩|⟨rfl,S,n,hk⟩
 ·obtain⟨its,_,pl,_⟩:=I.list hq;refine⟨pl.isList.typeIs,λa e=>?_⟩;cases e;obtain⟨o,n,e,c,hd,_⟩:=pl;exact⟨o,e,hd⟩
 ·refine⟨⟨o,I.kIn p o hk,hc⟩,λa e=>?_⟩;cases e;exact⟨o,I.kIn _ o hk,hd⟩
 ·have z:∃o,s.heap.get? p=some o∧o.ExactDict:=by
   rcases hk with⟨kvs,hk⟩|⟨kvs,hk⟩
   ·obtain⟨_,_,_,_,o,_,_,e,ex,_⟩:=I.hok p _ hk;exact⟨o,e,ex⟩
   obtain⟨_,_,_,_,o,_,_,e,ex,_⟩:=I.hok p _ hk;exact⟨o,e,ex⟩
  obtain⟨o,e,ex⟩:=z;refine⟨⟨o,e,ex.1⟩,λa e2=>?_⟩;cases e2;exact⟨o,e,ex.2.1⟩
 obtain⟨o,_,_,_,e,ex,_⟩:=I.hok p _ hk;refine⟨⟨o,e,ex.1⟩,λa e2=>?_⟩;cases e2;exact⟨o,e,ex.2.1⟩
|_=>exact False.elim ty)
noncomputable def tBM0(K:PySem.W.Frag)(T:String)(r:V→List V→Hp→VK→Prop)(to:TE):TE:=λσ H Q=>to σ H λx H1=>tyV K T x H1∧r x [] H1 Q
noncomputable def tBM(K:PySem.W.Frag)(T:String)(r:V→List V→Hp→VK→Prop)(to:TE)(t:TA):TE:=λσ H Q=>to σ H λx H1=>tyV K T x H1∧t σ H1 λxs H2=>r x xs H2 Q
variable{o e:Expr}{es:List Expr}{to:TE}{t:TA}{name:Str}{apos cpos:Pos}{T id:String}{r:V→List V→Hp→VK→Prop}
theorem qDC(pa:PlainAttrs T)(slot:Slot T name id)(hty:typeOf (.builtin id)=pure (.type "method_descriptor"))(hm:MtR X id r)(ho:PE X o to)
 (hbase:attributeBase o name X.env (eval o X.env)=eval o X.env:=by rfl) (hline:(apos.endLine==cpos.line)=true:=by rfl):PE X (.Call (.Attribute o name apos) [] [] cpos) (tBM0 X.K T r to):=by(
intro pins s σ H Q I h
refine wpAny_Call_method0_late hbase hline (thn (ho pins s σ H _ I h) λv s1 hZ=>?_)
obtain⟨x,H1,I1,r1,ty,q1⟩:=hZ
obtain⟨h1,h2⟩:=qDB I1 r1 ty
exact⟨T,id,pa,slot,hty,h1,h2,c9 rfl (PySem.evalArgs_none (hm pins s1 σ H1 x [] v [] Q I1 r1 .nil q1))⟩)
theorem q8N(pa:PlainAttrs T)(slot:Slot T name id)(hty:typeOf (.builtin id)=pure (.type "method_descriptor"))(hm:MtR X id r)(ho:PE X o to)(ha:PA X (e::es) t)
 (hbase:attributeBase o name X.env (eval o X.env)=eval o X.env:=by rfl)
 (hfew:((backTo cpos (starEach (e::es) X.env)).all (λx=>!x.1)&&(backToKw cpos (keywordEach [] X.env)).all (λx=>x.1.isSome)
  &&decide ((e::es).length+([]:List Keyword).length+(if([]:List Keyword).isEmpty then 0 else 1)<30))=true:=by rfl)
 (hline:(apos.endLine==cpos.line)=true:=by rfl) (hs:starEach (e::es) X.env=(false,eval e X.env)::starEach es X.env:=by rfl) (hplain:(backTo cpos (starEach es X.env)).any (·.1)=false:=by rfl):
 PE X (.Call (.Attribute o name apos) (e::es) [] cpos) (tBM X.K T r to t):=by(
intro pins s σ H Q I h
refine wpAny_Call_method_late hbase hfew hline rfl (thn (ho pins s σ H _ I h) λv s1 hZ=>?_)
obtain⟨x,H1,I1,r1,ty,q1⟩:=hZ
obtain⟨h1,h2⟩:=qDB I1 r1 ty
refine⟨T,id,pa,slot,hty,h1,h2,?_⟩
have hA:=ha cpos pins s1 σ H1 _ I1 q1
rw[hs]at hA ⊢
refine c9 (by show(false||(backTo cpos (starEach es X.env)).any (·.1))=false;rw[hplain]<;>rfl) (xA ?_)
exact thn hA λus s2 ⟨vs,H2,I2,r2,q2⟩=>hm pins s2 σ H2 x vs v us Q I2 r1 r2 q2)
end
noncomputable def MtM(X:Cx)(id:String)(r:V→List V→Hp→VK→Prop):Prop:=∀(pins:List (Addr×Obj)) (s:Shared) (σ:St) (H:Hp) (x:V) (xs:List V) (v:Value) (us:List Value) (Q:VK),Inv X pins σ H s→RelV x v→Vals xs us→r x xs H Q→wpAny (model X.prog X.w) X.A (call (.builtin id) (v::us)) (EP X pins σ Q) X.xe s
theorem Vals.one{x:V}{us:List Value}(h:Vals [x] us):∃u,us=[u]∧RelV x u:=by
 cases h with
 |cons r t=>cases t;exact⟨_,rfl,r⟩
theorem Vals.zero:∀{us:List Value},Vals [] us→us=[]
|_,.nil=>rfl
theorem Vals.rep{xs:List V}{us:List Value}(h:Vals xs us):∀k:Nat,Vals (List.replicate k xs).flatten (List.replicate k us).flatten
|0=>.nil
|k+1=>by rw[dP,dP,cD,cD];exact Vals.append h (Vals.rep h k)
theorem q6W(its:List Value):∀(k:Nat) (acc:List Value),List.foldl (λx1 x2=>x1++x2) acc.toArray (List.replicate k its.toArray)=(acc++(List.replicate k its).flatten).toArray
|0,acc=>by simp
|k+1,acc=>by
 have e:acc.toArray++its.toArray=(acc++its).toArray:=by simp
 have e2:(acc++its)++(List.replicate k its).flatten=acc++(List.replicate (k+1) its).flatten:=by rw[dP,cD,r6]
 rw[←e2,←q6W its k (acc++its),←e,dP,List.foldl_cons]
section
variable{X:Cx}{pins:List (Addr×Obj)}{σ:St}{H:Hp}{s:Shared}{l b:Addr}{xs ys zs:List V}
theorem Inv.lset{its its':List Value}{n:Nat}{f:Array Value→Array Value}{t':Nat}(I:Inv X pins σ H s)(hH:H l=some (.lst xs))
 (e:s.heap.get? l=some { cls:=.type "list",data:=.seq its.toArray n }) (hf:f its.toArray=its'.toArray) (hv:Vals ys its') (hz:ys.length≤sizeLine):
 Inv X pins σ (upd H l (.lst ys)) { s with heap:=s.heap.update l (Obj.mapSeq f),toks:=t' }:=by(
have q:=PySem.IsL.update e f
rw[hf]at q
refine I.write (x:=l) (e:=l) (by rw[hH];exact trivial) (.inl rfl) (λb' u hb hu=>(kY s.heap (Obj.mapSeq f) (wM hb)).trans hu) ⟨_,q⟩ ?_
exact⟨hz,its',_,hv,q⟩)
theorem Inv.lnew{its:List Value}{t':Nat}(I:Inv X pins σ H s)(hv:Vals ys its)(hz:ys.length≤sizeLine):
 Inv X pins σ (upd H s.heap.objs.size (.lst ys)) { s with heap:=s.heap.push { cls:=.type "list",data:=.seq its.toArray },toks:=t' }:=I.laid (λ_ _ q=>hU _ q) (kN _) ⟨hz,its,0,hv,mD _ rfl⟩
theorem Inv.fresh(I:Inv X pins σ H s):H s.heap.objs.size=none:=I.hok.fresh (kN _)
theorem Inv.lstM(I:Inv X pins σ H s)(hH:H l=some (.lst xs)):xs.length≤sizeLine∧∃(its:List Value) (n:Nat),Vals xs its∧xs.length=its.length∧s.heap.get? l=some { cls:=.type "list",data:=.seq its.toArray n }:=by obtain⟨z,its,n,r,e⟩:=I.hok l _ hH;exact⟨z,its,n,r,r.length,e⟩
theorem qDD{n:Nat}(h:n≤sizeLine):Builtin.List.listTooLong n=false:=by unfold Builtin.List.listTooLong;exact kE (by omega)
end
section
variable{X:Cx}
noncomputable def qFF:V→List V→Hp→VK→Prop:=λx vs H Q=>∃l xs y,x=.ref l∧vs=[y]∧H l=some (.lst xs)∧xs.length<sizeLine∧Q .non (upd H l (.lst (xs++[y])))
theorem vB:MtM X "list.append" qFF:=by(
intro pins s σ H x vs v us Q I rx rv h
obtain⟨l,xs,y,rfl,rfl,hH,hz,q⟩:=h
cases rx
obtain⟨u,rfl,ru⟩:=rv.one
obtain⟨z,its,n,r,hl,e⟩:=I.lstM hH
refine xX F.slot_list_append ⟨_,e,rfl⟩ F.entry_list_append (F.args_list_append_2 _ _) (PySem.list_append l its.toArray n u (by rw[mB];omega)) ⟨e,?_⟩
refine⟨.non,_,I.lset (its':=its++[u]) hH e (by simp) (r.append (.cons ru .nil)) ?_,rfl,q⟩
rw[kZ,gF]
omega)
noncomputable def qHY:V→List V→Hp→VK→Prop:=λx vs H Q=>∃l xs,x=.ref l∧vs=[]∧H l=some (.lst xs)∧Q .non (upd H l (.lst []))
theorem qDE:MtM X "list.clear" qHY:=by(
intro pins s σ H x vs v us Q I rx rv h
obtain⟨l,xs,rfl,rfl,hH,q⟩:=h
cases rx
have hus:=rv.zero
subst hus
obtain⟨z,its,n,r,hl,e⟩:=I.lstM hH
refine xX F.slot_list_clear ⟨_,e,rfl⟩ F.entry_list_clear (F.args_list_clear_1 _) (AutoSeq1.list_clear_list_0 l its.toArray n (by rw[mB];omega)) ⟨e,?_⟩
exact⟨.non,_,I.lset (its':=[]) (ys:=[]) hH e rfl .nil (mM _),rfl,q⟩)
noncomputable def rRep:R2:=λx y H Q=>∃l k xs,x=.ref l∧y=.int k∧H l=some (.lst xs)∧-(2 ^ 63)≤k∧k<2 ^ 63∧xs.length*k.toNat≤sizeLine∧∀p,H p=none→Q (.ref p) (upd H p (.lst (List.replicate k.toNat xs).flatten))
theorem qFG{α:Type}(xs:List α)(k:Nat):(List.replicate k xs).flatten.length=k*xs.length:=by(
induction k with
|zero=>simp
|succ k ih=>rw[dP,cD,kZ,ih,cP,Nat.add_comm])
theorem qHZ:OpR X (binaryOp .Mult) rRep:=by(
intro pins s σ H x y v u Q I rx ry h
obtain⟨l,k,xs,rfl,rfl,hH,h1,h2,hz,q⟩:=h
cases rx
obtain⟨t,rfl⟩:=ry
obtain⟨z,its,n,r,hl,e⟩:=I.lstM hH
have hlen:its.toArray.size*k.toNat≤sizeLine:=by rw[mB,←hl];exact hz
have hcap:¬its.toArray.size*k.toNat>(2 ^ 63-1) / 8:=by
 have:(sizeLine:Nat)≤(2 ^ 63-1) / 8:=by decide
 omega
have hfit:¬(!Builtin.List.listFitsIndex k)=true:=by rw[fitsIndex_both h1 h2];exact kO
have hlong:¬Builtin.List.listTooLong (its.toArray.size*k.toNat)=true:=by rw[qDD hlen];exact kO
have hnew:List.foldl (λx1 x2=>x1++x2) #[] (List.replicate (if its.toArray.isEmpty=true then 0 else k.toNat) its.toArray)=(List.replicate k.toNat its).flatten.toArray:=by
 have f0:∀m:Nat,List.foldl (λx1 x2=>x1++x2) #[] (List.replicate m its.toArray)=(List.replicate m its).flatten.toArray:=λm=>by have:=q6W its m [];rw[g9]at this;exact this
 rw[f0];cases its with
 |nil=>simp
 |cons a r'=>rw[kF (by simp)]
refine wpAny_binaryOp_repeat_ref (T:="list") (U:="int") (by decide) ⟨_,e,rfl⟩ (λs'=>bM s' k t) noFill_list_mul F.fills_int_mul a8 repeat_list F.slot_int_index.lookup
 (xX a8 (bM s k t) F.entry_int_rmul (F.args_int_rmul_2 _ _) (int___rmul___int_list k t l its.toArray n)
  ⟨e,rfl,⟨_,e,rfl⟩,xX F.slot_list_mul ⟨_,e,rfl⟩ F.entry_list_mul (F.args_list_mul_2 _ _) (AutoListH.list___mul___list_int_3 l its.toArray n k t hfit hcap hlong) ⟨e,?_⟩⟩)
rw[hnew]
exact⟨.ref _,_,I.lnew (t':=s.toks) (r.rep k.toNat) (by rw[qFG,wQ];exact hz),rfl,q _ I.fresh⟩)
end
section
variable{κ:Type}[DecidableEq κ]
noncomputable def valV(kvs:List (κ×V))(k:κ):Option V:=(kvs.find? λkv=>decide (kv.1=k)).map (·.2)
noncomputable def putK(kvs:List (κ×V))(k:κ)(v:V):List (κ×V):=if(kvs.any λkv=>decide (kv.1=k))=true then kvs.map (λkv=>if kv.1=k then(kv.1,v)else kv)else kvs++[(k,v)]
noncomputable def q51(kvs:List (κ×V))(k:κ):List (κ×V):=kvs.filter λkv=>decide (kv.1≠k)
theorem q2X{p:κ×V}{r:List (κ×V)}{k:κ}(e:p.1=k):valV (p::r) k=some p.2:=by simp[valV,dR,e]
theorem q0U{p:κ×V}{r:List (κ×V)}{k:κ}(e:¬p.1=k):valV (p::r) k=valV r k:=by simp[valV,dR,e]
theorem q8O(k:κ):∀kvs:List (κ×V),(kvs.any λkv=>decide (kv.1=k))=(valV kvs k).isSome
| []=>rfl
|p::r=>by
 rw[cV];by_cases e:p.1=k
 ·simp only[q2X e,hV e,Bool.true_or,Option.isSome_some]
 rw[q0U e,kE e,Bool.false_or];exact q8O k r
theorem q3W(kvs:List (κ×V))(k:κ)(v:V):(putK kvs k v).length≤kvs.length+1:=by(
unfold putK
split
·rw[h9];omega
rw[kZ,mC,rZ];omega)
theorem RelO.isSome_eq{o:Option V}{u:Option Value}(r:RelO o u):o.isSome=u.isSome:=by(
cases o with
|none=>cases u with
 |none=>rfl
 |some _=>exact(show False from r).elim
|some _=>cases u with
 |none=>exact(show False from r).elim
 |some _=>rfl)
theorem KV.val{kvs:List (κ×V)}{vs:List (κ×Value)}(r:KV kvs vs)(k:κ):RelO (valV kvs k) (valueAt vs k):=by(
unfold KV at r
induction r with
|nil=>exact True.intro
|@cons p q ps qs h t ih=>
 obtain⟨h1,h2⟩:=h;by_cases e:p.1=k
 ·have e':q.1=k:=h1.symm.trans e;have b:valueAt (q::qs) k=some q.2:=by simp[valueAt,dR,e']
  rw[q2X e,b];exact h2
 have e':¬q.1=k:=λz=>e (h1.trans z);have b:valueAt (q::qs) k=valueAt qs k:=by simp[valueAt,dR,e']
 rw[q0U e,b];exact ih)
theorem KV.any{kvs:List (κ×V)}{vs:List (κ×Value)}(r:KV kvs vs)(k:κ):(kvs.any λkv=>decide (kv.1=k))=vs.any λkv=>decide (kv.1=k):=by(
unfold KV at r
induction r with
|nil=>rfl
|cons h t ih=>rw[cV,cV,ih,h.1])
theorem KV.repl{kvs:List (κ×V)}{vs:List (κ×Value)}(r:KV kvs vs)(k:κ){y:V}{u:Value}(ry:RelV y u):
 KV (kvs.map λkv=>if kv.1=k then(kv.1,y)else kv) (vs.map λkv=>if kv.1=k then(kv.1,u)else kv):=by(
unfold KV at r ⊢
induction r with
|nil=>exact .nil
|@cons p q ps qs h t ih=>
 rw[mJ,mJ];refine .cons ?_ ih;obtain⟨h1,h2⟩:=h;by_cases e:p.1=k
 ·rw[kI e,kI (h1.symm.trans e)];exact⟨h1,ry⟩
 rw[kF e,kF (λz=>e (h1.trans z))];exact⟨h1,h2⟩)
theorem KV.put{kvs:List (κ×V)}{vs:List (κ×Value)}(r:KV kvs vs)(k:κ){y:V}{u:Value}(ry:RelV y u):KV (putK kvs k y) (stored vs k u):=by(
unfold putK stored
rw[r.any k]
by_cases e:(vs.any λkv=>decide (kv.1=k))=true
·rw[kI e,kI e];exact r.repl k ry
rw[kF e,kF e];exact Paired.snoc r ⟨rfl,ry⟩)
theorem KV.drop{kvs:List (κ×V)}{vs:List (κ×Value)}(r:KV kvs vs)(k:κ):KV (q51 kvs k) (without vs k):=by(
unfold KV at r ⊢
unfold q51 without
induction r with
|nil=>exact .nil
|@cons p q ps qs h t ih=>
 obtain⟨h1,h2⟩:=h;rw[gA,gA];by_cases e:p.1=k
 ·have a:¬decide (p.1≠k)=true:=by simp[e]
  have b:¬decide (q.1≠k)=true:=by simp[h1.symm.trans e]
  rw[kF a,kF b];exact ih
 have e':¬q.1=k:=λz=>e (h1.trans z);have a:decide (p.1≠k)=true:=by simp[e]
 have b:decide (q.1≠k)=true:=by simp[e']
 rw[kI a,kI b];exact .cons ⟨h1,h2⟩ ih)
theorem KV.keys{kvs:List (κ×V)}{vs:List (κ×Value)}(r:KV kvs vs):kvs.map (·.1)=vs.map (·.1):=by(
unfold KV at r
induction r with
|nil=>rfl
|cons h t ih=>rw[mJ,mJ,ih,h.1])
theorem KV.length{kvs:List (κ×V)}{vs:List (κ×Value)}(r:KV kvs vs):kvs.length=vs.length:=xQ r
theorem qDF(kvs:List (κ×V))(k:κ):(q51 kvs k).length≤kvs.length:=mH _ _
end
theorem q8P{P:Program}{w:World}{k:Key}{u:Value}(r:RelV (kV k) u):(jW P w).is k u=true:=by(
cases k with
|inl i=>obtain⟨t,e⟩:=(show ∃t,u=Value.int i t from r);subst e;exact q8G P w i t
|inr x=>obtain⟨t,e⟩:=(show ∃t,u=Value.str x t from r);subst e;exact q8H P w x t)
theorem q6X{P:Program}{w:World}:∀{ks:List Key} {us:List Value},Vals (ks.map kV) us→ItemsAre (jW P w) ks us
| [],_,r=>by rw[eL]at r;cases r;exact .nil
|k::ks,_,r=>by
 rw[mJ]at r;cases r with
 |cons h t=>exact .cons (q8P h) (q6X t)
noncomputable abbrev KT(H:Hp):List (List Key×V)→List (List Key×Addr×Value)→Prop:=Paired λp q=>p.1=q.1∧H q.2.1=some (.tup (p.1.map kV))∧RelV p.2 q.2.2
theorem KT.val{H:Hp}{kvs:List (List Key×V)}{xs:List (List Key×Addr×Value)}(r:KT H kvs xs)(k:List Key):RelO (valV kvs k) ((atKey xs k).map (·.2)):=by(
induction r with
|nil=>exact True.intro
|@cons p q ps qs h t ih=>
 obtain⟨h1,_,h2⟩:=h;by_cases e:p.1=k
 ·have e':q.1=k:=h1.symm.trans e;have b:atKey (q::qs) k=some q.2:=by simp[atKey,dR,e']
  rw[q2X e,b];exact h2
 have e':¬q.1=k:=λz=>e (h1.trans z);have b:atKey (q::qs) k=atKey qs k:=by simp[atKey,dR,e']
 rw[q0U e,b];exact ih)
theorem KT.repl{H:Hp}{kvs:List (List Key×V)}{xs:List (List Key×Addr×Value)}(r:KT H kvs xs)(k:List Key){y:V}{u:Value}(ry:RelV y u):
 KT H (kvs.map λkv=>if kv.1=k then(kv.1,y)else kv) (xs.map (putAt k u)):=by(
induction r with
|nil=>exact .nil
|@cons p q ps qs h t ih=>
 rw[mJ,mJ];refine .cons ?_ ih;obtain⟨h1,h2,h3⟩:=h;unfold putAt;by_cases e:p.1=k
 ·rw[kI e,kI (h1.symm.trans e)];exact⟨h1,h2,ry⟩
 rw[kF e,kF (λz=>e (h1.trans z))];exact⟨h1,h2,h3⟩)
theorem KT.put{H:Hp}{kvs:List (List Key×V)}{xs:List (List Key×Addr×Value)}(r:KT H kvs xs)(k:List Key){b:Addr}{y:V}{u:Value}(hb:H b=some (.tup (k.map kV)))(ry:RelV y u):
 KT H (putK kvs k y) (storedH xs k b u):=by(
have e:(kvs.any λkv=>decide (kv.1=k))=(atKey xs k).isSome:=by rw[q8O,(r.val k).isSome_eq,aH]
unfold putK storedH
rw[e]
by_cases q:(atKey xs k).isSome=true
·rw[kI q,kI q];exact r.repl k ry
rw[kF q,kF q];exact Paired.snoc r ⟨rfl,hb,ry⟩)
theorem KT.keeps{H H':Hp}{kvs:List (List Key×V)}{xs:List (List Key×Addr×Value)}(r:KT H kvs xs)(ht:∀b ys,H b=some (.tup ys)→H' b=some (.tup ys)):KT H' kvs xs:=Paired.mapP r λ_ _ z=>⟨z.1,ht _ _ z.2.1,z.2.2⟩
section
variable{P:Program}{w:World}{H:Hp}{h:Heap}{a:Addr}
theorem qH9{u:HO}(ok:HOk P w H h)(e:Rd H a u):jA P w H h a u:=e.ok ok
theorem q8Q{kvs:List (Key×V)}(ok:HOk P w H h)(e:Rd H a (.dK kvs)):kvs.length≤sizeLine∧(a==sysModules)=false∧∃vs,KV kvs vs∧h.DictOf (jW P w) a vs:=show jA P w H h a (.dK kvs)from qH9 ok e
theorem q8R{kvs:List (Key×V)}(ok:HOk P w H h)(e:H a=some (.dK kvs)):kvs.length≤sizeLine∧(a==sysModules)=false∧∃vs,KV kvs vs∧h.DictOf (jW P w) a vs:=q8Q ok (.inl e)
theorem q7J{ks:List Key}(ok:HOk P w H h)(e:H a=some (.tup (ks.map kV))):(tupleKind (jW P w)).is h ks a:=by obtain⟨_,its,r,o,h1,h2,n,h3⟩:=(show jA P w H h a (.tup (ks.map kV))from ok a _ e);exact⟨o,its.toArray,n,h1,h2,h3,by simpa using q6X r⟩
theorem q8S{kvs:List (List Key×V)}(ok:HOk P w H h)(e:Rd H a (.dT kvs)):kvs.length≤sizeLine∧(a==sysModules)=false∧∃xs,KT H kvs xs∧h.DictOfH (tupleKind (jW P w)) a xs:=by(
obtain⟨z,y,xs,r,o,es,ep,h1,h2,h3,h4,h5⟩:=(show jA P w H h a (.dT kvs)from qH9 ok e)
refine⟨z,y,xs,r,o,es,ep,h1,h2,h3,h4,λx hx=>?_,h5⟩
have all:∀{l:List (List Key×V)} {m:List (List Key×Addr×Value)},KT H l m→∀x∈m,(tupleKind (jW P w)).is h x.1 x.2.1:=by
 intro l m q;induction q with
 |nil=>intro x hx;exact nomatch hx
 |@cons p q ps qs hq t ih=>
  intro x hx;rcases kM.mp hx with e|hx
  ·subst e;exact q7J ok (by rw[←hq.1];exact hq.2.1)
  exact ih x hx
exact all r x hx)
theorem qK4{kvs:List (List Key×V)}(ok:HOk P w H h)(e:H a=some (.dT kvs)):kvs.length≤sizeLine∧(a==sysModules)=false∧∃xs,KT H kvs xs∧h.DictOfH (tupleKind (jW P w)) a xs:=q8S ok (.inl e)
end
noncomputable def DGet(H:Hp)(a:Addr)(y:V)(r:Option V):Prop:=(∃kvs k,Rd H a (.dK kvs)∧y=kV k∧r=valV kvs k)∨∃kvs k b,Rd H a (.dT kvs)∧y=.ref b∧H b=some (.tup (k.map kV))∧r=valV kvs k
noncomputable def DPut(H:Hp)(a:Addr)(y v:V)(H':Hp):Prop:=(∃kvs k,H a=some (.dK kvs)∧y=kV k∧kvs.length<sizeLine∧H'=upd H a (.dK (putK kvs k v)))∨∃kvs k b,H a=some (.dT kvs)∧y=.ref b∧H b=some (.tup (k.map kV))∧kvs.length<sizeLine∧H'=upd H a (.dT (putK kvs k v))
theorem DGet.k{H:Hp}{a:Addr}{kvs:List (Key×V)}{k:Key}(e:H a=some (.dK kvs)):DGet H a (kV k) (valV kvs k):=.inl ⟨kvs,k,.inl e,rfl,rfl⟩
section
variable{X:Cx}{pins:List (Addr×Obj)}{σ:St}{H:Hp}{s:Shared}{a:Addr}{y v:V}{u r:Value}{o:Option V}{A:Around}{E:Value→Shared→Prop}
theorem Inv.big(I:Inv X pins σ H s):sysModules<s.heap.objs.size:=by have h:mainGlobals<s.heap.objs.size:=(I.mod.glob.keeps I.bk).lt;exact Nat.lt_trans (by decide) h
theorem qC6{Q:Value→Shared→Prop}(hu:A.units+1<cLine)(I:Inv X pins σ H s)(g:DGet H a y (some v))(ry:RelV y u)(h:∀w' s',Inv X pins σ H s'→RelV v w'→Q w' s'):
 wpAny (model X.prog X.w) A (getItem (.ref a) u) Q E s:=by(
rcases g with⟨kvs,k,e,ey,l⟩|⟨kvs,k,b,e,ey,eb,l⟩
·subst ey;obtain⟨z,hd,vs,rel,dd⟩:=q8Q I.hok e;obtain⟨w',hw,rw'⟩:=RelO.some_of (v:=v) (o:=valueAt vs k) (by rw[l];exact rel.val k);exact wpAny_getItem_of (q8P ry) dd.mapOf hw (h w' _ (I.tok _) rw')
subst ey
cases(show u=Value.ref b from ry)
obtain⟨z,hd,xs,rel,dd⟩:=q8S I.hok e
obtain⟨w',hw,rw'⟩:=RelO.some_of (v:=v) (o:=(atKey xs k).map (·.2)) (by rw[l];exact rel.val k)
obtain⟨p,hp,hp2⟩:=mO.mp hw
refine wpAny_getItem_heap (sL hu) (q7J I.hok eb) dd hp ?_
rw[hp2]
exact h w' _ (I.tok _) rw')
theorem d_in{Q:Value→Shared→Prop}(hu:A.units+1<cLine)(I:Inv X pins σ H s)(g:DGet H a y o)(ry:RelV y u)(h:∀s',Inv X pins σ H s'→Q (.bool o.isSome) s'):
 wpAny (model X.prog X.w) A (compareOp .In u (.ref a)) Q E s:=by(
rcases g with⟨kvs,k,e,ey,l⟩|⟨kvs,k,b,e,ey,eb,l⟩
·subst ey;obtain⟨z,hd,vs,rel,dd⟩:=q8Q I.hok e;refine wpAny_in_of (q8P ry) hd dd.mapOf ?_;rw[←(rel.val k).isSome_eq,←l];exact h _ (I.tok _)
subst ey
cases(show u=Value.ref b from ry)
obtain⟨z,hd,xs,rel,dd⟩:=q8S I.hok e
refine wpAny_in_heap (sL hu) (q7J I.hok eb) hd dd ?_
have q:=(rel.val k).isSome_eq
rw[aH]at q
rw[←q,←l]
exact h _ (I.tok _))
theorem q7K{h':Heap}{t':Nat}{ob:HO}(I:Inv X pins σ H s)(mu:Mut (H a))(hs:Heap.SameBut a s.heap h')(he:∃q,h'.get? a=some q)(new:jA X.prog X.w (upd H a ob) h' a ob):
 Inv X pins σ (upd H a ob) { s with heap:=h',toks:=t' }:=I.write (x:=a) (e:=a) mu (.inl rfl) (λb q hb z=>(hs.2 b hb).trans z) he new
theorem qDG{P:Program}{w:World}{H':Hp}{h':Heap}{kvs:List (Key×V)}{vs:List (Key×Value)}(z:kvs.length≤sizeLine)(hd:(a==sysModules)=false)(rel:KV kvs vs)(dd:h'.DictOf (jW P w) a vs):
 jA P w H' h' a (.dK kvs):=⟨z,hd,vs,rel,dd⟩
theorem qC7{H':Hp}{Q:Unit→Shared→Prop}(hu:A.units+1<cLine)(I:Inv X pins σ H s)(g:DPut H a y v H')(ry:RelV y u)(rv:RelV v r)(h:∀s',Inv X pins σ H' s'→Q () s'):
 wpAny (model X.prog X.w) A (setItem (.ref a) u r) Q E s:=by(
rcases g with⟨kvs,k,e,ey,l,eH⟩|⟨kvs,k,b,e,ey,eb,l,eH⟩
·subst ey eH;obtain⟨z,hd,vs,rel,dd⟩:=q8R I.hok e;have hz:vs.length≤sizeLine:=by rw[←rel.length];exact z
 have hl:(putK kvs k v).length≤sizeLine:=by have:=q3W kvs k v;omega
 refine wpAny_setItem_pairs (hsz:=hz) (q8P ry) dd λh' dd' hs=>h _ ?_;have he:∃q,h'.get? a=some q:=let⟨q,_,_,hq,_⟩:=dd';⟨q,hq⟩
 exact q7K I (by rw[e];exact True.intro) hs he (qDG hl hd (rel.put k rv) dd')
subst ey eH
cases(show u=Value.ref b from ry)
obtain⟨z,hd,xs,rel,dd⟩:=qK4 I.hok e
have hz:xs.length≤sizeLine:=by rw[←xQ rel];exact z
have hl:(putK kvs k v).length≤sizeLine:=by have:=q3W kvs k v;omega
refine wpAny_setItem_heap (hsz:=hz) (sL hu) (q7J I.hok eb) dd λh' dd' hs=>h _ ?_
obtain⟨q,es,ep,hq,h2,h3,h4,_,h5⟩:=dd'
refine q7K I (by rw[e];exact True.intro) hs ⟨q,hq⟩ ⟨hl,hd,_,(rel.put k eb rv).keeps λc ys ec=>?_,q,es,ep,hq,h2,h3,h4,h5⟩
rw[qC (jP ec e (λz=>nomatch z))]
exact ec)
end
section
variable{X:Cx}{pins:List (Addr×Obj)}{σ:St}{H:Hp}{s:Shared}{a:Addr}{kvs:List (Key×V)}{k:Key}{u:Value}{A:Around}{E:Value→Shared→Prop}
theorem qK5{v:V}{more:List Value}{Q:Value→Shared→Prop}(I:Inv X pins σ H s)(e:H a=some (.dK kvs))(ry:RelV (kV k) u)(l:valV kvs k=some v)(hm:more=[]∨∃x,more=[x])
 (h:∀w' s',Inv X pins σ (upd H a (.dK (q51 kvs k))) s'→RelV v w'→Q w' s'):wpAny (model X.prog X.w) A (call (.builtin "dict.pop") (.ref a::u::more)) Q E s:=by(
obtain⟨z,hd,vs,rel,dd⟩:=q8R I.hok e
obtain⟨w',hw,rw'⟩:=RelO.some_of (v:=v) (o:=valueAt vs k) (by rw[←l];exact rel.val k)
have hp:(keyPart u).isSome=true:=by
 cases k with
 |inl i=>obtain⟨t,q⟩:=(show ∃t,u=Value.int i t from ry);subst q;rfl
 |inr x=>obtain⟨t,q⟩:=(show ∃t,u=Value.str x t from ry);subst q;rfl
have ha:argsOk "dict.pop" ⟨.ref a::u::more,[]⟩:=by
 rcases hm with q|⟨x,q⟩
 ·subst q;exact PySem.F.args_dict_pop_2 _ _
 subst q;exact PySem.F.args_dict_pop_3 _ _ _
refine call_meetsIn lP dd.typeIs PySem.F.entry_dict_pop ha (meets_dict_pop_there (jW X.prog X.w) a (q8P ry) more hm hp)
 ⟨vs,w',dd,by rw[←rel.length];exact z,hw,λh' dd' hs=>h w' _ ?_ rw'⟩
have he:∃q,h'.get? a=some q:=let⟨q,_,_,hq,_⟩:=dd';⟨q,hq⟩
exact q7K I (by rw[e];exact True.intro) hs he (qDG (mF (qDF kvs k) z) hd (rel.drop k) dd'))
end
noncomputable def NoSl(i:Expr):Prop:=∀ov iv,subscripted i false ov iv=operate [ov,iv] (getItem ov iv)
theorem qFH{prog:Program}{w:World}{A:Around}{E:Value→Shared→Prop}{s:Shared}{env:Env}{value slice:Expr}{pos:Pos}{T id:String}{Q:Value→Shared→Prop}
 (hl:typeLookup (.type T) "__getitem__"=pure (some (.builtin id))) (hs:NoSl slice)
 (h:wpAny (model prog w) A (eval value env) (λo s₁=>wpAny (model prog w) A (eval slice env) (λi s₂=>s₂.TypeIs o T∧wpAny (model prog w) A (getItem o i) Q E s₂) E s₁) E s):
 wpAny (model prog w) A (eval (.Subscript value slice pos) env) Q E s:=by(
refine Subscript_ (gY h (λo s₁ h₁=>gY h₁ (λi s₂ h₂=>?_) λ_ _ x=>x) λ_ _ x=>x)
obtain⟨hT,h₂⟩:=h₂
unfold subscriptTail
refine hG ?_
rw[getitemInPython_of_ne hT.not_modules]
refine hG (wpAny_specialOf hT hl ?_)
have fin:wpAny (model prog w) A (subscripted slice false o i) (λr s₃=>wpAny (model prog w) A (letTemporaryGo value o r >>= λ_=>pure r) Q E s₃) E s₂:=by rw[hs o i];exact wpAny_operating (gY h₂ (λr s₃ h₃=>hG (wpAny_letTemporaryGo (kL h₃))) λ_ _ x=>x)
first
 |exact kL (hG fin)
 |exact hG (kL (hG fin))
 |exact hG fin)
theorem q8T{X:Cx}{pins:List (Addr×Obj)}{σ:St}{H:Hp}{s:Shared}{a:Addr}{y:V}{o:Option V}(I:Inv X pins σ H s)(g:DGet H a y o):s.TypeIs (.ref a) "dict":=by(
rcases g with⟨kvs,k,e,_,_⟩|⟨kvs,k,b,e,_,_,_⟩
·obtain⟨_,_,vs,_,dd⟩:=q8Q I.hok e;exact dd.typeIs
obtain⟨_,_,xs,_,dd⟩:=q8S I.hok e
exact dd.typeIs)
noncomputable def qK6(td ty:TE):TE:=λσ H Q=>td σ H λx H1=>ty σ H1 λy H2=>∃a v,x=.ref a∧DGet H2 a y (some v)∧Q v H2
noncomputable def tDIn(ty td:TE):TE:=λσ H Q=>ty σ H λy H1=>td σ H1 λx H2=>∃a o,x=.ref a∧DGet H2 a y o∧Q (.bl o.isSome) H2
noncomputable def qK7(td ty tv:TE):TS:=λD σ H=>tv σ H λv H1=>td σ H1 λx H2=>ty σ H2 λy H3=>∃a H4,x=.ref a∧DPut H3 a y v H4∧D.nx σ H4
section
variable{X:Cx}{o i e value:Expr}{pos pos' tpos:Pos}{td ty tv:TE}
theorem qFI(hu:X.A.units+1<cLine)(ho:PE X o td)(hi:PE X i ty)(hs:NoSl i):PE X (.Subscript o i pos) (qK6 td ty):=by(
intro pins s σ H Q I h
refine qFH PySem.F.slot_dict_getitem.lookup hs (thn (ho pins s σ H _ I h) λu s1 ⟨x,H1,I1,rx,q1⟩=>thn (hi pins s1 σ H1 _ I1 q1) λiv s2 hZ=>?_)
obtain⟨y,H2,I2,ry,a,v,ex,g,q2⟩:=hZ
subst ex
obtain rfl:u=Value.ref a:=rx
exact⟨q8T I2 g,qC6 hu I2 g ry λw' s3 I3 rw'=>⟨v,H2,I3,rw',q2⟩⟩)
theorem qDH(hu:X.A.units+1<cLine)(hi:PE X i ty)(ho:PE X o td):PC X .In i o (tDIn ty td):=by(
intro pins s σ H Q I h
refine thn (hi pins s σ H _ I h) λiv s1 ⟨y,H1,I1,ry,q1⟩=>thn (ho pins s1 σ H1 _ I1 q1) λu s2 hZ=>?_
obtain⟨x,H2,I2,rx,a,ov,ex,g,q2⟩:=hZ
subst ex
obtain rfl:u=Value.ref a:=rx
exact d_in hu I2 g ry λs3 I3=>⟨.bl ov.isSome,H2,I3,rfl,q2⟩)
theorem qFJ(hu:X.A.units+1<cLine)(ho:PE X o td)(hi:PE X i ty)(hv:PE X value tv)(hs:swapsWith value (some (.Subscript o i pos')) pos.line X.env=pure false):
 PS X (.Assign [.Subscript o i pos'] value pos) (qK7 td ty tv):=by(
intro pins s σ H D I h
refine wpAny_Assign_Subscript (thn (hv pins s σ H _ I h) λr s1 ⟨v,H1,I1,rv,q1⟩=>thn (ho pins s1 σ H1 _ I1 q1) λu s2 ⟨x,H2,I2,rx,q2⟩=>thn (hi pins s2 σ H2 _ I2 q2) λiv s3 hZ=>?_) hs
obtain⟨y,H3,I3,ry,a,H4,ex,g,q3⟩:=hZ
subst ex
obtain rfl:u=Value.ref a:=rx
exact qC7 hu I3 g ry rv λs4 I4=>⟨σ,H4,I4,q3⟩)
end
theorem qDI{P:Program}{w:World}{H:Hp}(h:Heap)(hb:sysModules<h.objs.size):jA P w H (h.push { cls:=.type "dict",data:=.dict #[] }) h.objs.size (.dK []):=⟨mM _,rJ.mpr (wM (mK hb)),[],.nil,Heap.DictOf.new h⟩
noncomputable def qI0:TE:=λ_ H Q=>∀p,H p=none→Q (.ref p) (upd H p (.dK []))
section
variable{X:Cx}{pos:Pos}
theorem q8U:PE X (.Dict [] [] pos) qI0:=λpins s σ H Q I h=>wpAny_Dict_empty ⟨.ref s.heap.objs.size,_,I.laid (a:=s.heap.objs.size) (o:=.dK []) (t':=s.toks) (λ_ _ q=>hU _ q) (kN _) (qDI s.heap I.big),rfl,h _ (I.hok.fresh (kN _))⟩
end
structure M1(X:Cx)(o:Expr)(m:Str)(apos:Pos)(e:Expr)(cpos:Pos):Prop where
base:attributeBase o m X.env (eval o X.env)=eval o X.env
few:((backTo cpos (starEach [e] X.env)).all (λx=>!x.1)&&(backToKw cpos (keywordEach [] X.env)).all (λx=>x.1.isSome)
 &&decide (([e]:List Expr).length+([]:List Keyword).length+(if([]:List Keyword).isEmpty then 0 else 1)<30))=true
line:(apos.endLine==cpos.line)=true
trees:backTo cpos (starEach [e] X.env)=[(false,eval e X.env)]
noncomputable def IsD(H:Hp)(a:Addr):Prop:=(∃kvs,Rd H a (.dK kvs))∨∃kvs,Rd H a (.dT kvs)
theorem qI1{X:Cx}{pins:List (Addr×Obj)}{σ:St}{H:Hp}{s:Shared}{a:Addr}(I:Inv X pins σ H s)(d:IsD H a):
 s.TypeIs (.ref a) "dict"∧(∀b,Value.ref a=.ref b→∃ob,s.heap.get? b=some ob∧ob.dict=none)∧(a==sysModules)=false:=by(
rcases d with⟨kvs,e⟩|⟨kvs,e⟩
·obtain⟨_,hd,vs,_,dd⟩:=q8Q I.hok e;refine⟨dd.typeIs,λb q=>?_,hd⟩;cases q;obtain⟨ob,_,_,h1,h2,_⟩:=dd;exact⟨ob,h1,h2.2.1⟩
obtain⟨_,hd,xs,_,dd⟩:=q8S I.hok e
refine⟨dd.typeIs,λb q=>?_,hd⟩
cases q
obtain⟨ob,_,_,h1,h2,_⟩:=dd
exact⟨ob,h1,h2.2.1⟩)
noncomputable def qI2(td ty:TE):TE:=λσ H Q=>td σ H λx H1=>∃a,x=.ref a∧IsD H1 a∧ty σ H1 λy H2=>∃kvs k v,H2 a=some (.dK kvs)∧y=kV k∧valV kvs k=some v∧Q v (upd H2 a (.dK (q51 kvs k)))
section
variable{X:Cx}{o e f:Expr}{apos cpos:Pos}{td ty tx:TE}
theorem qDJ(ho:PE X o td)(he:PE X e ty)(m:M1 X o "pop" apos e cpos):PE X (.Call (.Attribute o "pop" apos) [e] [] cpos) (qI2 td ty):=by(
intro pins s σ H Q I h
refine wpAny_Call_method m.base m.few m.line nL lP PySem.F.type_dict_pop (thn (ho pins s σ H _ I h) λu s1 hZ=>?_)
obtain⟨x,H1,I1,rx,a,ex,d,q1⟩:=hZ
subst ex
obtain rfl:u=Value.ref a:=rx
obtain⟨t1,t2,_⟩:=qI1 I1 d
refine⟨t1,t2,?_⟩
rw[m.trees]
refine c9 rfl (xA (xV (thn (he pins s1 σ H1 _ I1 q1) λiv s2 ⟨y,H2,I2,ry,kvs,k,v,ea,ey,l,q2⟩=>aG ?_)))
subst ey
exact qK5 I2 ea ry l (.inl rfl) λw' s3 I3 rw'=>⟨v,_,I3,rw',q2⟩)
end
end L2
namespace Att
open PySem PySem.W PySem.Calls PyProof.Rows
theorem q42{P:Params}{h:Heap}:∀(ns:List Int) (vs:List Value),WellAll P h vs (ns.map WData.int)→IntsAre vs ns:=by(
intro ns
induction ns with
|nil=>intro vs w;rw[eL]at w;cases w;exact .nil
|cons n ns ih=>
 intro vs w;rw[mJ]at w;cases w with
 |cons a b=>cases a;exact .cons _ _ (ih _ b))
theorem qC8{l:OpenLaw}{n:Nat}(hn:l.most=some n){P:Params}{h:Heap}{args:List WData}{vals:List Value}
 (hpre:l.row.toRowW.claim.pre args=true) (hwl:WellAll P h vals args):
 ∃a vs ns,vals=[Value.ref a]∧args=[WData.list (ns.map WData.int)]∧h.get? a=some { cls:=.type "list",data:=.seq vs.toArray }∧IntsAre vs ns∧ns.length≤n:=by(
have hsh:WShape.hasAll [] args [.list .int]=true:=(pre_splitW hpre).1
have hc:l.pre.holds [] { args:=args } =true:=(pre_splitW hpre).2
obtain⟨d,r,rfl,h1,h2⟩:=hasAllW_cons hsh
obtain rfl:=hasAllW_nil h2
obtain⟨xs,rfl,h3⟩:=hasW_list h1
obtain⟨ns,rfl⟩:=items_int h3
have hlen:ns.length≤n:=by
 unfold OpenLaw.pre at hc;have h4:(WTm.not (.lt (.lit (.int (n:Int))) (.len (.arg 0)))).holds [] { args:=[.list (ns.map .int)] } =true:=by have h4:=(holds_andW hc).1;rw[hn]at h4;exact h4
 have h5:=condW_of h4 (w_not (w_lt w_lit (w_len_list (w_arg rfl))));rw[h9]at h5;refine Nat.le_of_not_lt λq=>?_;have q':(n:Int)<((ns.length:Nat):Int):=by omega
 first
  |(rw[hV q']at h5;exact absurd h5 (by decide))
  |(simp at h5;omega)
cases hwl with
|cons w1 w2=>
 cases w2;cases w1 with
 |list ho hall=>exact⟨_,_,ns,rfl,rfl,ho,q42 ns _ hall,hlen⟩)
theorem qC9(l:OpenLaw)(args:List WData):l.row.toRowW.claim.post args (.bool true) args=true:=postW_of (r:=l.row.toRowW) (X:=(true==true))
  (show WShape.has [] (.bool true) .bool=true by first|rfl|decide|simp[WShape.has,WShape.arms,WShape.armsAll])
  (show(WTm.eq .res (.lit (.bool true))).value [] { args:=args,res:=some (.bool true),after:=args } =some (.bool (true==true))from w_eq_bool (w_res rfl) w_lit) rfl
theorem attach_call{l:OpenLaw}{n:Nat}{q:Program}{loose:List Str}{XP:(Str→Option Value)→Heap→Prop}{YP:World→Heap→Prop}{d:DefRec}
 (hn:l.most=some n) (hdf:d.params.defaults=[])
 (call:∀(w:World) (s₀ s₁:Shared) (mg mb:Str→Option Value) (fa:Addr) (o:Obj) (pm cd doc:Value) (a:Addr) (vs:List Value) (ns:List Int),Ground q loose [] XP w s₀ mg mb s₁.heap→YP w s₁.heap→s₁.heap.get? fa=some o→o.data=.func (docDef d.name d.params d.body d.scope pm cd doc)→s₁.heap.CodeRec cd d.name→mg d.name=some (.ref fa)→s₁.heap.get? a=some { cls:=.type "list",data:=.seq vs.toArray }→IntsAre vs ns→ns.length≤n→s₁.gens=#[]→codeAny (model l.prog w) callerA (.call (.ref fa) ⟨[.ref a],[]⟩) (λr s'=>r=.ok (.ret (.bool true))∧OldK s₁.heap s'.heap∧s'.os=s₁.os∧AllBare s'.gens) s₁):
 WalkO q loose XP YP l.row.toRowW d [] (λf vs=>PySem.call f vs):=by(
intro w s₀ s₁ mg mb G Y fa o pm cd doc dV kV ho hd hcd hD hmg hg args vals as hpre hlay hrd hwl hlo
obtain rfl:dV=.none:=Dflts.none hD hdf
obtain rfl:kV=.none:=Dflts.noKw hD
obtain⟨a,vs,ns,rfl,rfl,hobj,hints,hlen⟩:=qC8 hn hpre hwl
refine enter_call (wO (call w s₀ s₁ mg mb fa o pm cd doc a vs ns G Y ho (fd_plain hd) hcd hmg hobj hints hlen hg) λr s' hq=>?_)
obtain⟨rfl,h2,h3,h4⟩:=hq
exact⟨.inl ⟨.bool true,.bool true,[],rfl,λ_=>rfl,.bool true,qC9 l _,λ_=>⟨List.Pairwise.nil,λ_ hm=>(nomatch hm)⟩⟩,h2,h3,h4⟩)
end Att
namespace L2
open PySem PySem.Spec PyProof.Rows
theorem q6Y:∀{vs:List Value} {ns:List Int},IntsAre vs ns→Vals (ns.map V.int) vs
|_,_,.nil=>.nil
|_,_,.cons n t h=>.cons ⟨t,rfl⟩ (q6Y h)
noncomputable def qL(s:Stmt)(j:Nat):Stmt:=match s with
| .ClassDef _ _ _ body _ _ _ _ _ _ _=>body.getD j (.Pass ⟨0,0,0,0⟩)
|_=>.Pass ⟨0,0,0,0⟩
noncomputable def jZ(s:Stmt):Arguments:=match s with
| .FunctionDef _ a _ _ _ _ _ _ _ _=>a
|_=>{ posonlyargs:=[],args:=[],vararg:=none,kwonlyargs:=[],kw_defaults:=[],kwarg:=none,defaults:=[] }
noncomputable def jL(s:Stmt):List Stmt:=match s with
| .FunctionDef _ _ b _ _ _ _ _ _ _=>b
|_=>[]
noncomputable def qE(s:Stmt):Scope:=match s with
| .FunctionDef _ _ _ _ _ _ sc _ _ _=>sc
|_=>{ kind:=.function,names:=[],isGenerator:=false,isCoroutine:=false }
noncomputable abbrev CX0:CXT:=λ_ _ _ _ _ _=>False
noncomputable abbrev E0:XK:=λ_ _ _=>False
theorem qK{X:Cx}:q05 CX0 X E0:=λ_ _ _ _ _ _ _ h=>h.elim
theorem q6Z{A:Around}{k:Nat}(hr:Room k A):A.units+1<cLine:=dW (Nat.add_le_add_left (by decide:1≤64) _) hr.units
section
variable{X:Cx}
theorem pv(i:Nat){x:Str}{pos:Pos}(hN:X.N[i]?=some x:=by rfl)(hv:Vis X.env.scope x:=by first|exact Or.inl rfl|exact Or.inr (Or.inl rfl)|exact Or.inr (Or.inr rfl))(hd:(x==("__debug__":Str))=false:=by decide)
 (hcd:(x==("__classdict__":Str))=false:=by decide):PE X (.Name x pos) (tVar i):=qHO hN hv hd hcd
end
theorem iteF{A B:Prop}(h:B):if false=true then A else B:=by rw[kF kO];exact h
theorem iteT{A B:Prop}(h:A):if true=true then A else B:=by rw[kI rfl];exact h
theorem ite2{c A B:Prop}[Decidable c](h1:c→A)(h2:¬c→B):if c then A else B:=by(
by_cases h:c
·rw[kI h];exact h1 h
rw[kF h]
exact h2 h)
noncomputable def Same(H H':Hp):Prop:=∀b o,H b=some o→H' b=some o
theorem Same.refl(H:Hp):Same H H:=λ_ _ h=>h
theorem Same.trans{H H1 H2:Hp}(a:Same H H1)(b:Same H1 H2):Same H H2:=λc o h=>b c o (a c o h)
theorem Same.free{H H':Hp}(e:Same H H'){l:Addr}(h:H' l=Option.none):H l=Option.none:=by(
cases q:H l with
|none=>rfl
|some o=>rw[e l o q]at h;cases h)
theorem Same.seq{K:PySem.W.Frag}{H H':Hp}{a:Addr}{xs:List V}(e:Same H H')(h:SqL K H a xs):SqL K H' a xs:=by(
rcases h with(h|⟨o,h⟩)|h
·exact .inl (.inl (e _ _ h))
·exact .inl (.inr ⟨o,e _ _ h⟩)
exact .inr h)
section
variable{X:Cx}
theorem q0V:PGet X (rIxL X.K):=by(
intro pins s σ H o i ov iv Q I ro ri h
obtain⟨p,xs,k,z,rfl,rfl,hq,he,q⟩:=h
cases ro
obtain⟨t,rfl⟩:=ri
obtain⟨its,r,pl,hz⟩:=I.list hq
obtain⟨j,h1,h2,h3,h4,h5⟩:=q7F he
obtain⟨w,ew,rw'⟩:=r.get h2
have hl:=r.length
have hn:=q4V
have fin:EP X pins σ Q w s:=⟨z,H,I,rw',q⟩
by_cases h0:0≤k
·have hj:k.toNat=j:=by rw[l9 h0 h5]at h1;exact kU h1
 exact wpAny_getItem_list pl.isList h0 (by lia) (by rw[hj];simpa using ew) fin
have hj:(k+(its.toArray.size:Int)).toNat=j:=by rw[lA (by lia) h4]at h1;rw[mB,←hl];exact kU h1
exact lC pl.isList (by lia) (by rw[mB]<;>lia) (by lia) (by rw[hj];simpa using ew) fin)
end
noncomputable def isW:V→Bool
| .int _=>true
|_=>false
noncomputable def isI:V→Bool
| .int _=>true
| .bl _=>true
|_=>false
noncomputable def isB:V→Bool
| .bl _=>true
|_=>false
noncomputable def isS:V→Bool
| .str _=>true
|_=>false
inductive Knd(H:Hp):V→Prop where
|non:Knd H .non
|bl (b:Bool):Knd H (.bl b)
|int (i:Int):Knd H (.int i)
|str (x:Str):Knd H (.str x)
|lst {a:Addr} {xs:List V} (e:H a=some (.lst xs)):Knd H (.ref a)
|tup {a:Addr} {xs:List V} (e:H a=some (.tup xs)):Knd H (.ref a)
section
variable{K:PySem.W.Frag}{H:Hp}{x:V}
theorem qI3:PySem.W.kitOne K (.type "NoneType") (.type "int")=some false:=by kernel_rfl
theorem qI4:PySem.W.kitOne K (.type "bool") (.type "int")=some true:=by kernel_rfl
theorem qI5:PySem.W.kitOne K (.type "int") (.type "int")=some true:=by kernel_rfl
theorem qI6:PySem.W.kitOne K (.type "str") (.type "int")=some false:=by kernel_rfl
theorem qI7:PySem.W.kitOne K (.type "list") (.type "int")=some false:=by kernel_rfl
theorem qI8:PySem.W.kitOne K (.type "tuple") (.type "int")=some false:=by kernel_rfl
theorem qI9:PySem.W.kitOne K (.type "NoneType") (.type "bool")=some false:=by kernel_rfl
theorem qIA:PySem.W.kitOne K (.type "bool") (.type "bool")=some true:=by kernel_rfl
theorem qIB:PySem.W.kitOne K (.type "int") (.type "bool")=some false:=by kernel_rfl
theorem qIC:PySem.W.kitOne K (.type "str") (.type "bool")=some false:=by kernel_rfl
theorem qID:PySem.W.kitOne K (.type "list") (.type "bool")=some false:=by kernel_rfl
theorem qIE:PySem.W.kitOne K (.type "tuple") (.type "bool")=some false:=by kernel_rfl
theorem qIF:PySem.W.kitOne K (.type "NoneType") (.type "str")=some false:=by kernel_rfl
theorem qIG:PySem.W.kitOne K (.type "bool") (.type "str")=some false:=by kernel_rfl
theorem qIH:PySem.W.kitOne K (.type "int") (.type "str")=some false:=by kernel_rfl
theorem qII:PySem.W.kitOne K (.type "str") (.type "str")=some true:=by kernel_rfl
theorem qIJ:PySem.W.kitOne K (.type "list") (.type "str")=some false:=by kernel_rfl
theorem qIK:PySem.W.kitOne K (.type "tuple") (.type "str")=some false:=by kernel_rfl
theorem qIL:PySem.W.kitOne K (.type "tuple") (.type "tuple")=some true:=by kernel_rfl
theorem qDK:PySem.W.kitOne K (.type "list") (.type "list")=some true:=by kernel_rfl
theorem Knd.ty(k:Knd H x):∃t,TyOf K H x t∧PySem.W.kitOne K t (.type "int")=some (isI x)∧PySem.W.kitOne K t (.type "bool")=some (isB x)∧PySem.W.kitOne K t (.type "str")=some (isS x):=by(
cases k with
|non=>exact⟨_,.non,qI3,qI9,qIF⟩
|bl b=>exact⟨_,.bl b,qI4,qIA,qIG⟩
|int i=>exact⟨_,.int i,qI5,qIB,qIH⟩
|str y=>exact⟨_,.str y,qI6,qIC,qII⟩
|lst e=>exact⟨_,.lst e,qI7,qID,qIJ⟩
|tup e=>exact⟨_,.tup e,qI8,qIE,qIK⟩)
theorem qDL(x:V):(if isI x=true then !isB x else false)=isW x:=by cases x<;>rfl
end
noncomputable def yD(ns:List Int)(k:Int):Int:=ns.getD k.toNat 0
theorem qCA{ns:List Int}{k:Int}(h0:0≤k)(h:k<ns.length):atI (ns.map V.int) k=some (.int (yD ns k)):=by(
obtain⟨j,rfl⟩:=rG h0
refine uR ?_
have hj:j<ns.length:=by lia
unfold yD
simp[hj])
theorem qA8{ns:List Int}{k:Int}(h0:0≤k)(h:¬k<ns.length):yD ns k=0:=by unfold yD;rw[kJ,rR (by lia)];rfl
theorem Same.upd{H:Hp}{p:Addr}{o:HO}(h:H p=none):Same H (upd H p o):=λb u e=>by rw[qC (qG e h)];exact e
noncomputable abbrev NewO(H:Hp)(o:HO)(Q:VK):Prop:=∀p H',H p=none→Same H H'→H' p=some o→Q (.ref p) H'
theorem NewO.at{H:Hp}{o:HO}{Q:VK}(q:NewO H o Q)(p:Addr)(n:H p=none):Q (.ref p) (upd H p o):=q p _ n (Same.upd n) qI
section
variable{X:Cx}{e:Expr}{es:List Expr}{t:TA}{pos:Pos}
noncomputable def qK8(t:TA):TE:=λσ H Q=>t σ H λxs H1=>xs.length≤sizeLine∧NewO H1 (.tup xs) Q
noncomputable def qK9(t:TA):TE:=λσ H Q=>t σ H λxs H1=>xs.length≤sizeLine∧NewO H1 (.lst xs) Q
theorem yX{x1}(h:PA X es t):PE X (.Tuple es x1 pos) (qK8 t):=by(
intro pins s σ H Q I hq
refine wpAny_Tuple_spliced (thn (h pos pins s σ H _ I hq) λus s1 ⟨xs,H1,I1,r,z,q⟩=>⟨by rw[←r.length];exact z,?_⟩)
have hf:H1 s1.heap.objs.size=none:=I1.hok.fresh (kN _)
refine⟨.ref s1.heap.objs.size,upd H1 s1.heap.objs.size (.tup xs),I1.laid (t':=s1.toks) (λb u e=>hU _ e) (kN _) ?_,rfl,q.at _ hf⟩
exact⟨z,us,r,⟨_,mD _ rfl,rfl,_,rfl⟩⟩)
theorem y6(h:PA X es t):PE X (.List es pos) (qK9 t):=by(
intro pins s σ H Q I hq
refine wpAny_List_spliced (thn (h pos pins s σ H _ I hq) λus s1 ⟨xs,H1,I1,r,z,q⟩=>⟨by rw[←r.length];exact z,?_⟩)
have hf:H1 s1.heap.objs.size=none:=I1.hok.fresh (kN _)
refine⟨.ref s1.heap.objs.size,upd H1 s1.heap.objs.size (.lst xs),I1.laid (t':=s1.toks) (λb u e=>hU _ e) (kN _) ?_,rfl,q.at _ hf⟩
exact⟨z,us,0,r,mD _ rfl⟩)
noncomputable def qKA:R2:=λx y H Q=>∃l k v,x=.ref l∧y=.int k∧H l=some (.lst [v])∧0≤k∧k≤100000∧NewO H (.lst (List.replicate k.toNat v)) Q
theorem q8V{α:Type}(v:α):∀k:Nat,(List.replicate k [v]).flatten=List.replicate k v
|0=>rfl
|k+1=>by rw[dP,cD,q8V v k,dP];rfl
theorem q06:OpR X (binaryOp .Mult) qKA:=by(
intro pins s σ H x y v u Q I rx ry hZ
obtain⟨l,k,z,e1,e2,h1,h2,h3,q⟩:=hZ
refine qHZ pins s σ H x y v u Q I rx ry ⟨l,k,[z],e1,e2,h1,by lia,by lia,?_,?_⟩
·rw[gJ,gF];lia
rw[q8V]
exact q.at)
theorem q2C:q0T X (.type "list") (λxs H Q=>∃p ys,xs=[.ref p]∧(SqL X.K H p ys∨SqT X.K H p ys)∧NewO H (.lst ys) Q):=by intro pins s σ H xs us Q I r hZ;obtain⟨p,ys,e,h,q⟩:=hZ;exact q7I pins s σ H xs us Q I r ⟨p,ys,e,h,q.at⟩
end
noncomputable def qB5:Sp:=λvs H Q _=>∃x,vs=[x]∧Knd H x∧Q (.bl (isW x)) H
noncomputable def inB(x:V)(lo hi:Int):Bool:=match x with
| .int i=>decide (lo≤i)&&decide (i≤hi)
|_=>false
noncomputable def qDM:Sp:=λvs H Q _=>∃x lo hi,vs=[x,.int lo,.int hi]∧Knd H x∧Q (.bl (inB x lo hi)) H
noncomputable def qIM(K:PySem.W.Frag):Sp:=λvs H Q _=>∃a ns k,vs=[.ref a,.int k]∧SqL K H a (ns.map V.int)∧0≤k∧Q (.int (yD ns k)) H
end L2
namespace L2
open PySem
theorem lt2{vs:Array Value}{v:Value}(h:vs[2]?=some v):1<vs.size:=aI (cK.mp h).1
noncomputable def ExO(h:Heap)(e:Addr)(C:Value)(od:Option Addr)(vs:Array Value):Prop:=∃oe,h.get? e=some oe∧oe.cls=C∧oe.dict=od∧oe.data=.fields vs∧vs[2]?=some .none
noncomputable def TrO(h:Heap)(e T:Addr)(vs:Array Value)(f:Value):Prop:=vs[1]?=some (.ref T)∧T≠e∧∃oT ts,h.get? T=some oT∧oT.data=.fields ts∧ts[3]?=some f
noncomputable def Air(L:Addr)(h:Heap)(e:Addr)(C:Value)(od:Option Addr):Option Addr→Prop
|none=>∃vs,ExO h e C od vs∧vs[1]?=some .none
|some T=>∃vs f,ExO h e C od vs∧TrO h e T vs f∧(f=.none∨f=rawInt L)
noncomputable def Held(f:Value)(h:Heap)(e T:Addr)(C:Value)(od:Option Addr):Prop:=∃vs,ExO h e C od vs∧TrO h e T vs f
structure Chg(fr rs:List Addr)(h h':Heap):Prop where
keep:∀b o,b∉fr→b∉rs→h.get? b=some o→h'.get? b=some o
slot:∀b o,b∉rs→h.get? b=some o→∃sl,h'.get? b=some { o with slots:=sl }
there:∀b o,h.get? b=some o→∃o',h'.get? b=some o'
theorem Chg.refl{fr rs:List Addr}{h:Heap}:Chg fr rs h h:=⟨λ_ _ _ _ e=>e,λ_ o _ e=>⟨o.slots,e⟩,λ_ o e=>⟨o,e⟩⟩
theorem Chg.trans{fr rs:List Addr}{h h1 h2:Heap}(x:Chg fr rs h h1)(y:Chg fr rs h1 h2):Chg fr rs h h2:=⟨λb o f r e=>y.keep b o f r (x.keep b o f r e),λb o r e=>let⟨_,e1⟩:=x.slot b o r e;let⟨sl,e2⟩:=y.slot b _ r e1;⟨sl,e2⟩,λb o e=>let⟨_,e1⟩:=x.there b o e;y.there b _ e1⟩
theorem Chg.fresh{fr rs rs':List Addr}{h h1 h2:Heap}(x:Chg fr rs h h1)(y:Chg fr rs' h1 h2)(n:∀b∈rs',b∈rs∨h.get? b=none):Chg fr rs h h2:=by
 have m:∀b o,b∉rs→h.get? b=some o→b∉rs':=λb o r e z=>(n b z).elim r λq=>by rw[q]at e;cases e
 exact⟨λb o f r e=>y.keep b o f (m b o r e) (x.keep b o f r e),λb o r e=>let⟨_,e1⟩:=x.slot b o r e;let⟨sl,e2⟩:=y.slot b _ (m b o r e) e1;⟨sl,e2⟩,λb o e=>let⟨_,e1⟩:=x.there b o e;y.there b _ e1⟩
theorem Chg.slots{fr rs:List Addr}{h h':Heap}(x:Heap.SlotsOnly fr h h'):Chg fr rs h h':=⟨λb o f _ e=>(x.2.1 b f).trans e,λb o _ e=>x.2.2 b o e,λb o e=>let⟨sl,q⟩:=x.2.2 b o e;⟨_,q⟩⟩
theorem Chg.upd{fr rs:List Addr}{h:Heap}{a:Addr}{f:Obj→Obj}(ha:a∈rs)(hf:∀o,h.get? a=some o→(f o).isFreed=false):Chg fr rs h (h.update a f):=by(
have k:∀b o,b∉rs→h.get? b=some o→(h.update a f).get? b=some o:=λb o r e=>by exact(kY h f (λ(q:a=b)=>r (q▸ha))).trans e
refine⟨λb o _ r e=>k b o r e,λb o r e=>⟨o.slots,k b o r e⟩,λb o e=>?_⟩
by_cases q:b=a
·subst q;exact⟨_,gN f e (hf o e)⟩
exact⟨o,by rw[kY h f (wM q)];exact e⟩)
theorem Chg.push{fr rs:List Addr}{h:Heap}{o:Obj}:Chg fr rs h (h.push o):=⟨λb u _ _ e=>hU _ e,λb u _ e=>⟨u.slots,hU _ e⟩,λb u e=>⟨u,hU _ e⟩⟩
theorem qCB(o:Obj)(f:Array Value→Array Value):(o.mapFields f).dict=o.dict:=by obtain⟨c,d,dt,sl⟩:=o;cases dt<;>rfl
theorem ExO.set{h:Heap}{e:Addr}{C:Value}{od:Option Addr}{vs:Array Value}(x:ExO h e C od vs)(i:Nat)(v:Value)(hi:i≠2:=by decide):ExO (h.update e (Obj.mapFields (·.setIfInBounds i v))) e C od (vs.setIfInBounds i v):=by obtain⟨oe,h1,h2,h3,h4,h5⟩:=x;have hd:=gT h4 (·.setIfInBounds i v);exact⟨_,gN _ h1 (dB hd),(sX _ _).trans h2,(qCB _ _).trans h3,hd,(Array.getElem?_setIfInBounds_ne hi).trans h5⟩
theorem ExO.of{h h':Heap}{e:Addr}{C:Value}{od:Option Addr}{vs:Array Value}(x:ExO h e C od vs)(k:∀o,h.get? e=some o→h'.get? e=some o):ExO h' e C od vs:=let⟨oe,h1,r⟩:=x;⟨oe,k _ h1,r⟩
section
variable{M:Model}{A:Around}{E:Value→Shared→Prop}{s:Shared}{env:Env}{outer:List Env}{L e T:Addr}{C:Value}{od:Option Addr}{base:Heap}
theorem ExO.nofr{h:Heap}{l:List Env}{vs:Array Value}(x:ExO h e C od vs)(hl:h.FunFrames base l):e∉l.filterMap (·.frame):=λhm=>by(
obtain⟨_,o,ho,hn⟩:=hl.mem hm
obtain⟨oe,h1,_,_,h4,_⟩:=x
rw[h1]at ho
cases ho
exact hn _ h4)
theorem q8W{head:Value}{hn:Bool}{vs:Array Value}{Q:Unit→Shared→Prop}(hfr:A.frames=some (env::outer))(hl:s.heap.FunFrames base (env::outer))(hf:env.frame=some L)(x:ExO s.heap e C od vs)
 (q:∀h' T,Chg ((env::outer).filterMap (·.frame)) [e] s.heap h'→Held (rawInt L) h' e T C od→s.heap.objs.size≤T→Q () { s with heap:=h' }):
 wpAny M A (do let a←frameOf env;let pl←entryPlaceOf L hn;let b←EntryCells.newEntry head a .none (rawInt L) .none pl;setField (.ref e) 1 b) Q E s:=by(
have ne:=x.nofr hl
refine hG (wpAny_frameOf_fun hfr hl hf λh1 so=>hG (wpAny_entryPlaceOf λpl hp=>?_))
unfold EntryCells.newEntry newFields
refine hG (cE ?_ (hp.sizeOk5 _ _ _ _ _))
have x1:ExO h1 e C od vs:=x.of λo z=>(so.2.1 e ne).trans z
have x2:=x1.of (h':=h1.push _) λo z=>hU { cls:=.type "traceback",dict:=none,data:=.fields ([head,.ref L,.none,rawInt L,.none]++(if pl.isEmpty then List.replicate 6 Value.none else pl)).toArray } z
obtain⟨oe,a1,a2,a3,a4,a5⟩:=id x2
refine cL a1 a4 (lt2 a5) ?_
have hlt:e<h1.objs.size:=let⟨_,z,_⟩:=x1;kP z
have fresh:s.heap.objs.size≤h1.objs.size:=c7 so.1.symm
refine q _ h1.objs.size (((Chg.slots so).trans Chg.push).trans (Chg.upd (kD.mpr rfl) λo z=>?_)) ⟨_,x2.set 1 _,?_,rM hlt,{ cls:=.type "traceback",dict:=none,data:=.fields ([head,.ref L,.none,rawInt L,.none]++(if pl.isEmpty then List.replicate 6 Value.none else pl)).toArray },_,?_,rfl,?_⟩ fresh
·rw[a1]at z;cases z;exact dB (gT a4 _)
·simp[lt2 a5]
·rw[kY _ _ (mK hlt)];exact mD h1 rfl
first|(simp;done)|(rcases hp with rfl|⟨_,_,_,_,_,_,_,rfl⟩<;>simp))
theorem qB6{tr:Option Addr}{Q:Unit→Shared→Prop}(hfr:A.frames=some (env::outer))(hl:s.heap.FunFrames base (env::outer))(hf:env.frame=some L)(x:Air L s.heap e C od tr)
 (q:∀h' T,Chg ((env::outer).filterMap (·.frame)) (e::tr.toList) s.heap h'→Held (rawInt L) h' e T C od→(T∈tr∨s.heap.objs.size≤T)→Q () { s with heap:=h' }):
 wpAny M A (noteFrame (.ref e) env) Q E s:=by(
unfold noteFrame
simp only[hf]
cases tr with
|none=>obtain⟨vs,x,h1⟩:=x;obtain⟨oe,a1,a2,a3,a4,a5⟩:=id x;refine hG (sY a1 a4 h1 ?_);rw[kF (by decide)];exact q8W hfr hl hf x λh' T c hd n=>q h' T c hd (.inr n)
|some T=>
 obtain⟨vs,f,x,⟨t1,t2,oT,ts,t3,t4,t5⟩,hfl⟩:=x;obtain⟨oe,a1,a2,a3,a4,a5⟩:=id x;refine hG (sY a1 a4 t1 ?_);rw[kI (by simp)];refine hG (sY t3 t4 t5 ?_);rcases hfl with rfl|rfl
 ·rw[kF (by simp[rawInt])];refine hG (cL t3 t4 (cK.mp t5).1 ?_);have k:∀b o,b≠T→s.heap.get? b=some o→(s.heap.update T (Obj.mapFields (·.setIfInBounds 3 Value.none))).get? b=some o:=λb o n z=>(kY _ _ (wM n)).trans z;have hl2:(s.heap.update T (Obj.mapFields (·.setIfInBounds 3 Value.none))).FunFrames base (env::outer):=hl.of_keeps λb o z nf=>⟨o,k b o (λw=>by subst w;rw[t3]at z;cases z;exact nf _ t4) z,rfl⟩;refine q8W (s:={ s with heap:=s.heap.update T (Obj.mapFields (·.setIfInBounds 3 Value.none)) }) hfr hl2 hf (x.of λo z=>k e o (wM t2) z) λh' T' c hd n=>q h' T' ?_ hd ?_
  ·refine(Chg.upd (a:=T) (by simp) λo z=>?_).fresh c λb hb=>.inl ?_
   ·rw[t3]at z;cases z;exact dB (gT t4 _)
   rw[kD.mp hb];exact kX
  exact .inr (mF (c7 (Heap.size_after_update ..).symm) n)
 rw[kI (by simp)];exact kL (q _ T .refl ⟨vs,x,t1,t2,oT,ts,t3,t4,t5⟩ (.inl rfl)))
theorem q1W{f:Value}{fr:Option Addr}{Q:Unit→Shared→Prop}(x:Held f s.heap e T C od)
 (q:∀h',Chg [] [T] s.heap h'→Held (fr.elim .none λf=>rawInt f) h' e T C od→Q () { s with heap:=h' }):wpAny M A (setFlight (.ref e) fr) Q E s:=by(
obtain⟨vs,x,t1,t2,oT,ts,t3,t4,t5⟩:=x
obtain⟨oe,a1,a2,a3,a4,a5⟩:=id x
have hz:=(cK.mp t5).1
unfold setFlight
refine hG (sY a1 a4 t1 ?_)
rw[kI (by simp)]
have hd:=gT t4 (·.setIfInBounds 3 (fr.elim .none λf=>rawInt f))
refine cL t3 t4 hz (q _ (Chg.upd (by simp) λo z=>?_) ⟨vs,x.of λo z=>?_,t1,t2,_,_,gN _ t3 (dB hd),hd,by simp[hz]⟩)
·rw[t3]at z;cases z;exact dB hd
exact(kY _ _ t2).trans z)
theorem Held.air{f:Value}{h:Heap}(x:Held f h e T C od)(hf:f=.none∨f=rawInt L):Air L h e C od (some T):=let⟨vs,a,b⟩:=x;⟨vs,f,a,b,hf⟩
theorem qDN{tr:Option Addr}{Q:Unit→Shared→Prop}(hfr:A.frames=some (env::outer))(hl:s.heap.FunFrames base (env::outer))(hf:env.frame=some L)(x:Air L s.heap e C od tr)
 (q:∀h' T,Chg ((env::outer).filterMap (·.frame)) (e::tr.toList) s.heap h'→Held .none h' e T C od→(T∈tr∨s.heap.objs.size≤T)→Q () { s with heap:=h' }):wpAny M A (leaving env (.ref e)) Q E s:=by(
unfold leaving
refine hG (qB6 hfr hl hf x λh' T c hd n=>q1W hd λh2 c2 hd2=>q h2 T ?_ hd2 n)
refine c.fresh (rs':=[T]) ⟨λb o _ r z=>c2.keep b o (by simp) r z,c2.slot,c2.there⟩ λb hb=>?_
rw[kD.mp hb]
exact n.imp (λz=>kC _ (by cases tr with|none=>cases z|some t=>cases z;exact kD.mpr rfl)) pR)
end
end L2
namespace L2
open PySem PySem.Spec PyProof.Rows
section
variable{P:Program}{w:World}{H:Hp}{h h':Heap}{a:Addr}{o:HO}
theorem jA.there(x:jA P w H h a o):∃ob,h.get? a=some ob:=by(
cases o with
|lst xs=>obtain⟨_,_,_,_,e⟩:=x;exact⟨_,e⟩
|tup xs=>obtain⟨_,_,_,_,e,_⟩:=x;exact⟨_,e⟩
|dK kvs=>obtain⟨_,_,_,_,o,_,_,e,_⟩:=x;exact⟨_,e⟩
|dT kvs=>obtain⟨_,_,_,_,o,_,_,e,_⟩:=x;exact⟨_,e⟩
|set S n=>obtain⟨o,_,_,_,e,_⟩:=x;exact⟨_,e⟩
|ins C dx fs=>obtain⟨_,_,_,e,_⟩:=x;exact⟨_,e⟩
|own y=>exact x
|xd fs=>obtain⟨_,⟨_,_,_,e,_⟩,_⟩:=x;exact⟨_,e⟩
|rng lo hi=>obtain⟨_,_,_,e⟩:=x;exact⟨_,e⟩
|frz ob u=>exact⟨_,x.1⟩
|tbl ps=>exact⟨_,show h.get? a=some _ from x⟩
|met f y=>exact⟨_,show h.get? a=some _ from x⟩
|ext φ=>exact x.2.1)
theorem HOk.free(x:HOk P w H h)(e:h.get? a=none):H a=none:=by(
cases q:H a with
|none=>rfl
|some o=>obtain⟨_,z⟩:=(x a o q).there;rw[e]at z;cases z)
theorem HOk.chg{fr rs:List Addr}(x:HOk P w H h)(c:Chg fr rs h h')(hf:∀b∈fr,H b=none)(hr:∀b∈rs,H b=none):HOk P w H h':=by(
intro a o e
refine(x a o e).stay (λb u hb z=>?_) (λ_ q=>q) λ_ _ q=>q
have n:H b≠none:=by
 rcases hb with rfl|q
 ·rw[e];intro y;cases y
 rw[q];intro y;cases y
exact c.keep b u (λm=>n (hf b m)) (λm=>n (hr b m)) z)
end
noncomputable def Recs(h:Heap)(rs:List Addr):Prop:=∀b∈rs,∃o vs,h.get? b=some o∧o.data=.fields vs
theorem Air.recs{L e:Addr}{h:Heap}{C:Value}{od tr:Option Addr}(x:Air L h e C od tr):Recs h (e::tr.toList):=by(
intro b hb
cases tr with
|none=>
 obtain⟨vs,⟨oe,a1,_,_,a4,_⟩,_⟩:=x;have e':b=e:=by simpa using hb
 subst e';exact⟨_,_,a1,a4⟩
|some T=>
 obtain⟨vs,f,⟨oe,a1,_,_,a4,_⟩,⟨_,_,oT,ts,t3,t4,_⟩,_⟩:=x;have e':b=e∨b=T:=by simpa using hb
 rcases e' with rfl|rfl
 ·exact⟨_,_,a1,a4⟩
 exact⟨_,_,t3,t4⟩)
noncomputable def Ours(X:Cx)(pins:List (Addr×Obj))(H:Hp)(rs:List Addr):Prop:=∀b∈rs,(X.s₀.heap.get? b=none∨b∈X.ex)∧H b=none∧∀p∈X.pn++pins,p.1≠b
section
variable{X:Cx}{pins:List (Addr×Obj)}{σ:St}{H:Hp}{s:Shared}{h':Heap}{rs:List Addr}
theorem Inv.chg{t':Nat}(I:Inv X pins σ H s)(c:Chg (frs X.stack) rs s.heap h')(o:Ours X pins H rs)(rc:Recs s.heap rs):Inv X pins σ H { s with heap:=h',toks:=t' }:=by(
obtain⟨m,hn,hv⟩:=I.loc
have nl:X.env.locals∉rs:=λz=>by obtain⟨ob,vs,e,d⟩:=rc _ z;obtain⟨o',es,ep,ho,hd,_⟩:=hn;rw[e]at ho;cases ho;rw[d]at hd;cases hd
have nc:∀c v,s.heap.IsCell c v→c∉rs:=λc v q z=>by obtain⟨ob,vs,e,d⟩:=rc _ z;obtain⟨o',ho,hd⟩:=q;rw[e]at ho;cases ho;rw[d]at hd;cases hd
have cellk:∀c v,s.heap.IsCell c v→h'.IsCell c v:=λa v q=>by have n:=nc a v q;obtain⟨o',ho,hd⟩:=q;obtain⟨sl,z⟩:=c.slot a o' n ho;exact⟨_,z,hd⟩
have old:∀b ob,X.s₀.heap.get? b=some ob→b∉X.ex→b∉rs:=λb ob q ne z=>by
 rcases(o b z).1 with y|y
 ·rw[q]at y;cases y
 exact ne y
have ns':h'.Ns X.env.locals m:=by obtain⟨o',es,ep,ho,r⟩:=hn;obtain⟨sl,z⟩:=c.slot _ o' nl ho;exact⟨_,es,ep,z,r⟩
refine⟨I.ok,I.os,I.bare,⟨λb ob q n nf ne=>?_,λb ob q n hf ne=>?_,I.base.free,λb ob q ne=>?_,I.base.tups,I.base.frzs,I.base.tbls⟩,⟨m,ns',λi x v e1 e2 e3=>?_⟩,λx a e=>?_,I.free,I.freeC,λp hp=>?_,I.hok.chg c I.stkFree λb hb=>(o b hb).2.1,I.len⟩
·refine c.keep b ob (λz=>?_) (old b ob q ne) (I.base.keep b ob q n nf ne);rcases kM.mp (I.stkSub b z)with rfl|y
 ·exact absurd (kP q) (lE.mpr I.ok.above)
 exact nf y
·obtain⟨sl,z⟩:=I.base.slot b ob q n hf ne;obtain⟨sl',z'⟩:=c.slot b _ (old b ob q ne) z;exact⟨sl',z'⟩
·obtain⟨o',z⟩:=I.base.there b ob q ne;exact c.there b o' z
·obtain⟨u,r,lk⟩:=hv i x v e1 e2 e3;refine⟨u,r,lk.imp id λ⟨k,cc,l,q⟩=>⟨k,cc,l,cellk _ _ q⟩⟩
·obtain⟨v,q⟩:=I.cell x a e;exact⟨v,cellk _ _ q⟩
obtain⟨p1,p2,p3,p4,p5⟩:=I.pin p hp
refine⟨c.keep _ _ (λz=>?_) (λz=>(o _ z).2.2 p hp rfl) p1,p2,p3,p4,p5⟩
rcases kM.mp (I.stkSub _ z)with y|y
·exact p3 y
exact p4 y)
end
noncomputable def CXe(P:Program)(w:World):CXT:=λouter H s E e s'=>∃ea T C od H',e=.ref ea∧s'.os=s.os∧AllBare s'.gens∧Un (frs outer) [] H H' s.heap s'.heap∧HOk P w H' s'.heap∧Held .none s'.heap ea T C od∧(s.heap.get? ea=none∧s.heap.get? T=none)∧(H' ea=none∧H' T=none)∧E C od H'
noncomputable def q2D(X:Cx)(ES:St→XK):Prop:=∀(pins:List (Addr×Obj)) (σ:St) (H:Hp) (s:Shared) (ea:Addr) (tr:Option Addr) (C:Value) (od:Option Addr),Inv X pins σ H s→Air X.env.locals s.heap ea C od tr→Ours X pins H (ea::tr.toList)→ES σ C od H→X.xe (.ref ea) s
noncomputable def qFK(CX:CXT)(X:Cx)(ES:St→XK):Prop:=∀(pins:List (Addr×Obj)) (σ:St) (H:Hp) (s:Shared) (e:Value) (s':Shared),Inv X pins σ H s→CX X.stack H s (ES σ) e s'→X.xe e s'
theorem q2D.passes{X:Cx}{ES:St→XK}(t:q2D X ES):qFK (CXe X.prog X.w) X ES:=by(
intro pins σ H s e s' I hZ
obtain⟨ea,T,C,od,H',e1,ho,hg,u,hok,hd,⟨f1,f2⟩,⟨g1,g2⟩,q⟩:=hZ
subst e1
refine t pins σ H' s' ea (some T) C od (I.call' ho u hok hg λb hb=>by cases hb) (hd.air (.inl rfl)) (λb hb=>?_) q
have key:∀b,s.heap.get? b=none→H' b=none→(X.s₀.heap.get? b=none∨b∈X.ex)∧H' b=none∧∀p∈X.pn++pins,p.1≠b:=λb f g=>by
 refine⟨?_,g,λp hp z=>?_⟩
 ·by_cases y:b∈X.ex
  ·exact .inr y
  refine .inl ?_;cases z:X.s₀.heap.get? b with
  |none=>rfl
  |some ob=>obtain⟨o',z'⟩:=I.base.there b ob z y;rw[f]at z';cases z'
 have y:=(I.pin p hp).1;rw[z,f]at y;cases y
have e':b=ea∨b=T:=by simpa using hb
rcases e' with rfl|rfl
·exact key _ f1 g1
exact key _ f2 g2)
theorem jC{P:Program}{w:World}{K:PySem.W.Frag}{mg:Str→Option Value}{base:Heap}{N:List Str}{qual:Str}{scope:Scope}{f:Addr}{cd:Value}{A:Around}{outer:List Env}{s:Shared}{H:Hp}{E:XK}:
 q2D (cxOf (CXe P w) P w K mg base N qual scope f cd A outer s H E) (λ_=>E):=by(
intro pins σ H' s' ea tr C od I air ours q
refine qDN (base:=base) I.ok.frames I.stack rfl air λh' T c hd n=>?_
have I2:=I.chg (t':=s'.toks) c ours air.recs
have out:∀b,s'.heap.objs.size≤b→s.heap.get? b=none:=λb z=>by
 cases y:s.heap.get? b with
 |none=>rfl
 |some ob=>obtain⟨o',y'⟩:=I.base.there b ob y (by intro m;cases m);exact absurd (kP y') (lE.mpr z)
have own:∀b,b∈ea::tr.toList→s.heap.get? b=none∧H' b=none:=λb hb=>⟨(ours b hb).1.elim id (λz=>by cases z),(ours b hb).2.1⟩
have hT:s.heap.get? T=none∧H' T=none:=by
 rcases n with z|z
 ·exact own T (kC _ (by cases tr with|none=>cases z|some t=>cases z;exact kD.mpr rfl))
 exact⟨out T z,I.hok.fresh z⟩
exact⟨ea,T,C,od,H',rfl,I.os,I.bare,I2.base,I2.hok,hd,⟨(own ea (kX)).1,hT.1⟩,⟨(own ea (kX)).2,hT.2⟩,q⟩)
noncomputable def qDO(C:Addr)(m:Str)(sp:Sp)(dvs:List V)(ES:St→XK)(ta:TE)(t:TA):TE:=λσ H Q=>ta σ H λx H1=>∃a dx fs,x=.ref a∧H1 a=some (.ins C dx fs)∧fs.lookup m=none∧t σ H1 λvs H2=>sp (x::(vs++dvs)) H2 Q (ES σ)
theorem q0W{X:Cx}:q2D X (λ_ _ _ _=>False):=λ_ _ _ _ _ _ _ _ _ _ _ h=>h.elim
section
variable{X:Cx}{k:Nat}{f C:Addr}{fd:FuncData}{ps:List Str}{sp:Sp}{dvs:List V}{ds:List Value}{E:XK}{ES:St→XK}{x m:Str}{p pos apos:Pos}{e o:Expr}{es:List Expr}{ta:TE}{t:TA}
theorem qB7{pins:List (Addr×Obj)}{σ:St}{H:Hp}{s:Shared}{Q:VK}{us:List Value}{vs:List V}(F:FnOk X.prog X.w X.K X.mg X.base (CXe X.prog X.w) k f fd ps sp)(hr:Room k X.A)(hb:jO X.K fd ps ds)(hd:Vals dvs ds)(tk:q2D X ES)
 (I:Inv X pins σ H s) (r:Vals vs us) (h:sp (vs++dvs) H Q (ES σ)):wpAny (model X.prog X.w) X.A (call (.ref f) us) (EP X pins σ Q) X.xe s:=by(
have r2:Vals (vs++dvs) (us++ds):=r.append hd
have hl:(us++ds).length=ps.length:=by rw[←r2.length];exact F.len _ _ _ _ h
refine cJ (wO (F.run X.A X.stack s H ⟨us,[]⟩ (us++ds) (vs++dvs) Q (ES σ) hr I.env0 (hb s us I.kIn hl) r2 h) λr s' hq=>?_)
cases r with
|error e=>exact tk.passes pins σ H s e s' I hq
|ok fl=>
 cases fl with
 |ret u=>exact I.after hq
 |next=>exact False.elim hq
 |brk=>exact False.elim hq
 |cont=>exact False.elim hq)
theorem y7{pl:Sem Bool}(tk:q2D X ES)(he:PE X o ta)(c:Cls X.K C)(hm:Meth X.K C m f)(F:FnOk X.prog X.w X.K X.mg X.base (CXe X.prog X.w) k f fd ps sp)(hr:Room k X.A)(hb:jO X.K fd ps ds)(hd:Vals dvs ds)(ha:PA X (e::es) t)
 (hst:starEach (e::es) X.env=(false,eval e X.env)::starEach es X.env:=by rfl) (hpl:(backTo pos (starEach es X.env)).any (·.1)=false:=by rfl)
 (ht:eval (.Call (.Attribute o m apos) (e::es) [] pos) X.env=(do
  let ov←eval o X.env
  standAt apos.atName
  let(f,first)←holding [ov] (getMethod ov m pl)
  callWith pos f first (backTo pos (starEach (e::es) X.env)) (backToKw pos (keywordEach [] X.env))):=by rfl):
 PE X (.Call (.Attribute o m apos) (e::es) [] pos) (qDO C m sp dvs ES ta t):=by(
intro pins s σ H Q I h
refine rQ (pl:=pl) (thn (he pins s σ H _ I h) λu s1 hZ=>?_) ht
obtain⟨x,H1,I1,rx,a,dx,fs,ex,ea,l,q⟩:=hZ
subst ex
obtain rfl:u=Value.ref a:=rx
refine q04 I1 ea c hm l ?_
refine wP (first:=[.ref a]) (h₀:=X.base) I.ok.mod.kin hm.kp (thn (ha pos pins s1 σ H1 _ I1 q) λus s2 ⟨vs,H2,I2,r,q2⟩=>⟨I2.kIn,?_⟩) hst hpl
exact qB7 (us:=.ref a::us) (vs:=.ref a::vs) F hr hb hd tk I2 (.cons rfl r) q2)
theorem uA{pl:Sem Bool}(tk:q2D X ES)(he:PE X o ta)(c:Cls X.K C)(hm:Meth X.K C m f)(F:FnOk X.prog X.w X.K X.mg X.base (CXe X.prog X.w) k f fd ps sp)(hr:Room k X.A)(hb:jO X.K fd ps ds)(hd:Vals dvs ds)
 (ht:eval (.Call (.Attribute o m apos) [] [] pos) X.env=(do
  let ov←eval o X.env
  standAt apos.atName
  let(f,first)←holding [ov] (getMethod ov m pl)
  callWith pos f first (backTo pos (starEach [] X.env)) (backToKw pos (keywordEach [] X.env))):=by rfl):
 PE X (.Call (.Attribute o m apos) [] [] pos) (qDO C m sp dvs ES ta tNil):=by(
intro pins s σ H Q I h
refine rQ (pl:=pl) (thn (he pins s σ H _ I h) λu s1 hZ=>?_) ht
obtain⟨x,H1,I1,rx,a,dx,fs,ex,ea,l,q⟩:=hZ
subst ex
obtain rfl:u=Value.ref a:=rx
refine q04 I1 ea c hm l ?_
exact p7 (first:=[.ref a]) I1.kIn hm.kp (qB7 (us:=[.ref a]) (vs:=[.ref a]) F hr hb hd tk I1 (.cons rfl .nil) q))
end
structure FunD(K:PySem.W.Frag)(x qual:Str)(st:Stmt)(dV:Value)(f:Addr)(fd:FuncData):Prop where
ex:∃(oc:Value) (od:Option Addr) (kV doc pm:Value) (an:Option Addr) (cdv ct:Value) (osl:Array (Option Value)),fd=PySem.W.fnOf x qual (jZ st) (jL st) (qE st) dV kV doc pm an cdv ct∧K.lookup f=some ⟨oc,od,.func fd,osl⟩∧PySem.W.codeIn K cdv qual=true
section
variable{P:Program}{w:World}{K:PySem.W.Frag}{mg:Str→Option Value}{base:Heap}{dV:Value}
theorem FunD.mk'{x qual:Str}{st:Stmt}{f:Addr}{oc:Value}{od an:Option Addr}{osl:Array (Option Value)}{kV doc pm cdv ct:Value}(l:K.lookup f=some ⟨oc,od,.func (PySem.W.fnOf x qual (jZ st) (jL st) (qE st) dV kV doc pm an cdv ct),osl⟩)
 (c:PySem.W.codeIn K cdv qual=true):FunD K x qual st dV f (PySem.W.fnOf x qual (jZ st) (jL st) (qE st) dV kV doc pm an cdv ct):=⟨⟨oc,od,kV,doc,pm,an,cdv,ct,osl,rfl,l,c⟩⟩
theorem FunD.okE{x qual:Str}{st:Stmt}{f:Addr}{fd:FuncData}{N ps:List Str}{k:Nat}{sp:Sp}(F:FunD K x qual st dV f fd)(S:FnScope N ps (qE st))(len:∀vs H Q E,sp vs H Q E→vs.length=ps.length)
 (hbody:∀(cdv:Value) (A:Around) (outer:List Env) (s:Shared) (H:Hp) (vs:List V) (Q:VK) (E:XK),Room k (A.deeper (envOfC qual (qE st) s.heap.objs.size f cdv))→sp vs H Q E→∃t,PSs (cxOf (CXe P w) P w K mg base N qual (qE st) f cdv A outer s H E) (jL st) t∧t { nx:=λ_ H'=>Q .non H',rt:=Q } (vU N vs) H):FnOk P w K mg base (CXe P w) (k+1) f fd ps sp:=by obtain⟨oc,od,kV,doc,pm,an,cdv,ct,osl,rfl,lk,hcd⟩:=F.ex;exact qB3 lk hcd S len λA outer s H vs Q E hr hsp=>hbody cdv A outer s H vs Q E hr hsp
theorem FunD.ok0{x qual:Str}{st:Stmt}{f:Addr}{fd:FuncData}{N ps:List Str}{k:Nat}{sp:Sp}(F:FunD K x qual st dV f fd)(S:FnScope N ps (qE st))
 (hbody:∀(cdv:Value) (A:Around) (outer:List Env) (s:Shared) (H:Hp) (vs:List V) (Q:VK) (E:XK),Room k (A.deeper (envOfC qual (qE st) s.heap.objs.size f cdv))→sp vs H Q E→∃t,PSs (cxOf CX0 P w K mg base N qual (qE st) f cdv A outer s H E).nox (jL st) t∧t { nx:=λ_ H'=>Q .non H',rt:=Q } (vU N vs) H)(len:∀vs H Q E,sp vs H Q E→vs.length=ps.length:=by intro _ _ _ _ h;first|(cases h;subst_vars;rfl)|((repeat obtain⟨_,h⟩:=h);all_goals subst_vars;rfl)):FnOk P w K mg base CX0 (k+1) f fd ps sp:=by(
obtain⟨oc,od,kV,doc,pm,an,cdv,ct,osl,rfl,lk,hcd⟩:=F.ex
refine qB3 lk hcd S len λA outer s H vs Q E hr hsp=>?_
obtain⟨t,h,q⟩:=hbody cdv A outer s H vs Q E hr hsp
exact⟨t,h.nox,q⟩)
end
noncomputable abbrev bmVE:List Value:=[.type "ValueError",.type "Exception",.type "BaseException",.type "object"]
noncomputable abbrev XCls(K:PySem.W.Frag)(C:Addr):Prop:=PySem.W.excIn K C bmVE "ValueError.__new__"=true
theorem qFL{K:PySem.W.Frag}{C:Addr}(q:XCls K C):∃bm N nm qn bs hd sn sub ab col dd k0 k1 k2 k3 k5,K.lookup C=some (excClassObj nm qn C N bs bm hd sn sub ab col dd k0 k1 k2 k3 k5 "ValueError.__new__")∧PySem.W.tailIn K bmVE bm=true∧PySem.W.nsOkIn K N=true∧PySem.W.nsIn K N "__init__"=some none:=by(
unfold XCls PySem.W.excIn at q
split at q
·rename_i dd cd sl ho;split at q
 ·rename_i C' bm k0 k1 k2 k3 n k5 hm hs;obtain⟨nm,bs,mro,ns,qn,hd,sn,sub,ab,col,del⟩:=cd;obtain⟨l⟩:=sl;simp only[mR,wA,r9]at q hm hs;obtain⟨⟨⟨⟨⟨e1,e2⟩,e3⟩,e4⟩,e5⟩,e6⟩:=q;subst e1 e2 e3 hm hs;exact⟨bm,ns,nm,qn,bs,hd,sn,sub,ab,col,dd,k0,k1,k2,k3,k5,ho,e4,e5,e6⟩
 cases q
cases q)
noncomputable def qIN(ES:St→XK)(C:Addr)(t:TA):TS:=λ_ σ H=>t σ H λvs H1=>vs.length≤sizeLine∧ES σ (.ref C) none H1
section
variable{X:Cx}{ES:St→XK}{C:Addr}{x:Str}{np cpos pos:Pos}{e:Expr}{es:List Expr}{t:TA}
theorem qDP{pins:List (Addr×Obj)}{σ:St}{H:Hp}{s:Shared}{h':Heap}{ea:Addr}{C:Value}{vs:List Value}(I:Inv X pins σ H s)(m:Heap.MadeExcOf s.heap h' ea C vs):
 Air X.env.locals h' ea C none none∧Ours X pins H [ea]:=by(
obtain⟨t,m1,m2,m3⟩:=m.there
refine⟨⟨_,⟨_,m1,rfl,rfl,rfl,by simp⟩,rfl⟩,λb hb=>?_⟩
rw[kD.mp hb]
refine⟨?_,I.hok.free m.new,λp hp z=>?_⟩
·by_cases y:ea∈X.ex
 ·exact .inr y
 refine .inl ?_;cases z:X.s₀.heap.get? ea with
 |none=>rfl
 |some ob=>obtain⟨o',z'⟩:=I.base.there ea ob z y;rw[m.new]at z';cases z'
have y:=(I.pin p hp).1
rw[z,m.new]at y
cases y)
theorem q8X(tk:q2D X ES)(hc:X.calm=true)(hg:Gl X x)(hm:X.mg x=some (.ref C))(hx:XCls X.K C)(ha:PA X (e::es) t)(hdb:(x==("__debug__":Str))=false:=by decide)
 (he:starEach (e::es) X.env=(false,eval e X.env)::starEach es X.env:=by rfl) (hpl:(backTo cpos (starEach es X.env)).any (·.1)=false:=by rfl):
 PS X (.Raise (some (.Call (.Name x np) (e::es) [] cpos)) none pos) (qIN ES C t):=by(
intro pins s σ H D I hq
obtain⟨bm,N,nm,qn,bs,hd,sn,sub,ab,col,dd,k0,k1,k2,k3,k5,lk,tl,ok,ni⟩:=qFL hx
have kb:=I.mod.kin
have T0:=PySem.W.tail_of_in kb tl
have hN:X.base.Ns N (X.base.nsMap N):=.of_isNs (PySem.W.isNs_of_in kb ok)
have hni:=PySem.W.nsMap_none_of_in kb ok ni
have hplain:(backTo cpos (starEach (e::es) X.env)).any (·.1)=false:=by rw[he];show(false||(backTo cpos (starEach es X.env)).any (·.1))=false;rw[hpl];rfl
refine wpAny_Raise_call_subT (C:=C) (nm:=nm) (q:=qn) (N:=N) (bs:=bs) (bm:=bm) (hdct:=hd) (sn:=sn) (sub:=sub) (ab:=ab) (col:=col) (dd:=dd) (k0:=k0) (k1:=k1) (k2:=k2) (k3:=k3) (k5:=k5) (mN:=X.base.nsMap N)
 PySem.F.excBase_ValueError (T0.hasType (by decide)) (I.ok.hd hc) hplain hni (q1T I hg hm ⟨rfl,?_⟩ hdb)
have h0:=ha cpos pins s σ H _ I hq
rw[he]at h0 ⊢
refine PySem.Calls.evalArgs_plain (gY h0 (λus s1 h1=>?_) λ_ _ y=>y)
obtain⟨vs,H1,I1,r,hz,hE⟩:=h1
refine⟨rfl,by rw[←r.length];exact hz,I1.bk _ _ (kb _ _ lk),?_,T0.keeps I1.bk,λh' ea m=>?_⟩
·obtain⟨o',es',ep',z,rr⟩:=hN;exact⟨o',es',ep',I1.bk _ _ z,rr⟩
obtain⟨air,ours⟩:=qDP I1 m
refine tk pins σ H1 { s1 with heap:=h' } ea none (.ref C) none (I1.kept (t':=s1.toks) m.keeps) air ours hE)
end
noncomputable abbrev Cx.tr(X:Cx)(pins:List (Addr×Obj))(XE:Value→Shared→Prop):Cx:={ X with pn:=X.pn++pins,xe:=XE }
noncomputable abbrev Cx.sui(X:Cx)(e:Addr):Cx:={ X with A:=X.A.mark (some (.ref e)),calm:=false,xe:=λ_ _=>False }
theorem Chg.mono{fr fr' rs rs':List Addr}{h h':Heap}(c:Chg fr rs h h')(f:∀b∈fr,b∈fr')(r:∀b∈rs,b∈rs'):Chg fr' rs' h h':=⟨λb o a z e=>c.keep b o (λy=>a (f b y)) (λy=>z (r b y)) e,λb o z e=>c.slot b o (λy=>z (r b y)) e,c.there⟩
theorem Held.recs{f:Value}{e T:Addr}{h:Heap}{C:Value}{od:Option Addr}(x:Held f h e T C od):Recs h [e,T]:=by(
obtain⟨vs,⟨oe,a1,_,_,a4,_⟩,_,_,oT,ts,t3,t4,_⟩:=x
intro b hb
have e':b=e∨b=T:=by simpa using hb
rcases e' with rfl|rfl
·exact⟨_,_,a1,a4⟩
exact⟨_,_,t3,t4⟩)
section
variable{X:Cx}{pins:List (Addr×Obj)}{σ:St}{H:Hp}{s:Shared}{XE:Value→Shared→Prop}
theorem Inv.tr(I:Inv X pins σ H s)(XE:Value→Shared→Prop):Inv (X.tr pins XE) [] σ H s:=have ok:=I.ok
 ⟨⟨ok.mod,ok.kind,ok.glob,ok.blt,ok.above,ok.inj,ok.has,ok.cab,ok.hd,ok.frames,ok.stk,ok.exf,ok.bs,ok.bsz,ok.noex,ok.exfs,ok.funs,ok.frf⟩,I.os,I.bare,I.base,I.loc,I.cell,I.free,I.freeC,λp hp=>I.pin p (by simpa using hp),I.hok,I.len⟩
theorem Inv.untr{ps:List (Addr×Obj)}(I:Inv (X.tr pins XE) ps σ H s):Inv X pins σ H s:=have ok:=I.ok
 ⟨⟨ok.mod,ok.kind,ok.glob,ok.blt,ok.above,ok.inj,ok.has,ok.cab,ok.hd,ok.frames,ok.stk,ok.exf,ok.bs,ok.bsz,ok.noex,ok.exfs,ok.funs,ok.frf⟩,I.os,I.bare,I.base,I.loc,I.cell,I.free,I.freeC,λp hp=>I.pin p (gK _ hp),I.hok,I.len⟩
theorem Inv.sui(I:Inv X pins σ H s)(e:Addr):Inv (X.sui e) pins σ H s:=have ok:=I.ok
 ⟨⟨ok.mod,ok.kind,ok.glob,ok.blt,ok.above,ok.inj,ok.has,ok.cab,(λz=>by cases z),ok.frames,ok.stk,ok.exf,ok.bs,ok.bsz,ok.noex,ok.exfs,ok.funs,ok.frf⟩,I.os,I.bare,I.base,I.loc,I.cell,I.free,I.freeC,I.pin,I.hok,I.len⟩
theorem Inv.unsui{e:Addr}(hc:X.calm=true→X.A.handled=none)(I:Inv (X.sui e) pins σ H s):Inv X pins σ H s:=have ok:=I.ok
 ⟨⟨ok.mod,ok.kind,ok.glob,ok.blt,ok.above,ok.inj,ok.has,ok.cab,hc,ok.frames,ok.stk,ok.exf,ok.bs,ok.bsz,ok.noex,ok.exfs,ok.funs,ok.frf⟩,I.os,I.bare,I.base,I.loc,I.cell,I.free,I.freeC,I.pin,I.hok,I.len⟩
theorem SP.untr{D:Ends}{f:Flow}{s':Shared}(h:SP (X.tr pins XE) [] D f s'):SP X pins D f s':=by(
cases f with
|next=>obtain⟨σ',H',I,q⟩:=h;exact⟨σ',H',I.untr,q⟩
|brk=>obtain⟨σ',H',I,q⟩:=h;exact⟨σ',H',I.untr,q⟩
|cont=>obtain⟨σ',H',I,q⟩:=h;exact⟨σ',H',I.untr,q⟩
|ret u=>obtain⟨v,σ',H',I,r,q⟩:=h;exact⟨v,σ',H',I.untr,r,q⟩)
theorem SP.unsui{e:Addr}{D:Ends}{f:Flow}{s':Shared}(hc:X.calm=true→X.A.handled=none)(h:SP (X.sui e) pins D f s'):SP X pins D f s':=by(
cases f with
|next=>obtain⟨σ',H',I,q⟩:=h;exact⟨σ',H',I.unsui hc,q⟩
|brk=>obtain⟨σ',H',I,q⟩:=h;exact⟨σ',H',I.unsui hc,q⟩
|cont=>obtain⟨σ',H',I,q⟩:=h;exact⟨σ',H',I.unsui hc,q⟩
|ret u=>obtain⟨v,σ',H',I,r,q⟩:=h;exact⟨v,σ',H',I.unsui hc,r,q⟩)
end
noncomputable def qKB(ea:Addr)(C:Value)(od:Option Addr):Heap→Prop:=λh=>∃o vs,h.get? ea=some o∧o.cls=C∧o.dict=od∧o.data=.fields vs
noncomputable abbrev XO(ea:Addr)(C:Value)(od:Option Addr):HO:=.ext (qKB ea C od)
noncomputable abbrev TH:=Ends→St→Hp→Addr→Value→Option Addr→Prop
noncomputable def PHs(X:Cx)(hs:List ExceptHandler)(t:TH):Prop:=∀(pins:List (Addr×Obj)) (s:Shared) (σ:St) (H:Hp) (D:Ends) (ea T:Addr) (C:Value) (od:Option Addr),Inv X pins σ H s→Held .none s.heap ea T C od→Ours X pins H [ea,T]→t D σ H ea C od→wpAny (model X.prog X.w) X.A (handleBy (.ref ea) X.env hs) (SP X pins D) X.xe s
section
variable{X:Cx}{ES:St→XK}
theorem qIO(tk:q2D X ES)(hf:X.env.frame=some X.env.locals:=by rfl):PHs X [] (λ_ σ H _ C od=>ES σ C od H):=by(
intro pins s σ H D ea T C od I hd ours q
refine wpAny_handleBy_nil ?_
unfold PySem.passOn
have rc:=hd.recs
obtain⟨vs,x,t1,t2,oT,ts,t3,t4,t5⟩:=id hd
obtain⟨oe,a1,a2,a3,a4,a5⟩:=id x
refine hG (sY a1 a4 t1 ?_)
rw[kF (by simp)]
refine hG (q1W hd λh' c hd2=>wpAny_throw ?_)
rw[hf]at hd2
exact tk pins σ H { s with heap:=h' } ea (some T) C od (I.chg (t':=s.toks) (rs:=[ea,T]) (c.mono (by simp) (by simp)) ours rc) (hd2.air (.inr rfl)) ours q)
theorem Inv.pinX{pins:List (Addr×Obj)}{σ:St}{H:Hp}{s:Shared}{ea T:Addr}{C:Value}{od:Option Addr}{f:Value}(I:Inv X pins σ H s)(hd:Held f s.heap ea T C od)(ours:Ours X pins H [ea,T]):
 ∃oe oT,Inv X (pins++[(ea,oe),(T,oT)]) σ H s∧∀h':Heap,h'.get? ea=some oe→h'.get? T=some oT→Held f h' ea T C od:=by(
have rc:=hd.recs
obtain⟨vs,⟨oe,a1,a2,a3,a4,a5⟩,t1,t2,oT,ts,t3,t4,t5⟩:=hd
refine⟨oe,oT,I.pins_of λp hp=>?_,λh' z1 z2=>⟨vs,⟨oe,z1,a2,a3,a4,a5⟩,t1,t2,oT,ts,z2,t4,t5⟩⟩
have nl:∀b o ws,s.heap.get? b=some o→o.data=.fields ws→b≠X.env.locals∧b∉X.fs:=λb o ws e d=>by
 refine⟨λz=>?_,λz=>?_⟩
 ·obtain⟨m,⟨o',es,ep,ho,hd',_⟩,_⟩:=I.loc;rw[←z,e]at ho;cases ho;rw[d]at hd';cases hd'
 obtain⟨_,o',ho,hn⟩:=I.funs.mem z;rw[e]at ho;cases ho;exact hn _ d
rcases gH.mp hp with z|z
·exact I.pin p (kQ _ z)
have z:p=(ea,oe)∨p=(T,oT):=by simpa using z
rcases z with rfl|rfl
·exact⟨a1,(ours ea (by simp)).2.1,(nl _ _ _ a1 a4).1,(nl _ _ _ a1 a4).2,λv q=>by rw[a4]at q;cases q⟩
exact⟨t3,(ours T (by simp)).2.1,(nl _ _ _ t3 t4).1,(nl _ _ _ t3 t4).2,λv q=>by rw[t4]at q;cases q⟩)
theorem q8Y{ty:Expr}{c:V}{cv:Value}{pins:List (Addr×Obj)}{s:Shared}{σ:St}{H:Hp}{ea T:Addr}{C:Value}{od:Option Addr}{b:Bool}{R:Result→Shared→Prop}{pos:Pos}(hc:PE (X.sui ea) ty (tC c))(rc:RelV c cv)
 (I:Inv X pins σ H s) (hh:X.calm=true→X.A.handled=none) (hd:Held .none s.heap ea T C od) (ours:Ours X pins H [ea,T]) (hx:PySem.W.exmOne X.K C cv=some b) (q:∀s',Inv X pins σ H s'→Held .none s'.heap ea T C od→R (.ok (if b then .brk else .next)) s'):
 codeAny (model X.prog X.w) (X.A.mark (some (.ref ea))) (.handlers (.ref ea) [.ExceptHandler (some ty) none [] pos] X.env) R s:=by(
obtain⟨oe,oT,I1,back⟩:=I.pinX hd ours
refine codeAny_handlers_test (gY (hc _ s σ H (λv H'=>v=c∧H'=H) (I1.sui ea) ⟨rfl,rfl⟩) (λu s1 h1=>?_) λ_ _ z=>z.elim)
obtain⟨v,H',I2,r,e1,e2⟩:=h1
subst e1 e2
have e3:u=cv:=by
 cases v with
 |non=>exact r.trans rc.symm
 |bl b=>exact r.trans rc.symm
 |ref a=>exact r.trans rc.symm
 |ty n=>exact r.trans rc.symm
 |int i=>obtain⟨t,e⟩:=r;obtain⟨t',e'⟩:=rc;subst e';unfold PySem.W.exmOne at hx;split at hx<;>cases hx
 |str i=>obtain⟨t,e⟩:=r;obtain⟨t',e'⟩:=rc;subst e';unfold PySem.W.exmOne at hx;split at hx<;>cases hx
 |byt i=>obtain⟨t,e⟩:=r;obtain⟨t',e'⟩:=rc;subst e';unfold PySem.W.exmOne at hx;split at hx<;>cases hx
 |flt i=>obtain⟨t,e⟩:=r;obtain⟨t',e'⟩:=rc;subst e';unfold PySem.W.exmOne at hx;split at hx<;>cases hx
subst e3
have p1:=(I2.pin (ea,oe) (by simp)).1
have p2:=(I2.pin (T,oT) (by simp)).1
have hd1:=back _ p1 p2
obtain⟨vs,⟨oe',z1,z2,_⟩,_⟩:=id hd1
have LT:PySem.W.Looks (model X.prog X.w) s1.heap (typeOf (.ref ea)) C:=by rw[←z2];exact(aV z1).andThen .now
have I3:Inv X pins σ H' s1:=(Inv.unsui hh I2).unpinned
exact(PySem.W.exm_one I2.kIn LT hx).here (q s1 I3 hd1))
theorem qFM{ty:Expr}{c:V}{cv:Value}{b₀:Stmt}{suite:List Stmt}{pos:Pos}{rest:List ExceptHandler}{ts:TS}{tr:TH}(hc:∀ea,PE (X.sui ea) ty (tC c))(rc:RelV c cv)(hs:∀ea,PSs (X.sui ea) (b₀::suite) ts)(hr:PHs X rest tr):
 PHs X (.ExceptHandler (some ty) none (b₀::suite) pos::rest) (λD σ H ea C od=>∃b,PySem.W.exmOne X.K C cv=some b∧if b=true then ts D σ H else tr D σ H ea C od):=by(
intro pins s σ H D ea T C od I hd ours hZ
obtain⟨b,hx,q⟩:=hZ
refine wpAny_handleBy_cons (q8Y (hc ea) rc I I.ok.hd hd ours hx λs' I' hd'=>?_) (by intro z;cases z)
cases b with
|false=>rw[kF (by simp)]at q;exact hr pins s' σ H D ea T C od I' hd' ours q
|true=>rw[kI rfl]at q;refine codeAny_handlers_suite (q1W hd' λh' c hd2=>?_);have I2:=I'.chg (t':=s'.toks) (rs:=[ea,T]) (c.mono (by simp) (by simp)) ours hd'.recs;exact gY (hs ea pins { s' with heap:=h' } σ H D (I2.sui ea) q) (λf s2 z=>z.unsui I.ok.hd) λ_ _ z=>z.elim)
noncomputable def tTry(tb:(St→XK)→TS)(th:TH):TS:=λD σ H=>tb (λσ' C od H'=>∀ea,H' ea=none→th D σ' H' ea C od) D σ H
theorem qIP{body:List Stmt}{h₀:ExceptHandler}{hs:List ExceptHandler}{pos:Pos}{tb:(St→XK)→TS}{th:TH}
 (hb:∀(pins:List (Addr×Obj)) (XE:Value→Shared→Prop) (ES:St→XK),q2D (X.tr pins XE) ES→PassesOwn (model X.prog X.w) X.A X.env XE→PSs (X.tr pins XE) body (tb ES)) (hh:PHs X (h₀::hs) th)
 (hfs:∃fr,X.stack=X.env::fr:=by exact⟨_,rfl⟩) (hf:X.env.frame=some X.env.locals:=by rfl):PS X (.Try body (h₀::hs) [] [] pos) (tTry tb th):=by(
intro pins s σ H D I q
refine wpAny_Try_except (gY (hb pins (λe s1=>wpAny (model X.prog X.w) X.A (noteFrame e X.env) (λ_ s2=>wpAny (model X.prog X.w) X.A (setFlight e none) (λ_ s3=>wpAny (model X.prog X.w) X.A (handleBy e X.env (h₀::hs)) (SP X pins D) X.xe s3) X.xe s2) X.xe s1)
 (λσ' C od H'=>∀ea,H' ea=none→th D σ' H' ea C od) ?_ PassesOwn.looking [] s σ H D (I.tr _) q) (λf s1 z=>?_) λe s1 z=>z)
·intro pins' σ' H' s' ea tr C od I' air ours y;obtain⟨fr,ek⟩:=hfs;have frames:X.A.frames=some (X.env::fr):=by rw[I.ok.frames,ek]
 have ff:s'.heap.FunFrames X.base (X.env::fr):=by rw[←ek];exact I'.stack
 refine qB6 frames ff hf air λh' T c hd n=>?_;have en:frs X.stack=(X.env::fr).filterMap (·.frame):=by rw[ek];rfl
 have I2:Inv (X.tr pins _) pins' σ' H' { s' with heap:=h' }:=I'.chg (t':=s'.toks) (by show Chg (frs X.stack) _ _ _;rw[en];exact c) ours air.recs;have oT:Ours (X.tr pins λe s1=>wpAny (model X.prog X.w) X.A (noteFrame e X.env) (λ_ s2=>wpAny (model X.prog X.w) X.A (setFlight e none) (λ_ s3=>wpAny (model X.prog X.w) X.A (handleBy e X.env (h₀::hs)) (SP X pins D) X.xe s3) X.xe s2) X.xe s1) pins' H' [ea,T]:=by
  intro b hb;have hb:b=ea∨b=T:=by simpa using hb
  rcases hb with rfl|rfl
  ·exact ours b (by simp)
  rcases n with z|z
  ·exact ours b (kC _ (by cases tr with|none=>cases z|some t=>cases z;exact kD.mpr rfl))
  refine⟨?_,I'.hok.fresh z,λp hp w=>?_⟩
  ·by_cases y:b∈X.ex
   ·exact .inr y
   refine .inl ?_;cases w:X.s₀.heap.get? b with
   |none=>rfl
   |some ob=>obtain⟨o',w'⟩:=I'.base.there b ob w y;exact absurd (kP w') (lE.mpr z)
  have w':=(I'.pin p hp).1;rw[w]at w';exact absurd (kP w') (lE.mpr z)
 refine q1W hd λh2 c2 hd2=>?_;have I3:=I2.chg (t':=s'.toks) (rs:=[ea,T]) (c2.mono (by simp) (by simp)) oT hd.recs;exact hh pins _ σ' H' D ea T C od I3.untr hd2 (λb hb=>⟨(oT b hb).1,(oT b hb).2.1,λp hp=>(oT b hb).2.2 p (gK _ hp)⟩) (y ea (ours ea (by simp)).2.1)
have z:=z.untr
cases f with
|next=>obtain⟨σ',H',I',y⟩:=z;exact qQ pins s1 σ' H' D I' y
|_=>exact z)
end
noncomputable def NewX(ea:Addr)(C:Value)(od:Option Addr):Heap→Prop:=λh=>∃vs sl,h.get? ea=some ⟨C,od,.fields vs,sl⟩∧vs[2]?=some .none∧vs[1]?=some .none
noncomputable abbrev XN(ea:Addr)(C:Value)(od:Option Addr):HO:=.ext (NewX ea C od)
noncomputable def qHA(X:Cx)(pins:List (Addr×Obj))(a:Addr):Prop:=(X.s₀.heap.get? a=none∨a∈X.ex)∧∀p∈X.pn++pins,p.1≠a
section
variable{X:Cx}{pins:List (Addr×Obj)}{σ:St}{H:Hp}{s:Shared}{a:Addr}
theorem Inv.young(I:Inv X pins σ H s)(e:s.heap.get? a=none):qHA X pins a:=by(
refine⟨?_,λp hp z=>?_⟩
·by_cases y:a∈X.ex
 ·exact .inr y
 refine .inl ?_;cases z:X.s₀.heap.get? a with
 |none=>rfl
 |some ob=>obtain⟨o',z'⟩:=I.base.there a ob z y;rw[e]at z';cases z'
have y:=(I.pin p hp).1
rw[z,e]at y
cases y)
theorem Inv.trackG{o:HO}(I:Inv X pins σ H s)(n:H a=none)(y:qHA X pins a)(nl:a≠X.env.locals)(nc:∀x c,X.env.cells.lookup x=some c→c≠a)(new:jA X.prog X.w (upd H a o) s.heap a o):Inv X pins σ (upd H a o) s:=by(
have ne:∀b o',X.s₀.heap.get? b=some o'→b∉X.ex→b≠a:=λb o' z x q=>by
 subst q;rcases y.1 with w|w
 ·rw[z]at w;cases w
 exact x w
have nt:∀b u,H b=some u→b≠a:=λb u z q=>by rw[q,n]at z;cases z
refine⟨I.ok,I.os,I.bare,⟨I.base.keep,I.base.slot,λb o' z m x=>?_,I.base.there,λb xs z=>?_,λb o' u z=>?_,λb ps z=>?_⟩,I.loc,I.cell,?_,λx c z=>?_,λp hp=>?_,λb u z=>?_,I.len⟩
·rw[qC (ne b o' z x)];exact I.base.free b o' z m x
·have w:=I.base.tups b xs z;rw[qC (nt _ _ w)];exact w
·have w:=I.base.frzs b o' u z;rw[qC (nt _ _ w)];exact w
·obtain⟨more,w⟩:=I.base.tbls b ps z;exact⟨more,by rw[qC (nt _ _ w)];exact w⟩
·rw[qC (wM nl)];exact I.free
·rw[qC (nc x c z)];exact I.freeC x c z
·obtain⟨p1,p2,p3,p4,p5⟩:=I.pin p hp;exact⟨p1,by rw[qC (y.2 p hp)];exact p2,p3,p4,p5⟩
by_cases q:b=a
·subst q;rw[qI]at z;cases z;exact new
rw[qC q]at z
refine(I.hok b u z).stay (λ_ _ _ g=>g) (λc g=>?_) λc xs g=>?_
·rw[qC (nt _ _ g)];exact g
rw[qC (nt _ _ g)];exact g)
end
noncomputable def qDQ:List Value→Bool
| .ref _::r=>qDQ r
|l=>l==bmVE
noncomputable def veIn(K:PySem.W.Frag)(C:Addr):Bool:=(PySem.W.clsIn K C).any (λcd=>qDQ cd.mro)
structure XAt(K:PySem.W.Frag)(C:Addr):Prop where
hd:PySem.W.hasDictIn K C=true
sa:PySem.W.findIn K (.ref C) "__setattr__"=some (some (.builtin "object.__setattr__"))
mro:veIn K C=true
structure XRd(K:PySem.W.Frag)(C:Addr):Prop where
ga:PySem.W.findIn K (.ref C) "__getattribute__"=some (some (.builtin "BaseException.__getattribute__"))
gn:PySem.W.findIn K (.ref C) "__getattr__"=some none
mb:PySem.W.mroIn K C (.type "BaseException")=some true
hd:PySem.W.hasDictIn K C=true
cls:PySem.W.findIn K (.ref C) "__class__"=some (some (.builtin "object.__class__"))
cget:PySem.W.specialIn K (.builtin "object.__class__") "__get__"=some (some (.builtin "getset_descriptor.__get__"))
ctk:PySem.W.takesIn K (.builtin "object.__class__")=some true
mo:PySem.W.mroIn K C (.type "object")=some true
noncomputable def XAny(H:Hp)(ea:Addr)(C:Value)(od:Option Addr):Prop:=H ea=some (XO ea C od)∨H ea=some (XN ea C od)
section
variable{X:Cx}{pins:List (Addr×Obj)}{σ:St}{H:Hp}{s:Shared}{ea C:Addr}{od:Option Addr}
theorem XAny.at{C:Value}(x:XAny H ea C od)(I:Inv X pins σ H s):∃o vs,s.heap.get? ea=some o∧o.cls=C∧o.dict=od∧o.data=.fields vs:=by(
rcases x with e|e
·exact(I.hok ea _ e).1
obtain⟨vs,sl,z,_⟩:=(I.hok ea _ e).1
exact⟨_,vs,z,rfl,rfl,rfl⟩)
theorem qFN{A:Around}{E:Value→Shared→Prop}{K:PySem.W.Frag}{prog:Program}{w:World}{s:Shared}{x:Addr}{ox:Obj}{od:Option Obj}{name:Str}{tk:Tok}{fill b:Bool}{Q:Value→Shared→Prop}(X:K.In s.heap)(J:PySem.W.InstAt s.heap x ox C od)(c:XRd K C)
 (h:∀A',wpAny (model prog w) A' (Builtin.«object.__getattribute__» ⟨[.ref x,.str name tk],[]⟩) (λfin s'=>∃v,fin=.done (.ret v)∧PySem.W.handedIn v=true∧Q v s') (λ_ _=>False) s):wpAny (model prog w) A (getAttrBy (.ref x) (.str name tk) fill b) Q E s:=by(
obtain⟨hh,g,d,t,os⟩:=s
have L0:=J.type (M:=model prog w)
have L1:=cI (M:=model prog w) X c.ga
have L2:=cI (M:=model prog w) X c.gn
have SF:=PySem.F.excAttr_ValueError.ga
unfold getAttrBy
refine gG (hG (L0.at (hG (L1.at ?_))))
show wpAny _ _ (getAttrByItsOwn (.ref x) (.str name tk) (.ref C) (.builtin "BaseException.__getattribute__") fill b) _ _ _
unfold getAttrByItsOwn
refine hG ?_
show wpAny _ _ (typeLookup (.ref C) "__getattr__") _ _ _
refine L2.at ?_
refine hG (nJ (gG ?_))
have e1:callGetattribute (.ref x) (.str name tk) (.builtin "BaseException.__getattribute__") b=boundAndCalled (.builtin "BaseException.__getattribute__") (.ref x) (.str name tk):=by unfold callGetattribute;rw[kF (by cases b<;>exact Bool.noConfusion)]
rw[e1]
unfold boundAndCalled
rw[SF.bind (.ref x)]
refine hG (kL ?_)
refine cJ (cM SF.plain PySem.F.entry_bexc_ga ?_)
have su:PySem.W.Looks (model prog w) hh (isInstance (.ref x) (.type "BaseException")) true:=J.type.andThen (PySem.W.looks_mroIn X c.mb)
have hk:builtinKind "BaseException.__getattribute__"=some .slot:=by decide+kernel
have hs:splitId "BaseException.__getattribute__"=some ("BaseException","__getattribute__"):=by decide+kernel
refine @xY (model prog w) _ _ ⟨hh,g,d,t,os⟩ "BaseException.__getattribute__" "BaseException" "__getattribute__" (.ref x) [.str name tk] [] _ hk hs su (PySem.F.args_bexc_ga (.ref x) (.str name tk)) ?_
refine gY (h _) (λfin s' z=>?_) (λ_ _ z=>z.elim)
obtain⟨v,rfl,z1,z2⟩:=z
exact PySem.W.handed_on z1 z2)
end
noncomputable def clsV:V→Option Value
| .ref a=>some (.ref a)
| .ty n=>some (.type n)
|_=>none
theorem qDR{c:V}{cv u:Value}(h:clsV c=some cv)(r:RelV c u):u=cv:=by cases c<;>first|(cases h;exact r)|cases h
noncomputable def KndT(K:PySem.W.Frag)(H:Hp)(x:V)(t:Value):Prop:=TyOf K H x t∨∃ea C od,x=.ref ea∧t=.ref C∧XAny H ea (.ref C) od∧XRd K C∧(od=none∨∃dx fs,od=some dx∧H dx=some (.xd fs))
theorem qIQ{K:PySem.W.Frag}{x D:Addr}{ox:Obj}{od:Option Obj}(c:XRd K D):PySem.W.KitX K (.ref x) (.ref D) (λh=>PySem.W.InstAt h x ox D od) where
ty:=λ_ _ _ I=>I.type
it:=λ_ _ X _=>by
 obtain⟨cd,hc,_⟩:=pK c.hd;unfold PySem.W.clsIn at hc;split at hc
 ·rename_i ho;intro A' Q' E' s' k q;unfold isType loadHead;exact hG (wpAny_loadPart (k _ _ (X _ _ ho)) (kL q))
 cases hc
ne:=λh tp dd its n sl X htp=>by
 obtain⟨cd,hc,_⟩:=pK c.hd;refine aJ.mpr λq=>?_;have e:D=tp:=Value.ref.inj (wA.mp q);subst e;unfold PySem.W.clsIn at hc;split at hc
 ·rename_i ho;have z:=(X _ _ ho).symm.trans htp;cases z
 cases hc
ca:=fun {prog w _ _ _ s} X I k=>by
 have hf:PySem.W.findObj K D od "__class__"=some (.bind (.builtin "getset_descriptor.__get__") (.builtin "object.__class__")):=by obtain⟨cd,hc,_⟩:=pK c.hd;unfold PySem.W.findObj;rw[hc,pL,c.cls,pL];dsimp only;rw[c.cget,pL];dsimp only;rw[c.ctk,pL]
 unfold getAttr? getAttrBy?;refine hG (wpAny_mkText (hG (nJ (qFN (s:={ s with toks:=s.toks+1 }) X I c λA'=>?_))));have L0:=I.type (M:=model prog w);have L1:=PySem.W.looks_find (M:=model prog w) X I hf;obtain⟨hh,gg,d,t,os⟩:=s;refine hG (kL (hG (kL (hG (L0.at (hG (L1.at ?_)))))));show wpAny _ _ (holding [.builtin "object.__class__"] (call (.builtin "getset_descriptor.__get__") [.builtin "object.__class__",.ref x,.ref D]) >>= ret) _ _ _;exact hG (gG (cJ (PySem.W.class_get (s:=⟨hh,gg,d,t+1,os⟩) (ox:=ox) (od:=od) X I c.mo (kL ⟨_,rfl,rfl,kL k⟩))))
theorem yF{X:Cx}:q0T X (.builtin "isinstance") (λxs H Q=>∃x c cv t b,xs=[x,c]∧clsV c=some cv∧KndT X.K H x t∧PySem.W.kitOne X.K t cv=some b∧Q (.bl b) H):=by(
intro pins s σ H xs us Q I r h
obtain⟨x,c,cv,t,b,rfl,hc,ty,e,q⟩:=h
obtain⟨u,w',rfl,ru,rw'⟩:=qH6 r
cases qDR hc rw'
rcases ty with ty|⟨ea,C,od,rfl,rfl,hx,ca,hd⟩
·exact qC5 I ru ty e λtk=>⟨.bl b,H,I.tok tk,rfl,q⟩
obtain rfl:u=Value.ref ea:=ru
obtain⟨o,vs,e1,e2,e3,e4⟩:=hx.at I
have hno:PySem.W.notCls o=true:=by rw[PySem.W.notCls,e4]
have J:∃oD,PySem.W.InstAt s.heap ea o C oD:=by
 rcases hd with rfl|⟨dx,fs,rfl,hdx⟩
 ·exact⟨none,e1,e2,hno,by rw[e3];exact True.intro⟩
 obtain⟨mA,n1,rl⟩:=I.hok dx _ hdx;obtain⟨oD,g1,g2⟩:=q6O n1;exact⟨some oD,e1,e2,hno,by rw[e3];exact g1⟩
obtain⟨oD,J⟩:=J
exact gW (qIQ ca) I.kIn J e (λz=>nomatch z) λtk=>⟨.bl b,H,I.tok tk,rfl,q⟩)
structure BIni(K:PySem.W.Frag)(W:Addr):Prop where
rd:PySem.W.readsIn K W (.type "type")=true
fd:PySem.W.findCls K (.ref W) (.type "type") "__init__"=some (.val (.builtin "ValueError.__init__"))
ga:PySem.W.specialIn K (.ref W) "__getattribute__"=some (some (.builtin "type.__getattribute__"))
end L2
namespace L2
open PySem
structure Keep(F:List Addr)(H H':Hp):Prop where
k:∀b o,b∉F→H b=some o→H' b=some o
tp:∀b xs,H b=some (.tup xs)→H' b=some (.tup xs)
theorem Keep.refl{F:List Addr}{H:Hp}:Keep F H H:=⟨λ_ _ _ e=>e,λ_ _ e=>e⟩
theorem Keep.trans{F:List Addr}{H H1 H2:Hp}(a:Keep F H H1)(b:Keep F H1 H2):Keep F H H2:=⟨λx o n e=>b.k x o n (a.k x o n e),λx xs e=>b.tp x xs (a.tp x xs e)⟩
theorem Keep.mono{F F':List Addr}{H H':Hp}(a:Keep F H H')(s:∀b∈F,b∈F'):Keep F' H H':=⟨λx o n e=>a.k x o (λm=>n (s x m)) e,a.tp⟩
theorem Keep.upd{F:List Addr}{H:Hp}{p:Addr}{o u:HO}(h:H p=some u)(nt:∀xs,u≠ .tup xs)(m:p∈F):Keep F H (upd H p o):=by(
refine⟨λb x n e=>?_,λb xs e=>?_⟩
·rw[qC (λ(z:b=p)=>n (z▸m))];exact e
rw[qC (jP e h (λz=>nt xs z.symm))];exact e)
theorem Keep.same{F:List Addr}{H H':Hp}(s:Same H H'):Keep F H H':=⟨λb o _ e=>s b o e,λb xs e=>s b _ e⟩
theorem Keep.none{F:List Addr}{H H':Hp}(a:Keep F H H'){b:Addr}(n:b∉F)(e:H' b=Option.none):H b=Option.none:=by(
cases q:H b with
|none=>rfl
|some o=>rw[a.k b o n q]at e;cases e)
structure CM where
bl:Int
pg:Int
mo:Int
lim:List (Key×V)
bo:List V
cl:List Int
dc:List Int
br:List Bool
lf:Option Int
rc:List (Str×Int×Bool)
structure CA where
dx:Addr
li:Addr
bo:Addr
cl:Addr
dc:Addr
br:Addr
rc:Addr
noncomputable def lfV:Option Int→V
| .none=>.non
| .some i=>.int i
noncomputable def chF(a:CA)(m:CM):List (Str×V):=[("blocks",.int m.bl),("pages",.int m.pg),("most",.int m.mo),("limits",.ref a.li),("borne",.ref a.bo),("clearings",.ref a.cl),("deed_counts",.ref a.dc),("broken",.ref a.br),("deeds_left",lfV m.lf),("record",.ref a.rc)]
noncomputable def trip(H:Hp)(v:V)(d:Str×Int×Bool):Prop:=∃p,v=.ref p∧H p=some (.tup [.str d.1,.int d.2.1,.bl d.2.2])
noncomputable abbrev Recd(H:Hp):List V→List (Str×Int×Bool)→Prop:=Paired (trip H)
theorem Recd.keep{F:List Addr}{H H':Hp}(k:Keep F H H'){rs:List V}{ds:List (Str×Int×Bool)}(r:Recd H rs ds):Recd H' rs ds:=Paired.mapP r λv d ⟨p,e,h⟩=>⟨p,e,k.tp _ _ h⟩
theorem _root_.PySem.Paired.len{α β:Type}{F:α→β→Prop}:∀{l₁:List α} {l₂:List β},Paired F l₁ l₂→l₁.length=l₂.length
|_,_,.nil=>rfl
|_,_,.cons _ t=>rK (· + 1) t.len
theorem Paired.snoc{α β:Type}{F:α→β→Prop}:∀{l₁:List α} {l₂:List β} {a:α} {b:β},Paired F l₁ l₂→F a b→Paired F (l₁++[a]) (l₂++[b])
|_,_,_,_,.nil,h=>.cons h .nil
|_,_,_,_,.cons r t,h=>.cons r (Paired.snoc t h)
noncomputable def foot(c:Addr)(a:CA):List Addr:=[c,a.bo,a.cl,a.dc,a.br,a.rc]
structure ChipAt(C:Addr)(H:Hp)(c:Addr)(a:CA)(m:CM):Prop where
ins:H c=some (.ins C a.dx (chF a m))
li:H a.li=some (.dK m.lim)
bo:H a.bo=some (.lst m.bo)
cl:H a.cl=some (.lst (m.cl.map V.int))
dc:H a.dc=some (.lst (m.dc.map V.int))
br:H a.br=some (.lst (m.br.map V.bl))
rc:∃rs,H a.rc=some (.lst rs)∧Recd H rs m.rc
nd:[a.bo,a.cl,a.dc,a.br,a.rc].Nodup
structure CM.Ok(m:CM):Prop where
bl1:2≤m.bl
bl2:m.bl≤16
pg1:1≤m.pg
pg2:m.pg≤16
nbo:(m.bo.length:Int)=m.bl*m.pg
ncl:(m.cl.length:Int)=m.bl
ndc:(m.dc.length:Int)=m.bl
nbr:(m.br.length:Int)=m.bl
lim:∀b v,valV m.lim (Sum.inl b)=some v→∃n,v=.int n
nrc:m.rc.length≤1000000
section
variable{C c:Addr}{a:CA}{m:CM}{H H':Hp}
theorem ChipAt.ne(h:ChipAt C H c a m):c≠a.bo∧c≠a.cl∧c≠a.dc∧c≠a.br∧c≠a.rc:=by obtain⟨rs,e,_⟩:=h.rc;exact⟨jP h.ins h.bo (by intro z;cases z),jP h.ins h.cl (by intro z;cases z),jP h.ins h.dc (by intro z;cases z),jP h.ins h.br (by intro z;cases z),jP h.ins e (by intro z;cases z)⟩
theorem ChipAt.nel(h:ChipAt C H c a m):a.li≠c∧a.li≠a.bo∧a.li≠a.cl∧a.li≠a.dc∧a.li≠a.br∧a.li≠a.rc:=by obtain⟨rs,e,_⟩:=h.rc;exact⟨jP h.li h.ins (by intro z;cases z),jP h.li h.bo (by intro z;cases z),jP h.li h.cl (by intro z;cases z),jP h.li h.dc (by intro z;cases z),jP h.li h.br (by intro z;cases z),jP h.li e (by intro z;cases z)⟩
theorem ChipAt.dst(h:ChipAt C H c a m):(a.bo≠a.cl∧a.bo≠a.dc∧a.bo≠a.br∧a.bo≠a.rc)∧(a.cl≠a.dc∧a.cl≠a.br∧a.cl≠a.rc)∧(a.dc≠a.br∧a.dc≠a.rc)∧a.br≠a.rc:=by(
have:=h.nd
simp only[mY,kM,gX,not_or,cW]at this
obtain⟨⟨a1,a2,a3,a4⟩,⟨b1,b2,b3⟩,⟨c1,c2⟩,d1,_⟩:=this
exact⟨⟨a1,a2,a3,a4⟩,⟨b1,b2,b3⟩,⟨c1,c2⟩,d1⟩)
theorem ChipAt.keep{F:List Addr}(h:ChipAt C H c a m)(k:Keep F H H')(n:∀b∈a.li::foot c a,b∉F):ChipAt C H' c a m:=by obtain⟨rs,e,r⟩:=h.rc;exact⟨k.k _ _ (n _ (by simp[foot])) h.ins,k.k _ _ (n _ (by simp)) h.li,k.k _ _ (n _ (by simp[foot])) h.bo,k.k _ _ (n _ (by simp[foot])) h.cl,k.k _ _ (n _ (by simp[foot])) h.dc,k.k _ _ (n _ (by simp[foot])) h.br,⟨rs,k.k _ _ (n _ (by simp[foot])) e,r.keep k⟩,h.nd⟩
theorem ChipAt.same(h:ChipAt C H c a m)(s:Same H H'):ChipAt C H' c a m:=h.keep (F:=[]) (Keep.same s) (by simp)
theorem ChipAt.setLf(h:ChipAt C H c a m)(v:Option Int):ChipAt C (upd H c (.ins C a.dx (chF a { m with lf:=v }))) c a { m with lf:=v }:=by(
obtain⟨n1,n2,n3,n4,n5⟩:=h.ne
obtain⟨l1,_⟩:=h.nel
obtain⟨rs,e,r⟩:=h.rc
have k:Keep [c] H (upd H c (.ins C a.dx (chF a { m with lf:=v }))):=Keep.upd h.ins (λ_ z=>by cases z) (by simp)
exact⟨qI,by rw[qC l1];exact h.li,by rw[qC n1.symm];exact h.bo,by rw[qC n2.symm];exact h.cl,by rw[qC n3.symm];exact h.dc,by rw[qC n4.symm];exact h.br,⟨rs,by rw[qC n5.symm];exact e,r.keep k⟩,h.nd⟩)
theorem ChipAt.setBo(h:ChipAt C H c a m)(v:List V):ChipAt C (upd H a.bo (.lst v)) c a { m with bo:=v }:=by(
obtain⟨n1,n2,n3,n4,n5⟩:=h.ne
obtain⟨l0,l1,l2,l3,l4,l5⟩:=h.nel
obtain⟨⟨a1,a2,a3,a4⟩,⟨b1,b2,b3⟩,⟨c1,c2⟩,d1⟩:=h.dst
obtain⟨rs,e,r⟩:=h.rc
have k:Keep [a.bo] H (upd H a.bo (.lst v)):=Keep.upd h.bo (λ_ z=>by cases z) (by simp)
exact⟨by rw[qC n1];exact h.ins,by rw[qC l1];exact h.li,qI,by rw[qC a1.symm];exact h.cl,by rw[qC a2.symm];exact h.dc,by rw[qC a3.symm];exact h.br,⟨rs,by rw[qC a4.symm];exact e,r.keep k⟩,h.nd⟩)
theorem ChipAt.setCl(h:ChipAt C H c a m)(v:List Int):ChipAt C (upd H a.cl (.lst (v.map V.int))) c a { m with cl:=v }:=by(
obtain⟨n1,n2,n3,n4,n5⟩:=h.ne
obtain⟨l0,l1,l2,l3,l4,l5⟩:=h.nel
obtain⟨⟨a1,a2,a3,a4⟩,⟨b1,b2,b3⟩,⟨c1,c2⟩,d1⟩:=h.dst
obtain⟨rs,e,r⟩:=h.rc
have k:Keep [a.cl] H (upd H a.cl (.lst (v.map V.int))):=Keep.upd h.cl (λ_ z=>by cases z) (by simp)
exact⟨by rw[qC n2];exact h.ins,by rw[qC l2];exact h.li,by rw[qC a1];exact h.bo,qI,by rw[qC b1.symm];exact h.dc,by rw[qC b2.symm];exact h.br,⟨rs,by rw[qC b3.symm];exact e,r.keep k⟩,h.nd⟩)
theorem ChipAt.setDc(h:ChipAt C H c a m)(v:List Int):ChipAt C (upd H a.dc (.lst (v.map V.int))) c a { m with dc:=v }:=by(
obtain⟨n1,n2,n3,n4,n5⟩:=h.ne
obtain⟨l0,l1,l2,l3,l4,l5⟩:=h.nel
obtain⟨⟨a1,a2,a3,a4⟩,⟨b1,b2,b3⟩,⟨c1,c2⟩,d1⟩:=h.dst
obtain⟨rs,e,r⟩:=h.rc
have k:Keep [a.dc] H (upd H a.dc (.lst (v.map V.int))):=Keep.upd h.dc (λ_ z=>by cases z) (by simp)
exact⟨by rw[qC n3];exact h.ins,by rw[qC l3];exact h.li,by rw[qC a2];exact h.bo,by rw[qC b1];exact h.cl,qI,by rw[qC c1.symm];exact h.br,⟨rs,by rw[qC c2.symm];exact e,r.keep k⟩,h.nd⟩)
theorem ChipAt.addRc{p:Addr}{rs:List V}{d:Str×Int×Bool}(h:ChipAt C H c a m)(e:H a.rc=some (.lst rs))(hp:H p=some (.tup [.str d.1,.int d.2.1,.bl d.2.2])):ChipAt C (upd H a.rc (.lst (rs++[.ref p]))) c a { m with rc:=m.rc++[d] }:=by(
obtain⟨n1,n2,n3,n4,n5⟩:=h.ne
obtain⟨l0,l1,l2,l3,l4,l5⟩:=h.nel
obtain⟨⟨a1,a2,a3,a4⟩,⟨b1,b2,b3⟩,⟨c1,c2⟩,d1⟩:=h.dst
obtain⟨rs',e',r⟩:=h.rc
rw[e]at e'
cases e'
have k:Keep [a.rc] H (upd H a.rc (.lst (rs++[.ref p]))):=Keep.upd e (λ_ z=>by cases z) (by simp)
exact⟨by rw[qC n5];exact h.ins,by rw[qC l5];exact h.li,by rw[qC a4];exact h.bo,by rw[qC b3];exact h.cl,by rw[qC c2];exact h.dc,by rw[qC d1];exact h.br,⟨_,qI,Paired.snoc (r.keep k) ⟨p,rfl,k.tp _ _ hp⟩⟩,h.nd⟩)
end
noncomputable def CM.deed(m:CM)(w:Str)(pl b:Int)(f:Bool):CM:={ m with lf:=m.lf.map (· - 1),dc:=m.dc.set b.toNat (m.dc.getD b.toNat 0+1),rc:=m.rc++[(w,pl,!f)],br:=if f then m.br.set b.toNat true else m.br }
noncomputable def clr(xs:List V)(i n:Nat):List V:=match n with
|0=>xs
|n+1=>(clr xs i n).set (i+n) .non
noncomputable def CM.new(bl pg mo:Int)(lim:List (Key×V)):CM:=⟨bl,pg,mo,lim,List.replicate (bl*pg).toNat .non,List.replicate bl.toNat 0,List.replicate bl.toNat 0,List.replicate bl.toNat false,none,[]⟩
theorem qFO{x:V}{lo hi:Int}(h:inB x lo hi=true):∃p,x=.int p∧lo≤p∧p≤hi:=by(
cases x with
|int p=>have h:(decide (lo≤p)&&decide (p≤hi))=true:=h;rw[mR]at h;exact⟨p,rfl,mV h.1,mV h.2⟩
|_=>cases h)
theorem qIR{m:CM}{p:Int}(ok:m.Ok)(p0:0≤p)(p1:p≤m.bl*m.pg-1):0≤p / m.pg∧p / m.pg<m.bl:=by have:=ok.pg1;exact⟨Int.ediv_nonneg p0 (by lia),Int.ediv_lt_of_lt_mul (by lia) (by lia)⟩
theorem lf0{m:CM}:decide (lfV m.lf=V.int 0)=decide (m.lf=some 0):=by(
cases e:m.lf with
|none=>rfl
|some i=>
 show decide (V.int i=V.int 0)=_;by_cases z:i=0
 ·subst z;rfl
 rw[kE (λq=>z (by injection q)),kE (λq=>z (by injection q))])
theorem qFP{m:CM}:scal (lfV m.lf) (.int 0)=true:=by cases m.lf<;>rfl
theorem getB{m:CM}{b:Int}(h0:0≤b)(h:b<(m.br.length:Int)):atI (m.br.map V.bl) b=some (.bl (m.br.getD b.toNat false)):=by(
obtain⟨j,rfl⟩:=rG h0
refine uR ?_
have hj:j<m.br.length:=by lia
simp[hj])
theorem getI{xs:List Int}{b:Int}(h0:0≤b)(h:b<(xs.length:Int)):atI (xs.map V.int) b=some (.int (xs.getD b.toNat 0)):=by(
obtain⟨j,rfl⟩:=rG h0
refine uR ?_
have hj:j<xs.length:=by lia
simp[hj])
theorem getV{xs:List V}{b:Int}(h0:0≤b)(h:b<(xs.length:Int)):atI xs b=some (xs.getD b.toNat .non):=by(
obtain⟨j,rfl⟩:=rG h0
refine uR ?_
have hj:j<xs.length:=by lia
simp[hj])
theorem ixOk{n:Nat}{b:Int}(h0:0≤b)(h:b<(n:Int)):ixN n b=some b.toNat:=by unfold ixN;rw[kI h0,kI h]
theorem CM.Ok.deed{m:CM}(ok:m.Ok){w:Str}{pl b:Int}{f:Bool}(h:m.rc.length<1000000):(m.deed w pl b f).Ok:=by(
refine⟨ok.bl1,ok.bl2,ok.pg1,ok.pg2,ok.nbo,ok.ncl,?_,?_,ok.lim,?_⟩
·show((m.dc.set _ _).length:Int)=m.bl;rw[gL];exact ok.ndc
·show(((if f then m.br.set b.toNat true else m.br)).length:Int)=m.bl;cases f with
 |true=>rw[kI rfl,gL];exact ok.nbr
 |false=>exact ok.nbr
show(m.rc++[_]).length≤1000000
rw[kZ,gF]
lia)
noncomputable def qFQ:Sp:=λvs H Q _=>∃x y,vs=[x,y]∧Knd H x∧Knd H y∧Q (.bl (inB x 2 16&&inB y 1 16)) H
theorem Paired.at{α β:Type}{F:α→β→Prop}:∀{l₁:List α} {l₂:List β} {i:Nat} {a:α},Paired F l₁ l₂→l₁[i]?=some a→∃b,l₂[i]?=some b∧F a b
|_,_,0,_,.cons r _,e=>by simp at e;subst e;exact⟨_,rfl,r⟩
|_,_,i+1,_,.cons _ t,e=>by have e2:=nM.symm.trans e;obtain⟨b,h1,h2⟩:=Paired.at t e2;exact⟨b,nM.trans h1,h2⟩
|_,_,_,_,.nil,e=>by simp at e
theorem q4H(xs:List V)(i:Nat):∀n,(clr xs i n).length=xs.length
|0=>rfl
|n+1=>by show((clr xs i n).set (i+n) .non).length=xs.length;rw[gL,q4H xs i n]
theorem qIS{bl pg mo:Int}{lim:List (Key×V)}(b1:2≤bl)(b2:bl≤16)(p1:1≤pg)(p2:pg≤16)(hl:∀b v,valV lim (Sum.inl b)=some v→∃n,v=V.int n):(CM.new bl pg mo lim).Ok:=by(
have h:0≤bl*pg:=xB (by lia) (by lia)
refine⟨b1,b2,p1,p2,?_,?_,?_,?_,hl,by show 0≤1000000;decide⟩
·show((List.replicate (bl*pg).toNat V.non).length:Int)=bl*pg;rw[gM];lia
·show((List.replicate bl.toNat (0:Int)).length:Int)=bl;rw[gM];lia
·show((List.replicate bl.toNat (0:Int)).length:Int)=bl;rw[gM];lia
show((List.replicate bl.toNat false).length:Int)=bl
rw[gM]
lia)
noncomputable def Up(x:Addr)(H H':Hp):Prop:=∀b o,b≠x→H b=some o→H' b=some o
section
variable{x C dx:Addr}{fs:List (Str×V)}{H H':Hp}
theorem Up.of{o:HO}(s:Same H H'):Up x H (upd H' x o):=λb u n e=>by rw[qC n];exact s b u e
theorem Up.free(u:Up x H H'){b:Addr}(n:b≠x)(e:H' b=none):H b=none:=by(
cases q:H b with
|none=>rfl
|some o=>rw[u b o n q]at e;cases e)
end
end L2
namespace L2
open PySem PySem.Spec PyProof.Rows
noncomputable def tMid(t u:TS):TS:=λD σ H=>∃M:St→Hp→Prop,t { D with nx:=M } σ H∧∀σ' H',M σ' H'→u D σ' H'
noncomputable def qKC(t:TE):TE:=λσ H Q=>∃M:VK,t σ H M∧∀v H',M v H'→Q v H'
section
variable{X:Cx}{st:Stmt}{rest:List Stmt}{t u:TS}{e:Expr}{te:TE}{tt:TT}
theorem q4I(h1:PS X st t)(h2:PSs X rest u):PSs X (st::rest) (tMid t u):=by(
intro pins s σ H D I hZ
obtain⟨M,a,b⟩:=hZ
refine hG (thn (h1 pins s σ H _ I a) λf s1 z=>?_)
cases f with
|next=>obtain⟨σ',H',I',q⟩:=z;exact h2 pins s1 σ' H' D I' (b σ' H' q)
|brk=>exact kL z
|cont=>exact kL z
|ret v=>exact kL z)
theorem qDS(h:PE X e te):PE X e (qKC te):=λpins s σ H Q I ⟨M,a,b⟩=>thn (h pins s σ H M I a) λc s1 ⟨v,H',I',r,q⟩=>⟨v,H',I',r,b v H' q⟩
end
theorem q0X{a b:Int}:decide (V.int a=V.int b)=decide (a=b):=by(
by_cases e:a=b
·subst e;simp
rw[kE e,kE (λz=>e (by injection z))])
theorem q07(x n:Int)(h:0<n):0≤x%n∧x%n<n:=⟨a9 _ (by lia),xZ _ h⟩
section
variable{X:Cx}{pins:List (Addr×Obj)}{σ:St}{H:Hp}{s:Shared}{h':Heap}
theorem Inv.turnedN{t':Nat}{fp:List Addr}(I:Inv X pins σ H s)(k:∀b o,b∉fp→s.heap.get? b=some o→h'.get? b=some o)(hf:∀b∈fp,FpOk X pins H b):Inv X pins σ H { s with heap:=h',toks:=t' }:=by(
have nit:∀b u,H b=some u→b∉fp:=λb u e z=>by rw[(hf b z).1]at e;cases e
refine I.step (g':=s.gens) (d':=s.drawn) (ch:=fp) (λb hb=>?_) (λb o _ _ hc e _=>k b o hc e) (λb o _ _ hc e _=>⟨o.slots,k b o hc e⟩) (λ_ _ _ _ n=>n)
 (λb o hc e=>⟨o,k b o hc e⟩) (λ_ _ e=>e) (λ_ _ _ e=>e) (λb ps e=>⟨#[],by rw[e];simp⟩) (λm hm=>?_) (λb u e=>?_) I.bare
·obtain⟨f0,f1,f2,f3,f4,f5⟩:=hf b hb;exact⟨f3,f1,f4,f5⟩
·obtain⟨o,es,ep,ho,r⟩:=hm;exact⟨o,es,ep,k _ o (λz=>(hf _ z).2.1 rfl) ho,r⟩
refine(I.hok b u e).stay (λc v hc q=>k c v ?_ q) (λ_ q=>q) λ_ _ q=>q
rcases hc with z|z
·rw[z];exact nit b u e
exact nit c _ z)
end
end L2
namespace L2
open PySem
theorem q2Y{es rest:List Expr}{x1}{p:Pos}{env:Env}:starEach (.Tuple es x1 p::rest) env=(false,eval (.Tuple es x1 p) env)::starEach rest env:=rfl
end L2
namespace L2
open PySem PySem.Spec PyProof.Rows
inductive Eqv(K:PySem.W.Frag)(H:Hp):Nat→V→V→Prop where
|flat {n:Nat} {x:V} (f:q0M x=true):Eqv K H n x x
|lst {n:Nat} {a b:Addr} {xs ys:List V} (ha:SqL K H a xs) (hb:SqL K H b ys) (hl:xs.length=ys.length) (hi:∀(i:Nat) x y,xs[i]?=some x→ys[i]?=some y→Eqv K H n x y):Eqv K H (n+1) (.ref a) (.ref b)
|tup {n:Nat} {a b:Addr} {xs ys:List V} (ha:SqT K H a xs) (hb:SqT K H b ys) (hl:xs.length=ys.length) (hi:∀(i:Nat) x y,xs[i]?=some x→ys[i]?=some y→Eqv K H n x y):Eqv K H (n+1) (.ref a) (.ref b)
theorem qDT{x:V}(f:q0M x=true):eqV x x=true:=by(
cases x with
|non=>rfl
|bl b=>cases b<;>rfl
|int i=>show(i==i)=true;exact beq_self_eq_true i
|str z=>show(z==z)=true;exact beq_self_eq_true z
|_=>exact absurd (show false=true from f) kO)
theorem zR{n:Nat}:(List.range n).all (λ_=>true)=true:=by simp
section
variable{X:Cx}{pins:List (Addr×Obj)}{σ:St}{H:Hp}{s:Shared}
theorem Vals.atN{xs:List V}{us:List Value}(r:Vals xs us){j:Nat}(h:j<us.length):∃x,xs[j]?=some x∧RelV x us[j]:=by(
have e:xs[j]?=some (xs[j]'(by rw[r.length];exact h)):=hX _
obtain⟨u,hu,ru⟩:=r.get e
rw[hX h]at hu
cases hu
exact⟨_,e,ru⟩)
theorem Eqv.at(I:Inv X pins σ H s){n:Nat}{y x:V}(h:Eqv X.K H n y x):∀{A:Around} {u v:Value},RelV y u→RelV x v→A.units+n<cLine→SeqAt.EqAt A s u v true:=by(
induction h with
|flat f=>intro A u v ru rv _;have e:=qD9 (A:=A) (s:=s) ru rv f f;rw[qDT f]at e;exact e
|@lst n a b xs ys ha hb hl hi ih=>
 intro A u v ru rv hu;cases ru;cases rv;by_cases hab:a=b
 ·subst hab;exact lL _
 obtain⟨i1,r1,p1,_⟩:=I.list ha;obtain⟨i2,r2,p2,_⟩:=I.list hb;have l1:=r1.length;have l2:=r2.length;refine x6 hab ?_;have e:=SeqAt.RcAt.lists (A:=A) (e:=λ_=>true) p1.isList p2.isList (by simp;lia) (by lia) (λj h1 h2=>?_)
 ·rw[zR]at e;exact e
 obtain⟨x1,e1,q1⟩:=r1.atN (j:=j) (by simpa using h1);obtain⟨x2,e2,q2⟩:=r2.atN (j:=j) (by simpa using h2);exact ih j x1 x2 e1 e2 (by simpa using q1) (by simpa using q2) (by show A.units+1+n<cLine;lia)
|@tup n a b xs ys ha hb hl hi ih=>
 intro A u v ru rv hu;cases ru;cases rv;by_cases hab:a=b
 ·subst hab;exact lL _
 obtain⟨i1,r1,p1,_⟩:=I.tuple ha;obtain⟨i2,r2,p2,_⟩:=I.tuple hb;have l1:=r1.length;have l2:=r2.length;refine x6 hab ?_;have e:=SeqAt.RcAt.tuples (A:=A) (e:=λ_=>true) (show s.heap.IsTuple a i1.toArray from p1) (show s.heap.IsTuple b i2.toArray from p2) (by lia) (λj h1 h2=>?_)
 ·rw[zR,eD,show(i1.toArray.size==i2.toArray.size)=true by simp;lia]at e;exact e
 obtain⟨x1,e1,q1⟩:=r1.atN (j:=j) (by simpa using h1);obtain⟨x2,e2,q2⟩:=r2.atN (j:=j) (by simpa using h2);exact ih j x1 x2 e1 e2 (by simpa using q1) (by simpa using q2) (by show A.units+1+n<cLine;lia))
theorem qCC{x:V}(f:q0M x=true):scal x x=true:=by(
cases x with
|non=>rfl
|bl b=>rfl
|int i=>rfl
|str z=>rfl
|_=>exact absurd (show false=true from f) kO)
noncomputable def qKD(K:PySem.W.Frag)(r:Bool):R2:=λx y H Q=>Eqv K H 6 x y∧Q (.bl r) H
theorem qIT(hu:X.A.units+64<cLine):OpR X (compareOp .NotEq) (qKD X.K false):=by(
intro pins s σ H x y v u Q I rx ry hZ
obtain⟨h,q⟩:=hZ
cases h with
|flat f=>exact q8L pins s σ H x x v u Q I rx ry ⟨qCC f,by rw[hV rfl];exact q⟩
|@lst _ a b xs ys ha hb hl hi=>cases rx;cases ry;obtain⟨i1,r1,p1,_⟩:=I.list ha;obtain⟨i2,r2,p2,_⟩:=I.list hb;have l1:=r1.length;have l2:=r2.length;refine x8 (e:=λ_=>true) p1.isList p2.isList (by simp;lia) (by lia) (λj h1 h2=>?_) _ _ _ _ ⟨.bl false,H,I,by rw[zR];rfl,q⟩;obtain⟨x1,e1,q1⟩:=r1.atN (j:=j) (by simpa using h1);obtain⟨x2,e2,q2⟩:=r2.atN (j:=j) (by simpa using h2);exact(hi j x1 x2 e1 e2).at I (by simpa using q1) (by simpa using q2) (by show X.A.units+1+5<cLine;lia)
|@tup _ a b xs ys ha hb hl hi=>cases rx;cases ry;obtain⟨i1,r1,p1,_⟩:=I.tuple ha;obtain⟨i2,r2,p2,_⟩:=I.tuple hb;have l1:=r1.length;have l2:=r2.length;refine xK (e:=λ_=>true) (show s.heap.IsTuple a i1.toArray from p1) (show s.heap.IsTuple b i2.toArray from p2) (by lia) (λj h1 h2=>?_) _ _ _ _ ⟨.bl false,H,I,by rw[zR,eD,show(i1.toArray.size==i2.toArray.size)=true by simp;lia];rfl,q⟩;obtain⟨x1,e1,q1⟩:=r1.atN (j:=j) (by simpa using h1);obtain⟨x2,e2,q2⟩:=r2.atN (j:=j) (by simpa using h2);exact(hi j x1 x2 e1 e2).at I (by simpa using q1) (by simpa using q2) (by show X.A.units+1+5<cLine;lia))
end
noncomputable def clOf(env:Env):List (Str×NameKind)→List (Str×Addr)→List (Str×Addr)
| [],cs=>cs
|(n,k)::r,cs=>clOf env r (if(k==NameKind.free)=true then(match env.cells.lookup n with|some a=>(n,a)::cs|none=>cs)else cs)
theorem q52{scope:Scope}{env:Env}(h:∀y∈scope.names,y.2=.free→∃c,env.cells.lookup y.1=some c):closureFor scope env=pure (clOf env scope.names []):=by(
unfold closureFor
have go:∀(l:List (Str×NameKind)) (cs:List (Str×Addr)),(∀y∈l,y.2=.free→∃c,env.cells.lookup y.1=some c)→(forIn l cs λx r=>(match x with|(name,kind)=>if(kind==NameKind.free)=true then do let a←cellOf env name;pure (ForInStep.yield ((name,a)::r))else pure (ForInStep.yield r):Sem (ForInStep (List (Str×Addr)))))=pure (clOf env l cs):=by
 intro l;induction l with
 |nil=>intro cs _;rfl
 |cons y r ih=>
  intro cs hl;obtain⟨n,k⟩:=y;rw[bA];by_cases hk:(k==NameKind.free)=true
  ·obtain⟨c,e⟩:=hl (n,k) kX (by simpa using hk);have e2:cellOf env n=pure c:=by unfold cellOf;rw[e]
   show(bind (if(k==NameKind.free)=true then _ else _) _:Sem _)=_;rw[kI hk,e2];show(forIn r ((n,c)::cs) _:Sem _)=pure (clOf env r (if(k==NameKind.free)=true then(match env.cells.lookup n with|some a=>(n,a)::cs|none=>cs)else cs));rw[kI hk,e];exact ih _ λy hy=>hl y (kC _ hy)
  show(bind (if(k==NameKind.free)=true then _ else _) _:Sem _)=_;rw[kF hk];show(forIn r cs _:Sem _)=pure (clOf env r (if(k==NameKind.free)=true then(match env.cells.lookup n with|some a=>(n,a)::cs|none=>cs)else cs));rw[kF hk];exact ih _ λy hy=>hl y (kC _ hy)
exact(rK (λz:Sem (List (Str×Addr))=>z >>= λs=>pure s) (go scope.names [] h)).trans rfl)
theorem q53{env:Env}{x:Str}{c:Addr}:∀(l:List (Str×NameKind)) (cs:List (Str×Addr)),(cs.lookup x=some c→env.cells.lookup x=some c)→(clOf env l cs).lookup x=some c→env.cells.lookup x=some c
| [],cs,hcs,h=>hcs h
|(n,k)::r,cs,hcs,h=>by
 refine q53 r _ ?_ h;intro q;split at q
 ·cases e:env.cells.lookup n with
  |none=>rw[e]at q;exact hcs q
  |some a=>
   rw[e]at q;have q:List.lookup x ((n,a)::cs)=some c:=q;rw[dX]at q;cases z:x==n with
   |true=>
    rw[z]at q;have z':x=n:=by simpa using z
    rw[z',e,←q]
   |false=>rw[z]at q;exact hcs q
 exact hcs q
theorem q54{env:Env}{x:Str}{c:Addr}(e:env.cells.lookup x=some c):∀(l:List (Str×NameKind)) (cs:List (Str×Addr)),((x,NameKind.free)∈l∨cs.lookup x=some c)→(clOf env l cs).lookup x=some c
| [],cs,h=>h.resolve_left (by simp)
|(n,k)::r,cs,h=>by
 refine q54 e r _ ?_;by_cases hn:(x==n)=true
 ·have z':x=n:=by simpa using hn
  by_cases hk:(k==NameKind.free)=true
  ·refine .inr ?_;rw[kI hk,←z',e];show List.lookup x ((x,c)::cs)=some c;simp
  rcases h with h|h
  ·rcases kM.mp h with q|q
   ·cases q;exact absurd (by simp) hk
   exact .inl q
  rw[kF hk];exact .inr h
 have nx:x≠n:=λz=>hn (by simp[z]);rcases h with h|h
 ·rcases kM.mp h with q|q
  ·cases q;exact absurd rfl nx
  exact .inl q
 refine .inr ?_;split
 ·cases en:env.cells.lookup n with
  |none=>exact h
  |some a=>
   show List.lookup x ((n,a)::cs)=some c;have hn:(x==n)=false:=by simpa using nx
   rw[dX,hn];exact h
 exact h
theorem q8Z{env:Env}{x:Str}:∀{names:List (Str×NameKind)},(∀y∈names,y.2≠ .cell)→((names.map λ(n,k)=>if(k==NameKind.free&&env.scope.kind== .function&&env.kindOf n==some .cell)then(n,NameKind.cell)else(n,k)).lookup x=some .cell∨(names.map λ(n,k)=>if(k==NameKind.free&&env.scope.kind== .function&&env.kindOf n==some .cell)then(n,NameKind.cell)else(n,k)).lookup x=some .free)→(x,NameKind.free)∈names
| [],_,h=>by simp at h
|(n,k)::r,hc,h=>by
 have ih:=@q8Z env x r λy hy=>hc y (kC _ hy);rw[mJ]at h;by_cases hq:(k==NameKind.free&&env.scope.kind== .function&&env.kindOf n==some .cell)=true
 ·have hk:k=.free:=by rw[mR,mR]at hq;simpa using hq.1.1
  simp only[kI hq,dX]at h;cases hx:x==n with
  |true=>
   have e:x=n:=by simpa using hx
   rw[e,hk];exact kX
  |false=>simp only[hx]at h;exact kC _ (ih h)
 simp only[kF hq,dX]at h;cases hx:x==n with
 |true=>
  simp only[hx]at h;have e:x=n:=by simpa using hx
  rcases h with h|h
  ·cases h;exact absurd rfl (hc _ kX)
  cases h;rw[e];exact kX
 |false=>simp only[hx]at h;exact kC _ (ih h)
theorem q90{env:Env}{x:Str}(hk:env.scope.kind=.function)(he:env.kindOf x=some .cell):∀{names:List (Str×NameKind)},names.lookup x=some .free→(names.map λ(n,k)=>if(k==NameKind.free&&env.scope.kind== .function&&env.kindOf n==some .cell)then(n,NameKind.cell)else(n,k)).lookup x=some .cell
| [],h=>by simp at h
|(n,k)::r,h=>by
 have ih:=@q90 env x hk he r;rw[mJ];rw[dX]at h;cases hx:x==n with
 |true=>
  simp only[hx]at h;have e:x=n:=by simpa using hx
  cases h;subst e;show List.lookup x ((if(NameKind.free==NameKind.free&&env.scope.kind==ScopeKind.function&&env.kindOf x==some NameKind.cell)=true then(x,NameKind.cell)else(x,NameKind.free))::_)=_;rw[kI (by rw[hk,he];rfl),dX];simp
 |false=>
  simp only[hx]at h;show List.lookup x ((if(k==NameKind.free&&env.scope.kind==ScopeKind.function&&env.kindOf n==some NameKind.cell)=true then(n,NameKind.cell)else(n,k))::_)=_;by_cases hq:(k==NameKind.free&&env.scope.kind== .function&&env.kindOf n==some .cell)=true
  ·rw[kI hq,dX];simp only[hx];exact ih h
  rw[kF hq,dX];simp only[hx];exact ih h
noncomputable abbrev uV(X:Cx)(N:List Str)(scope:Scope)(C:Addr)(fp:List Addr)(s:Shared)(H:Hp)(xe:Value→Shared→Prop):Cx:={ X with N:=N,s₀:=s,H₀:=H,env:=compEnvC scope (clOf X.env scope.names []) C X.env,outer:=X.stack,ex:=fp,fn:=λ_=>false,xe:=xe }
noncomputable def pick(ix:List Nat)(σ:St):St:=ix.map λi=>σ.getD i none
noncomputable def q70(XN:List Str)(kd:Str→Option NameKind)(names:List (Str×NameKind))(N:List Str)(ix:List Nat):Bool:=(List.range ix.length).all λj=>match N[j]?,ix[j]? with
 |some x,some i=>decide (XN[i]?=some x)&&decide (names.lookup x=some .free)&&decide (kd x=some .cell)
 |_,_=>false
theorem qDU{XN:List Str}{kd:Str→Option NameKind}{names:List (Str×NameKind)}{N:List Str}{ix:List Nat}(h:q70 XN kd names N ix=true){j:Nat}(hj:j<ix.length){x:Str}(hx:N[j]?=some x):
 ∃i,ix[j]?=some i∧XN[i]?=some x∧names.lookup x=some .free∧kd x=some .cell:=by(
unfold q70 at h
rw[dY]at h
have q:=h j (mQ.mpr hj)
rw[hx,hX hj]at q
simp only[mR,kW]at q
exact⟨_,hX hj,q.1.1,q.1.2,q.2⟩)
theorem qFR{X:Cx}{pins:List (Addr×Obj)}{σ:St}{H:Hp}{s:Shared}(I:Inv X pins σ H s){N:List Str}{ix:List Nat}{scope:Scope}{fp:List Addr}{xe:Value→Shared→Prop}(hf:∀b∈fp,FpOk X pins H b)(ho:∀b∈fp,∃o,s.heap.get? b=some o)
 (hk:scope.kind=.function) (hc:∀y∈scope.names,y.2≠ .cell) (hfr:∀y∈scope.names,y.2=.free→X.env.kindOf y.1=some .cell) (hcap:q70 X.N X.env.kindOf scope.names N ix=true) (hN:ix.length≤N.length) {h₁:Heap} {tk n:Nat} {m:Str→Option Value}
 (hn:h₁.Ns (s.heap.objs.size+1) m) (hkp:∀b u,s.heap.get? b=some u→h₁.get? b=some u) (hD:h₁.get? s.heap.objs.size=some { cls:=.type "list",data:=.seq ([]:List Value).toArray n }):
 Inv (uV X N scope (s.heap.objs.size+1) fp s H xe) [] (pick ix σ++List.replicate (N.length-ix.length) none) (upd H s.heap.objs.size (.lst [])) { s with heap:=h₁,toks:=tk }:=by(
have fresh:H s.heap.objs.size=none:=I.hok.fresh (kN _)
have fresh1:H (s.heap.objs.size+1)=none:=I.hok.fresh (g4 _)
have cel:∀x c,(clOf X.env scope.names []).lookup x=some c→X.env.cells.lookup x=some c:=λx c e=>q53 _ _ (by intro q;simp at q) e
have clt:∀x c,(clOf X.env scope.names []).lookup x=some c→c<s.heap.objs.size:=λx c e=>by obtain⟨v,q⟩:=I.cell x c (cel x c e);exact q.lt
refine⟨⟨I.ok.mod,hk,I.ok.glob,I.ok.blt,g4 _,λx y c h1 h2=>I.ok.inj x y c (cel x c h1) (cel y c h2),λx hx=>?_,λx c h=>absurd h kO,I.ok.hd,I.ok.frames,.inl rfl,λb hb=>⟨?_,λx c e=>?_⟩,I.bs,mF I.ok.bsz I.sz,λb o e hb=>?_,λb hb z=>?_,I.stack,I.stkFree⟩,rfl,I.bare,Un.laid hkp (kN _) fresh,⟨m,hn,λi x v e1 e2 e3=>?_⟩,λx c e=>?_,?_,λx c e=>?_,λp hp=>?_,I.hok.laid hkp (kN _) ⟨by simp,[],n,.nil,hD⟩,?_⟩
·have hx:(x,NameKind.free)∈scope.names:=q8Z hc hx;obtain⟨c,e⟩:=I.ok.has x (.inl (hfr _ hx rfl));exact⟨c,q54 e _ _ (.inl hx)⟩
·obtain⟨o,e⟩:=ho b hb;exact mK (dL (kP e))
·exact(hf b hb).2.2.2.2.1 x c (cel x c e)
·rcases(hf b hb).2.2.2.1 with z|z
 ·exact I.ok.noex b o e z
 exact absurd (mU (kP e) (mF I.ok.bsz z)) (d6 _)
·rcases kM.mp (I.stkSub b z)with z|z
 ·exact(hf b hb).2.1 z
 exact(hf b hb).2.2.1 z
·have hi:i<ix.length:=by
  by_cases hi:i<ix.length
  ·exact hi
  rw[dJ (by simpa[pick]using hi),wH]at e2;split at e2<;>cases e2
 obtain⟨i0,q1,q2,q3,q4⟩:=qDU hcap hi e1;rw[rS (by simpa[pick]using hi)]at e2;have e2:σ[i0]?=some (some v):=by
  unfold pick at e2;rw[mG,q1]at e2;have e2:σ.getD i0 none=some v:=kU e2;rw[kJ]at e2;cases z:σ[i0]? with
  |none=>rw[z]at e2;cases e2
  |some y=>rw[z]at e2;exact rK some e2
 obtain⟨mX,_,lX⟩:=I.loc;obtain⟨u,r,l⟩:=lX i0 x v q2 e2 (.inr (.inl q4));refine⟨u,r,.inr ⟨.inl (q90 I.ok.kind q4 q3),?_⟩⟩;rcases l with⟨l,_⟩|⟨_,c,e,z⟩
 ·rw[q4]at l;cases l
 obtain⟨o,e',d⟩:=z;exact⟨c,q54 e _ _ (.inl (gO q3)),o,hkp _ _ e',d⟩
·obtain⟨v,o,e',d⟩:=I.cell x c (cel x c e);exact⟨v,o,hkp _ _ e',d⟩
·show upd H s.heap.objs.size (.lst []) (s.heap.objs.size+1)=none;rw[qC (rM (rO _))];exact fresh1
·rw[qC (mK (clt x c e))];exact I.freeC x c (cel x c e)
·obtain⟨p1,p2,p3,p4,p5⟩:=I.pin p (gK _ (by simpa using hp));have lt:=kP p1;exact⟨hkp _ _ p1,by rw[qC (mK lt)];exact p2,mK (dL lt),λz=>(kM.mp (I.stkSub _ z)).elim p3 p4,p5⟩
show _=N.length
rw[kZ,gM]
simp only[pick,h9]
lia)
noncomputable def PIf(X:Cx)(ifs:List Expr)(t:TT):Prop:=∀(pins:List (Addr×Obj)) (s:Shared) (σ:St) (H:Hp) (Q:Bool→Hp→Prop),Inv X pins σ H s→t σ H Q→wpAny (model X.prog X.w) X.A (forIn ifs true λc r=>if r=true then do let ok←isTrue c X.env (eval c X.env);pure (ForInStep.yield ok)else pure (ForInStep.yield r)) (TP X pins σ Q) X.xe s
noncomputable def q91:TT:=λ_ H Q=>Q true H
theorem qDV{A B:Hp→Prop}{σ:St}{H:Hp}(h:A H):q91 σ H (λb H6=>if b=true then A H6 else B H6):=by show if true=true then A H else B H;rw[kI rfl];exact h
theorem q2Z{X:Cx}:PIf X [] q91:=λpins s σ H Q I h=>kL ⟨H,I,h⟩
theorem uS{X:Cx}{c:Expr}{t:TT}(hc:PT X c t):PIf X [c] t:=λpins s σ H Q I h=>by(
rw[bA]
show wpAny _ _ (bind (if true=true then _ else _) _) _ _ _
rw[kI rfl]
refine hG (hG (thn (hc pins s σ H Q I h) λb s1 q=>?_))
exact kL (kL q))
noncomputable def tLC(wi:TI)(g:TG)(tc:TT)(te:TE)(ix:List Nat)(k:Nat):TE:=λσ H Q=>wi σ H λJ H1=>∀D H2,H1 D=none→Same H1 H2→H2 D=some (.lst [])→∃W:Nat→Nat→Hp→Prop,(∃m,W 0 m H2)∧∀i m H3,W i m H3→(J.stop i H3∧Q (.ref D) H3)∨(J.go i H3∧∃N:Hp→Prop,(∀H',N H'→∃m',m'<m∧W (i+1) m' H')∧∀x H4,J.yld i H3 x H4→g x (pick ix σ++List.replicate k none) H4 λσ5 H5=>tc σ5 H5 λb H6=>
   if b=true then te σ5 H6 (λv H7=>∃vs,H7 D=some (.lst vs)∧vs.length<sizeLine∧N (upd H7 D (.lst (vs++[v]))))else N H6)
noncomputable def Own(g:TG)(k:Nat):Prop:=∀x σ H Q,g x σ H Q→g x σ H λσ' H'=>Q σ' H'∧σ'.length=σ.length∧∀j,j<k→σ'[j]?=σ[j]?
noncomputable def OwnS(g:TGs)(k:Nat):Prop:=∀(xs:List V) (σ:St) (H:Hp) (Q:St→Hp→Prop) (σ0:St),σ.length=σ0.length→(∀j,j<k→σ[j]?=σ0[j]?)→g xs σ H Q→g xs σ H λσ' H'=>Q σ' H'∧σ'.length=σ0.length∧∀j,j<k→σ'[j]?=σ0[j]?
theorem qFS{k:Nat}:OwnS gNil k:=λxs σ H Q σ0 h1 h2 ⟨e,q⟩=>⟨e,q,h1,h2⟩
theorem q92{i k:Nat}{u:TGs}(h:k≤i)(hu:OwnS u k):OwnS (qH4 (q2B i) u) k:=λxs σ H Q σ0 h1 h2 ⟨v,r,e,q⟩=>⟨v,r,e,hu r (σ.set i (some v)) H Q σ0 (gL.trans h1) (λj hj=>by rw[cH (by lia)];exact h2 j hj) q⟩
theorem qFT{K:PySem.W.Frag}{n k:Nat}{g:TGs}(h:OwnS g k):Own (gTup K n g) k:=λx σ H Q ⟨a,xs,e1,e2,e3,q⟩=>⟨a,xs,e1,e2,e3,h xs σ H Q σ rfl (λ_ _=>rfl) q⟩
theorem y8{i k:Nat}(h:k≤i):Own (q2B i) k:=λx σ H Q q=>⟨q,gL,λj hj=>by rw[cH (by lia)]⟩
theorem qFU{P:Program}{w:World}{A:Around}{R:Result→Shared→Prop}{s:Shared}{elt tg iter:Expr}{ifs:List Expr}{sc:Scope}{pos:Pos}{it acc:Value}{env:Env}(J:Nat→Shared→Prop)
 (turn:∀n s1,J n s1→wpAny (model P w) A (pyNext it) (λr s2=>match r with
  |none=>R (.ok .next) s2
  |some v=>wpAny (model P w) A (letOwnedTupleGo tg it v) (λ_ s3=>wpAny (model P w) A (assign tg env v) (λ_ s4=>
   wpAny (model P w) A (forIn ifs true λc r=>if r=true then do let ok←isTrue c env (eval c env);pure (ForInStep.yield ok)else pure (ForInStep.yield r)) (λok s5=>
    if ok=true then wpAny (model P w) A (eval elt env) (λx s6=>wpAny (model P w) A (call (.builtin "list.append") [acc,x]) (λ_ s7=>∃m,m<n∧J m s7) (notedBy (model P w) A env λe s'=>R (.error e) s') s6) (notedBy (model P w) A env λe s'=>R (.error e) s') s5
    else ∃m,m<n∧J m s5) (notedBy (model P w) A env λe s'=>R (.error e) s') s4) (notedBy (model P w) A env λe s'=>R (.error e) s') s3) (notedBy (model P w) A env λe s'=>R (.error e) s') s2) (notedBy (model P w) A env λe s'=>R (.error e) s') s1)
 (n:Nat) (h:J n s):codeAny (model P w) A (.compLoop (.ListComp elt [⟨tg,iter,ifs,0⟩] sc pos) 0 it acc env) R s:=by(
refine codeAny_loop rfl J (λm s1 hJ=>?_) n h
show wpAny _ A ((compTurn _ 0 it acc env).onRaise (λx=>do noteFrame x env;theTreesLotGoes x)) _ _ s1
refine wpAny_noted ?_
rw[compTurn_list]
refine hG (pQ (hG (thn (turn m s1 hJ) λr s2 h2=>?_)))
cases r with
|none=>exact kL h2
|some v=>
 refine hG (thn h2 λ_ s3 h3=>hG (thn h3 λ_ s4 h4=>hG (thn h4 λok s5 h5=>?_)));cases ok with
 |false=>exact kL ⟨rfl,h5⟩
 |true=>exact hG (hG (thn h5 λx s6 h6=>hG (thn h6 λ_ s7 h7=>kL (kL ⟨rfl,h7⟩)))))
structure TurnC(ok:Cx→Prop)(P:Program)(w:World)(K:PySem.W.Frag)(tg:Expr)(J:It)(fp:List Addr)(it:Addr)(tn:Nat→Heap→Prop):Prop where
obj:∀i h,tn i h→∀b∈fp,∃o,h.get? b=some o∧∀v,o.data≠ .cell v
keep:∀i h h',tn i h→(∀b∈fp,∀o,h.get? b=some o→h'.get? b=some o)→tn i h'
item:∀(X:Cx),X.prog=P→X.w=w→X.K=K→ok X→∀(i:Nat) (pins:List (Addr×Obj)) (s:Shared) (σ:St) (H:Hp) (E:Value→Shared→Prop),Inv X pins σ H s→(∀b∈fp,FpOk X pins H b)→tn i s.heap→J.go i H→wpAny (model P w) X.A (pyNext (.ref it)) (λr s1=>∃u,r=some u∧wpAny (model P w) X.A (letOwnedTupleGo tg (.ref it) u) (λ_ s2=>∃x H',Inv X pins σ H' s2∧RelV x u∧J.yld i H x H'∧tn (i+1) s2.heap∧∀b∈fp,H' b=none) E s1) E s
done:∀(X:Cx),X.prog=P→X.w=w→X.K=K→ok X→∀(i:Nat) (pins:List (Addr×Obj)) (s:Shared) (σ:St) (H:Hp) (E:Value→Shared→Prop),Inv X pins σ H s→(∀b∈fp,FpOk X pins H b)→tn i s.heap→J.stop i H→wpAny (model P w) X.A (pyNext (.ref it)) (λr s1=>r=none∧Inv X pins σ H s1) E s
self:∀(A:Around) (i:Nat) (s:Shared) (Q:Value→Shared→Prop) (E:Value→Shared→Prop),tn i s.heap→Q (.ref it) s→wpAny (model P w) A (pyIter (.ref it)) Q E s
noncomputable def PIc(ok:Cx→Prop)(X:Cx)(tg iter:Expr)(wi:TI):Prop:=∀(pins:List (Addr×Obj)) (s:Shared) (σ:St) (H:Hp) (R:It→Hp→Prop),Inv X pins σ H s→wi σ H R→wpAny (model X.prog X.w) X.A (eval iter X.env) (λv s1=>wpAny (model X.prog X.w) X.A (pyIter v) (λitv s2=>∃(it:Addr) (fp:List Addr) (tn:Nat→Heap→Prop) (J:It) (H':Hp),itv=.ref it∧Inv X pins σ H' s2∧TurnC ok X.prog X.w X.K tg J fp it tn∧tn 0 s2.heap∧(∀b∈fp,FpOk X pins H' b)∧R J H') X.xe s1) X.xe s
theorem PI.c{X:Cx}{tg iter:Expr}{wi:TI}(h:PI X tg iter wi):PIc (λX=>X.calm=true) X tg iter wi:=λpins s σ H R I q=>thn (h pins s σ H R I q) λv s1 h1=>thn h1 λitv s2 ⟨it,fp,tn,J,H',a,b,T,r⟩=>⟨it,fp,tn,J,H',a,b,⟨T.obj,T.keep,T.item,T.done,T.self⟩,r⟩
theorem qB8{X:Cx}{elt iter tg:Expr}{ifs:List Expr}{scope:Scope}{pos cp:Pos}{wi:TI}{g:TG}{tc:TT}{te:TE}{use:Option (Value→Sem Unit)}{QQ:Value→Shared→Prop}{pins:List (Addr×Obj)}{s:Shared}{σ:St}{H:Hp}{Q:VK}(N:List Str)(ix:List Nat)(ok:Cx→Prop)(hok:∀C fp s H xe,ok (uV X N scope C fp s H xe))(hi:PIc ok X tg iter wi)
 (hg:∀C fp s H xe,PG (uV X N scope C fp s H xe) tg g) (hif:∀C fp s H xe,PIf (uV X N scope C fp s H xe) ifs tc) (he:∀C fp s H xe,PE (uV X N scope C fp s H xe) elt te)
 (hk:scope.kind=.function) (hc:∀y∈scope.names,y.2≠ .cell) (hfr:∀y∈scope.names,y.2=.free→X.env.kindOf y.1=some .cell) (hcap:q70 X.N X.env.kindOf scope.names N ix=true) (hN:ix.length≤N.length)
 (hnames:∀x∈scope.names,x.2=.local→scope.names.lookup x.1=some .local) (hown:Own g ix.length) (I:Inv X pins σ H s) (h:tLC wi g tc te ix (N.length-ix.length) σ H Q)
 (hfin:∀(C D:Addr) (H':Hp) (s':Shared) (m:Str→Option Value),s'.heap.Ns C m→FpOk X pins H' C→(∀h',Heap.SameBut C s'.heap h'→Inv X pins σ H' { s' with heap:=h' })→Q (.ref D) H'→compPost (model X.prog X.w) X.A X.xe use QQ (.ref D) C (.ok .next) s')
 (hs:∀x,foldedSetIterable iter X.env x=pure x:=by intro _;rfl):
 wpAny (model X.prog X.w) X.A (comprehension (.ListComp elt [⟨tg,iter,ifs,0⟩] scope pos) scope X.env cp (newList []) false (eval iter X.env) use) QQ X.xe s:=by(
refine wpAny_comprehension_free (use:=use) (cl:=clOf X.env scope.names []) rfl hs (q52 λy hy hyf=>I.ok.has _ (.inl (hfr y hy hyf))) hk hnames (thn (hi pins s σ H _ I h) λv s1 h1=>thn h1 λitv s2 h2=>?_)
obtain⟨it,fp,tn,J,H2,e,I2,T,st2,f2,q2⟩:=h2
subst e
refine cE (xC hc (by intro y hy;simp at hy) (λh₁ hns₁ hsb₁=>?_) hk)
dsimp only at hns₁ hsb₁ ⊢
rw[wG]at hns₁ hsb₁ ⊢
have old:∀b o,s2.heap.get? b=some o→h₁.get? b=some o:=λb o e=>hsb₁.extBut b o (mK (dL (kP e))) (hU _ (hU _ e))
have hacc:h₁.get? s2.heap.objs.size=some { cls:=.type "list",data:=.seq ([]:List Value).toArray }:=hsb₁.extBut _ _ (mK (rO _)) (hU _ (mD _ rfl))
have fob:∀b∈fp,∃o,s2.heap.get? b=some o:=λb hb=>let⟨o,e,_⟩:=T.obj _ _ st2 b hb;⟨o,e⟩
have fresh:H2 s2.heap.objs.size=none:=I2.hok.fresh (kN _)
obtain⟨W,⟨m0,w0⟩,turn⟩:=q2 s2.heap.objs.size (upd H2 s2.heap.objs.size (.lst [])) fresh (Same.upd fresh) qI
have fin:∀{pY σ' H' s'},Inv (uV X N scope (s2.heap.objs.size+1) fp s2 H2 (notedBy (model X.prog X.w) X.A (compEnvC scope (clOf X.env scope.names []) (s2.heap.objs.size+1) X.env) λe s'=>compPost (model X.prog X.w) X.A X.xe use QQ (.ref s2.heap.objs.size) (s2.heap.objs.size+1) (.error e) s')) pY σ' H' s'→Q (.ref s2.heap.objs.size) H'→compPost (model X.prog X.w) X.A X.xe use QQ (.ref s2.heap.objs.size) (s2.heap.objs.size+1) (.ok .next) s':=fun {pY σ' H' s'} J q=>by
 obtain⟨m,hm,_⟩:=id J.loc;refine hfin (s2.heap.objs.size+1) s2.heap.objs.size H' s' m hm (I2.fpOk (g4 _) J.free) (λh' sb=>?_) q;have eb:∀b o,b≠s2.heap.objs.size+1→s'.heap.get? b=some o→h'.get? b=some o:=λb o nb e=>sb.extBut b o nb e;have low:∀b o,s2.heap.get? b=some o→b≠s2.heap.objs.size+1:=λb o e=>mK (dL (kP e));have u:=J.base;have nC:H' (s2.heap.objs.size+1)=none:=J.free;refine I2.call' (ch:=fp) (s':={ s' with heap:=h' }) J.os ⟨λb o e n1 n2 n3=>eb b o (low b o e) (u.keep b o e n1 n2 n3),λb o e n1 n2 n3=>?_,u.free,λb o e n1=>?_,u.tups,u.frzs,u.tbls⟩ (λb o e=>?_) J.bare λb hb=>⟨(f2 b hb).2.2.2.1,(f2 b hb).2.1,(f2 b hb).2.2.2.2.1,(f2 b hb).2.2.2.2.2⟩
 ·obtain⟨sl,q1⟩:=u.slot b o e n1 n2 n3;exact⟨sl,eb b _ (low b o e) q1⟩
 ·obtain⟨o',q1⟩:=u.there b o e n1;exact⟨o',eb b _ (low b o e) q1⟩
 refine(J.hok b o e).stay (λc v hc q1=>eb c v ?_ q1) (λ_ q1=>q1) λ_ _ q1=>q1;rcases hc with rfl|z
 ·exact qG e nC
 exact qG z nC
have IY:Inv (uV X N scope (s2.heap.objs.size+1) fp s2 H2 (notedBy (model X.prog X.w) X.A (compEnvC scope (clOf X.env scope.names []) (s2.heap.objs.size+1) X.env) λe s'=>compPost (model X.prog X.w) X.A X.xe use QQ (.ref s2.heap.objs.size) (s2.heap.objs.size+1) (.error e) s')) [] (pick ix σ++List.replicate (N.length-ix.length) none) (upd H2 s2.heap.objs.size (.lst [])) { s2 with heap:=h₁,toks:=s2.toks+([]:List (Str×Value)).length }:=qFR I2 f2 fob hk hc hfr hcap hN hns₁ old hacc
generalize hY:uV X N scope (s2.heap.objs.size+1) fp s2 H2 (notedBy (model X.prog X.w) X.A (compEnvC scope (clOf X.env scope.names []) (s2.heap.objs.size+1) X.env) λe s'=>compPost (model X.prog X.w) X.A X.xe use QQ (.ref s2.heap.objs.size) (s2.heap.objs.size+1) (.error e) s')=Y at IY fin
have hgY:PG Y tg g:=hY▸hg _ _ _ _ _
have hifY:PIf Y ifs tc:=hY▸hif _ _ _ _ _
have heY:PE Y elt te:=hY▸he _ _ _ _ _
have hP:Y.prog=X.prog:=by rw[←hY]
have hw:Y.w=X.w:=by rw[←hY]
have hK:Y.K=X.K:=by rw[←hY]
have hcl:ok Y:=hY▸hok _ _ _ _ _
have stat:∀{H':Hp},(∀b∈fp,H' b=none)→∀b∈fp,FpOk Y [] H' b:=fun {H'} hn b hb=>by
 rw[←hY];refine⟨hn b hb,?_,λz=>?_,.inl hb,λx c e=>?_,λp hp=>(f2 b hb).2.2.2.2.2 p (gK _ (by simpa using hp))⟩
 ·obtain⟨o,e⟩:=fob b hb;exact mK (dL (kP e))
 ·rcases kM.mp (I2.stkSub b z)with z|z
  ·exact(f2 b hb).2.1 z
  exact(f2 b hb).2.2.1 z
 exact(f2 b hb).2.2.2.2.1 x c (q53 _ _ (by intro q;simp at q) e)
have loop:codeAny (model X.prog X.w) X.A (.compLoop (.ListComp elt [⟨tg,iter,ifs,0⟩] scope pos) 0 (.ref it) (.ref s2.heap.objs.size) (compEnvC scope (clOf X.env scope.names []) (s2.heap.objs.size+1) X.env))
 (compPost (model X.prog X.w) X.A X.xe use QQ (.ref s2.heap.objs.size) (s2.heap.objs.size+1)) { s2 with heap:=h₁,toks:=s2.toks+([]:List (Str×Value)).length }:=by
 refine qFU (λn s'=>∃i H',Inv Y [] (pick ix σ++List.replicate (N.length-ix.length) none) H' s'∧tn i s'.heap∧(∀b∈fp,H' b=none)∧W i n H') ?_ m0
  ⟨0,_,IY,T.keep _ _ _ st2 (λb hb o e=>old b o e),λb hb=>by obtain⟨o,e⟩:=fob b hb;rw[qC (mK (kP e))];exact(f2 b hb).1,w0⟩
 rintro n s3 ⟨i,H3,I3,st3,fr3,w3⟩
 rcases turn i n H3 w3 with⟨stop,qn⟩|⟨go,NN,hNN,step⟩
 ·have d:=T.done Y hP hw hK hcl i [] s3 _ H3 Y.xe I3 (stat fr3) st3 stop;subst hY;refine thn d λr s4 hZ=>?_;obtain⟨hr,I4⟩:=hZ;subst hr;exact fin I4 qn
 have d:=T.item Y hP hw hK hcl i [] s3 _ H3 Y.xe I3 (stat fr3) st3 go;have again:∀{p5:List (Addr×Obj)} {s5 s8:Shared} {σ6:St} {H8:Hp},p5=q4T fp s5.heap→tn (i+1) s5.heap→σ6.length=(pick ix σ++List.replicate (N.length-ix.length) none).length→(∀j,j<ix.length→σ6[j]?=(pick ix σ++List.replicate (N.length-ix.length) none)[j]?)→Inv Y ([]++p5) σ6 H8 s8→NN H8→∃m',m'<n∧∃i H',Inv Y [] (pick ix σ++List.replicate (N.length-ix.length) none) H' s8∧tn i s8.heap∧(∀b∈fp,H' b=none)∧W i m' H':=fun {p5 s5 s8 σ6 H8} e5 st5 l6 k6 I8 q8=>by
  subst e5;obtain⟨m',hm,w8⟩:=hNN _ q8;refine⟨m',hm,i+1,H8,I8.unpinned.weak l6.symm (λj v e=>?_),T.keep _ _ _ st5 λb hb o e=>(I8.pin (b,o) (kQ _ (kQ _ (yC hb e)))).1,λb hb=>?_,w8⟩
  ·by_cases hj:j<ix.length
   ·rw[k6 j hj];exact e
   rw[dJ (by simpa[pick]using hj),wH]at e;split at e<;>cases e
  obtain⟨o,e,_⟩:=T.obj _ _ st5 b hb;exact(I8.pin (b,o) (kQ _ (kQ _ (yC hb e)))).2.1
 have tail:∀(r:Option Value) (s4:Shared),(∃u,r=some u∧wpAny (model Y.prog Y.w) Y.A (letOwnedTupleGo tg (.ref it) u) (λ_ s2=>∃x H',Inv Y [] (pick ix σ++List.replicate (N.length-ix.length) none) H' s2∧RelV x u∧J.yld i H3 x H'∧tn (i+1) s2.heap∧∀b∈fp,H' b=none) Y.xe s4)→(match r with
  |none=>compPost (model X.prog X.w) X.A X.xe use QQ (.ref s2.heap.objs.size) (s2.heap.objs.size+1) (.ok .next) s4
  |some v=>wpAny (model Y.prog Y.w) Y.A (letOwnedTupleGo tg (.ref it) v) (λ_ s₁=>wpAny (model Y.prog Y.w) Y.A (assign tg Y.env v) (λ_ s₂=>
   wpAny (model Y.prog Y.w) Y.A (forIn ifs true λc r=>if r=true then do let ok←isTrue c Y.env (eval c Y.env);pure (ForInStep.yield ok)else pure (ForInStep.yield r)) (λok s₃=>
    if ok=true then wpAny (model Y.prog Y.w) Y.A (eval elt Y.env) (λx s₄=>wpAny (model Y.prog Y.w) Y.A (call (.builtin "list.append") [.ref s2.heap.objs.size,x]) (λ_ s₅=>∃m,m<n∧∃i H',Inv Y [] (pick ix σ++List.replicate (N.length-ix.length) none) H' s₅∧tn i s₅.heap∧(∀b∈fp,H' b=none)∧W i m H') Y.xe s₄) Y.xe s₃
    else ∃m,m<n∧∃i H',Inv Y [] (pick ix σ++List.replicate (N.length-ix.length) none) H' s₃∧tn i s₃.heap∧(∀b∈fp,H' b=none)∧W i m H') Y.xe s₂) Y.xe s₁) Y.xe s4):=by
  rintro r s4 ⟨u,rfl,h4⟩
  dsimp only;refine thn h4 λ_ s5 hZ=>?_;obtain⟨x,H5,I5,r5,y5,st5,fr5⟩:=hZ;have I5':=I5.pinned (stat fr5) (T.obj _ _ st5);refine thn (hgY _ s5 _ H5 x u _ I5' r5 (hown _ _ _ _ (step x H5 y5))) λ_ s6 hZ=>?_;obtain⟨σ6,H6,I6,q6,l6,k6⟩:=hZ;refine thn (hifY _ s6 σ6 H6 _ I6 q6) λb s7 hZ=>?_;obtain⟨H7,I7,q7⟩:=hZ;cases b with
  |false=>rw[kF (by decide)]at q7 ⊢;exact again rfl st5 l6 k6 I7 q7
  |true=>rw[kI rfl]at q7 ⊢;refine thn (heY _ s7 σ6 H7 _ I7 q7) λy s8 hZ=>?_;obtain⟨v,H8,I8,r8,vs,e8,hz,q8⟩:=hZ;refine thn (vB (X:=Y) _ s8 σ6 H8 (.ref s2.heap.objs.size) [v] (.ref s2.heap.objs.size) [y] (λ_ H9=>NN H9) I8 rfl (.cons r8 .nil) ⟨s2.heap.objs.size,vs,v,rfl,rfl,e8,hz,q8⟩) λ_ s9 hZ=>?_;obtain⟨_,H9,I9,_,q9⟩:=hZ;exact again rfl st5 l6 k6 I9 q9
 subst hY;exact thn d tail
exact codeAny_compStart_list loop (T.self X.A 0 _ _ _ (T.keep _ _ _ st2 λb hb o e=>old b o e) loop))
theorem qKE{X:Cx}{elt iter tg:Expr}{ifs:List Expr}{scope:Scope}{pos:Pos}{wi:TI}{g:TG}{tc:TT}{te:TE}(N:List Str)(ix:List Nat)(hcalm:X.calm=true)(hi:PI X tg iter wi)
 (hg:∀C fp s H xe,PG (uV X N scope C fp s H xe) tg g) (hif:∀C fp s H xe,PIf (uV X N scope C fp s H xe) ifs tc) (he:∀C fp s H xe,PE (uV X N scope C fp s H xe) elt te)
 (hk:scope.kind=.function) (hc:∀y∈scope.names,y.2≠ .cell) (hfr:∀y∈scope.names,y.2=.free→X.env.kindOf y.1=some .cell) (hcap:q70 X.N X.env.kindOf scope.names N ix=true) (hN:ix.length≤N.length)
 (hnames:∀x∈scope.names,x.2=.local→scope.names.lookup x.1=some .local) (hown:Own g ix.length) (hs:∀x,foldedSetIterable iter X.env x=pure x:=by intro _;rfl):
 PE X (.ListComp elt [⟨tg,iter,ifs,0⟩] scope pos) (tLC wi g tc te ix (N.length-ix.length)):=by intro pins s σ H Q I h;rw[eval_ListComp];exact qB8 N ix _ (λ_ _ _ _ _=>hcalm) hi.c hg hif he hk hc hfr hcap hN hnames hown I h (λC D H' s' m hm fok inv q=>⟨m,hm,λh' sb=>⟨.ref D,H',inv h' sb,rfl,q⟩⟩) hs
noncomputable def qB9(XN:List Str)(kd:Str→Option NameKind)(sc:Scope)(N:List Str)(ix:List Nat):Bool:=decide (sc.kind=.function)&&sc.names.all (λy=>decide (y.2≠ .cell)&&(decide (y.2≠ .free)||decide (kd y.1=some .cell))&&(decide (y.2≠ .local)||decide (sc.names.lookup y.1=some .local)))&&q70 XN kd sc.names N ix&&decide (ix.length≤N.length)
theorem yY{X:Cx}{elt iter tg:Expr}{ifs:List Expr}{scope:Scope}{pos:Pos}{wi:TI}{g:TG}{tc:TT}{te:TE}(N:List Str)(ix:List Nat)(hcalm:X.calm=true)(hi:PI X tg iter wi)
 (hg:∀C fp s H xe,PG (uV X N scope C fp s H xe) tg g) (hif:∀C fp s H xe,PIf (uV X N scope C fp s H xe) ifs tc) (he:∀C fp s H xe,PE (uV X N scope C fp s H xe) elt te)
 (ok:qB9 X.N X.env.kindOf scope N ix=true) (hown:Own g ix.length) (hs:∀x,foldedSetIterable iter X.env x=pure x:=by intro _;rfl):
 PE X (.ListComp elt [⟨tg,iter,ifs,0⟩] scope pos) (tLC wi g tc te ix (N.length-ix.length)):=by(
unfold qB9 at ok
rw[mR,mR,mR,dY]at ok
obtain⟨⟨⟨h1,h2⟩,h3⟩,h4⟩:=ok
have h2':∀y∈scope.names,y.2≠ .cell∧(y.2≠ .free∨X.env.kindOf y.1=some .cell)∧(y.2≠ .local∨scope.names.lookup y.1=some .local):=λy hy=>by have q:=h2 y hy;rw[mR,mR,wT,wT,kW,kW,kW,kW,kW]at q;exact⟨q.1.1,q.1.2,q.2⟩
exact qKE N ix hcalm hi hg hif he (mV h1) (λy hy=>(h2' y hy).1) (λy hy e=>(h2' y hy).2.1.resolve_left (λz=>z e)) h3 (mV h4) (λy hy e=>(h2' y hy).2.2.resolve_left (λz=>z e)) hown hs)
theorem qDW{lo:Int}{n:Nat}{D:Addr}{H2:Hp}{g:TG}{tc:TT}{te:TE}{σ0:St}{Q:VK}(Pv:Nat→Hp→Prop)(h0:Pv 0 H2)
 (hs:∀(i:Nat) H,i<n→Pv i H→g (.int (lo+i)) σ0 H λσ5 H5=>tc σ5 H5 λb H6=>if b=true then te σ5 H6 (λv H7=>∃vs,H7 D=some (.lst vs)∧vs.length<sizeLine∧Pv (i+1) (upd H7 D (.lst (vs++[v]))))else Pv (i+1) H6) (hd:∀H,Pv n H→Q (.ref D) H):
 ∃W:Nat→Nat→Hp→Prop,(∃m,W 0 m H2)∧∀i m H3,W i m H3→((Itr lo n).stop i H3∧Q (.ref D) H3)∨((Itr lo n).go i H3∧∃N:Hp→Prop,(∀H',N H'→∃m',m'<m∧W (i+1) m' H')∧∀x H4,(Itr lo n).yld i H3 x H4→g x σ0 H4 λσ5 H5=>tc σ5 H5 λb H6=>
   if b=true then te σ5 H6 (λv H7=>∃vs,H7 D=some (.lst vs)∧vs.length<sizeLine∧N (upd H7 D (.lst (vs++[v]))))else N H6):=by(
refine⟨λi m H=>m=n-i∧i≤n∧Pv i H,⟨n,by simp,mM _,h0⟩,?_⟩
rintro i m H ⟨rfl,hi,p⟩
by_cases hlt:i<n
·refine .inr ⟨hlt,Pv (i+1),λH' z=>⟨n-(i+1),by lia,rfl,by lia,z⟩,?_⟩;rintro x H4 ⟨rfl,rfl⟩
 exact hs i _ hlt p
obtain rfl:i=n:=by lia
exact .inl ⟨kN _,hd _ p⟩)
theorem qBA{K:PySem.W.Frag}{a:Addr}{xs:List V}{D:Addr}{H2:Hp}{g:TG}{tc:TT}{te:TE}{σ0:St}{Q:VK}(Pv:Nat→Hp→Prop)(h0:Pv 0 H2)(hl:∀i H,Pv i H→SqL K H a xs)
 (hs:∀(i:Nat) x H,xs[i]?=some x→Pv i H→g x σ0 H λσ5 H5=>tc σ5 H5 λb H6=>if b=true then te σ5 H6 (λv H7=>∃vs,H7 D=some (.lst vs)∧vs.length<sizeLine∧Pv (i+1) (upd H7 D (.lst (vs++[v]))))else Pv (i+1) H6) (hd:∀H,Pv xs.length H→Q (.ref D) H):
 ∃W:Nat→Nat→Hp→Prop,(∃m,W 0 m H2)∧∀i m H3,W i m H3→((Itl K a).stop i H3∧Q (.ref D) H3)∨((Itl K a).go i H3∧∃N:Hp→Prop,(∀H',N H'→∃m',m'<m∧W (i+1) m' H')∧∀x H4,(Itl K a).yld i H3 x H4→g x σ0 H4 λσ5 H5=>tc σ5 H5 λb H6=>
   if b=true then te σ5 H6 (λv H7=>∃vs,H7 D=some (.lst vs)∧vs.length<sizeLine∧N (upd H7 D (.lst (vs++[v]))))else N H6):=by(
refine⟨λi m H=>m=xs.length-i∧i≤xs.length∧Pv i H,⟨xs.length,by simp,mM _,h0⟩,?_⟩
rintro i m H ⟨rfl,hi,p⟩
have hq:=hl i H p
by_cases hlt:i<xs.length
·have e1:xs[i]?=some xs[i]:=hX hlt;refine .inr ⟨⟨xs,_,hq,e1⟩,Pv (i+1),λH' z=>⟨xs.length-(i+1),by lia,rfl,by lia,z⟩,?_⟩;rintro x H4 ⟨rfl,hx⟩
 exact hs i x _ (hx xs hq) p
obtain rfl:i=xs.length:=by lia
exact .inl ⟨⟨xs,hq,kN _⟩,hd _ p⟩)
theorem qDX{K:PySem.W.Frag}{a:Addr}{xs:List V}{k:Nat}{D:Addr}{H2:Hp}{te:TE}{σ0:St}{Q:VK}(Pv:Nat→Hp→Prop)(h0:Pv 0 H2)(hl:∀i H,Pv i H→SqL K H a xs)
 (hs:∀(i:Nat) x H,xs[i]?=some x→Pv i H→te (σ0.set k (some x)) H (λv H7=>∃vs,H7 D=some (.lst vs)∧vs.length<sizeLine∧Pv (i+1) (upd H7 D (.lst (vs++[v]))))) (hd:∀H,Pv xs.length H→Q (.ref D) H):
 ∃W:Nat→Nat→Hp→Prop,(∃m,W 0 m H2)∧∀i m H3,W i m H3→((Itl K a).stop i H3∧Q (.ref D) H3)∨((Itl K a).go i H3∧∃N:Hp→Prop,(∀H',N H'→∃m',m'<m∧W (i+1) m' H')∧∀x H4,(Itl K a).yld i H3 x H4→q2B k x σ0 H4 λσ5 H5=>q91 σ5 H5 λb H6=>if b=true then te σ5 H6 (λv H7=>∃vs,H7 D=some (.lst vs)∧vs.length<sizeLine∧N (upd H7 D (.lst (vs++[v]))))else N H6):=qBA (g:=q2B k) (tc:=q91) Pv h0 hl (λi x H hx p=>qDV (σ:=σ0.set k (some x)) (A:=λH6=>te (σ0.set k (some x)) H6 _) (B:=λH6=>Pv (i+1) H6) (hs i x H hx p)) hd
noncomputable def rEmp(K:PySem.W.Frag):R2:=λx y H Q=>∃p xs e,x=.ref p∧y=.ref e∧SqL K H p xs∧SqL K H e []∧Q (.bl (decide (xs=[]))) H
theorem qA9{X:Cx}(hu:X.A.units+64<cLine):OpR X (compareOp .Eq) (rEmp X.K):=by(
intro pins s σ H x y v u Q I rx ry hZ
obtain⟨p,xs,e,ex,ey,hp,he,q⟩:=hZ
subst ex ey
cases rx
cases ry
obtain⟨i1,r1,p1,_⟩:=I.list hp
obtain⟨i2,r2,p2,_⟩:=I.list he
have l1:=r1.length
have l2:=r2.length
cases xs with
|nil=>exact SeqAt.eq_listAt (e:=λ_=>true) p1.isList p2.isList (by simp at l1 l2 ⊢;lia) (by lia) (λj h1 h2=>by simp at l1 h1;lia) ⟨.bl true,H,I,by rw[zR];rfl,q⟩
|cons z zs=>exact SeqAt.eq_list_lengthsAt p1.isList p2.isList (by simp at l1 l2 ⊢;lia) (by lia) ⟨.bl false,H,I,rfl,q⟩)
section
variable{X:Cx}{o e f:Expr}{apos cpos:Pos}{td ty tx:TE}
theorem qHB{P:Program}{w:World}{k:Key}{u:Value}(h:(jW P w).is k u=true):RelV (kV k) u:=by(
cases k with
|inl i=>exact aA h
|inr x=>exact xI h)
theorem q71{α β:Type}{F:α→β→Prop}:∀{l₁:List α} {l₂:List β},l₁.length=l₂.length→(∀(j:Nat) a b,l₁[j]?=some a→l₂[j]?=some b→F a b)→Paired F l₁ l₂
| [],[],_,_=>.nil
|a::l,b::l',h,k=>.cons (k 0 a b rfl rfl) (q71 (by simpa using h) λj x y hx hy=>k (j+1) x y (by simpa using hx) (by simpa using hy))
| [],_::_,h,_=>by simp at h
|_::_,[],h,_=>by simp at h
end
theorem q4J:∀{ns:List Int} {vs:List Value},Vals (ns.map V.int) vs→IntsAre vs ns
| [],_,.nil=>.nil
|n::ns,_,.cons h t=>by obtain⟨t0,rfl⟩:=h;exact .cons n t0 (q4J t)
section
variable{X:Cx}
theorem q08:∀{vs:List Value} {ns:List Int},IntsAre vs ns→Vals (ns.map V.int) vs
|_,_,.nil=>.nil
|_,_,.cons n t h=>.cons ⟨t,rfl⟩ (q08 h)
theorem q7L:q0T X (.builtin "sorted") (λxs H Q=>∃(p:Addr) (ns:List Int),xs=[.ref p]∧SqL X.K H p (ns.map V.int)∧ns.length<64∧∀ns':List Int,ns'.Perm ns→ns'.Pairwise (·≤·)→NewO H (.lst (ns'.map V.int)) Q):=by(
intro pins s σ H xs us Q I r hZ
obtain⟨p,ns,ex,hq,h64,q⟩:=hZ
subst ex
obtain⟨u,rfl,rx⟩:=zQ r
cases rx
obtain⟨its,rv,pl,hz⟩:=I.list hq
have hi:=q4J rv
have hlen:its.length<64:=by rw[←rv.length,h9];exact h64
refine sorted_ints pl.isList hi hlen λout ns' a1 a2 a3=>?_
obtain⟨e,he⟩:=sortedAll_at s.heap its out
have hz':(ns'.map V.int).length≤sizeLine:=by rw[h9,a2.length_eq,gJ];lia
exact⟨.ref (s.heap.objs.size+1),_,I.laid (t':=s.toks) (λ_ _ h=>sortedAll_old h) (g4 _) (show jA X.prog X.w _ _ _ (.lst _)from⟨hz',out.toList,e,q08 a1,by simpa[seqObj]using he⟩),rfl,(q ns' a2 a3).at _ (I.hok.fresh (g4 _))⟩)
end
structure Mk0(K:PySem.W.Frag)(C:Addr):Prop where
makes:PySem.W.makesIn K C=true
init:PySem.W.findIn K (.ref C) "__init__"=some (some (.builtin "object.__init__"))
kp:PySem.W.keepIn K (.ref C)=true
section
variable{X:Cx}{C:Addr}{x:Str}{p pos:Pos}
noncomputable def tMk0(C:Addr):TE:=λσ H Q=>∀x dx,H x=none→H dx=none→dx≠x→Q (.ref x) (upd (upd H dx (.own x)) x (.ins C dx []))
theorem qDY{pins:List (Addr×Obj)}{σ:St}{H:Hp}{s:Shared}{Q:VK}(M:Mk0 X.K C)(I:Inv X pins σ H s)(h:tMk0 C σ H Q):wpAny (model X.prog X.w) X.A (call (.ref C) []) (EP X pins σ Q) X.xe s:=by(
have hq:=h (s.heap.objs.size+1) s.heap.objs.size (I.hok.fresh (g4 _)) (I.hok.fresh (kN _)) (mK (rO _))
have I2:=Inv.made (C:=C) I
have kin:=I.kIn
obtain⟨hp,g,d,t,os⟩:=s
have Y:=aU (M:=model X.prog X.w) kin M.makes
have hx:((hp.push PySem.W.emptyDict).push (PySem.W.instObj C hp.objs.size)).get? (hp.objs.size+1)=some (PySem.W.instObj C hp.objs.size):=by have:=mD (hp.push PySem.W.emptyDict) (o:=PySem.W.instObj C hp.objs.size) rfl;rwa [wG]at this
have ty:PySem.W.Looks (model X.prog X.w) ((hp.push PySem.W.emptyDict).push (PySem.W.instObj C hp.objs.size)) (typeOf (.ref (hp.objs.size+1))) (.ref C):=(aV hx).andThen .now
have top:PySem.W.Looks (model X.prog X.w) ((hp.push PySem.W.emptyDict).push (PySem.W.instObj C hp.objs.size)) (isInstance (.ref (hp.objs.size+1)) (.type "object")) true:=ty.andThen (Y.top.keeps λb o e=>hU _ (hU _ e))
refine cJ (aD Y (cI kin M.init) (λself=>eO (PySem.W.oi_bind self)) (.inr ⟨rfl,rfl⟩) ?_)
refine cM PySem.W.oi_plain PySem.W.entry_oi (@xY (model X.prog X.w) _ _ _ "object.__init__" "object" "__init__" (.ref (hp.objs.size+1)) [] [] _ PySem.W.oi_kind PySem.W.oi_split top (PySem.W.oi_args (.ref (hp.objs.size+1))) ?_)
rw[PySem.W.oi_run]
exact kL ⟨rfl,⟨.ref (hp.objs.size+1),_,I2,rfl,hq⟩⟩)
theorem qIU(M:Mk0 X.K C)(hg:Gl X x)(hm:X.mg x=some (.ref C))(hdb:(x==("__debug__":Str))=false:=by decide):PE X (.Call (.Name x p) [] [] pos) (tMk0 C):=by intro pins s σ H Q I h;exact dE (q1T I hg hm (p7 I.kIn M.kp (qDY M I h)) hdb)
end
section
variable{X:Cx}{pins:List (Addr×Obj)}{σ:St}{H:Hp}{s:Shared}{a:Addr}
theorem Inv.freeze{kvs:List (Key×V)}{o:Obj}(I:Inv X pins σ H s)(e:H a=some (.dK kvs))(ho:s.heap.get? a=some o):Inv X pins σ (upd H a (.frz o (.dK kvs))) s:=by(
have ne:∀b u,H b=some u→u≠ .dK kvs→b≠a:=λb u q n z=>by rw[z,e]at q;exact n (kU q).symm
have nn:∀b,H b=none→b≠a:=λb q z=>by rw[z,e]at q;cases q
refine⟨I.ok,I.os,I.bare,I.base.trans ⟨λb u q _ _ _=>q,λb u q _ _ _=>⟨u.slots,q⟩,λb u q n _=>by rw[qC (nn b n)];exact n,λb u q _=>⟨u,q⟩,λb xs q=>by rw[qC (ne b _ q (by intro z;cases z))];exact q,λb u v q=>by rw[qC (ne b _ q (by intro z;cases z))];exact q,λb ps q=>⟨#[],by rw[qC (ne b _ q (by intro z;cases z)),q];simp⟩⟩,I.loc,I.cell,by rw[qC (nn _ I.free)];exact I.free,λx c q=>by rw[qC (nn _ (I.freeC x c q))];exact I.freeC x c q,λp hp=>?_,λb u q=>?_,I.len⟩
·obtain⟨q1,q2,q3⟩:=I.pin p hp;exact⟨q1,by rw[qC (nn _ q2)];exact q2,q3⟩
have st:∀b u,jA X.prog X.w H s.heap b u→jA X.prog X.w (upd H a (.frz o (.dK kvs))) s.heap b u:=λb u q=>q.stay (λ_ _ _ z=>z) (λc z=>by rw[qC (ne c _ z (by intro z;cases z))];exact z) (λc xs z=>by rw[qC (ne c _ z (by intro z;cases z))];exact z)
by_cases hb:b=a
·subst hb;rw[qI]at q;cases q;exact⟨ho,st b _ (I.hok b _ e)⟩
rw[qC hb]at q
exact st b u (I.hok b u q))
theorem Inv.thaw{o:Obj}{u:HO}(I:Inv X pins σ H s)(hne:∀o u,X.H₀ a≠some (.frz o u))(e:H a=some (.frz o u)):Inv X pins σ (upd H a u) s:=by(
have ne:∀b v,H b=some v→v≠ .frz o u→b≠a:=λb v q n z=>by rw[z,e]at q;exact n (kU q).symm
have nn:∀b,H b=none→b≠a:=λb q z=>by rw[z,e]at q;cases q
have nf:∀b v,X.H₀ b=some v→(∃o' u',v=.frz o' u')→b≠a:=λb v q ⟨o',u',z⟩ w=>by rw[w,z]at q;exact hne o' u' q
refine⟨I.ok,I.os,I.bare,⟨I.base.keep,I.base.slot,λb v q n hx=>?_,I.base.there,λb xs q=>?_,λb v w q=>?_,λb ps q=>?_⟩,I.loc,I.cell,by rw[qC (nn _ I.free)];exact I.free,λx c q=>by rw[qC (nn _ (I.freeC x c q))];exact I.freeC x c q,λp hp=>?_,λb v q=>?_,I.len⟩
·have:=I.base.free b v q n hx;rw[qC (nn b this)];exact this
·have:=I.base.tups b xs q;rw[qC (ne b _ this (by intro z;cases z))];exact this
·rw[qC (nf b _ q ⟨_,_,rfl⟩)];exact I.base.frzs b v w q
·obtain⟨more,q2⟩:=I.base.tbls b ps q;exact⟨more,by rw[qC (ne b _ q2 (by intro z;cases z))];exact q2⟩
·obtain⟨q1,q2,q3⟩:=I.pin p hp;exact⟨q1,by rw[qC (nn _ q2)];exact q2,q3⟩
have st:∀b v,jA X.prog X.w H s.heap b v→jA X.prog X.w (upd H a u) s.heap b v:=λb v q=>q.stay (λ_ _ _ z=>z) (λc z=>by rw[qC (ne c _ z (by intro z;cases z))];exact z) (λc xs z=>by rw[qC (ne c _ z (by intro z;cases z))];exact z)
by_cases hb:b=a
·subst hb;rw[qI]at q;cases q;exact st b _ (I.hok b _ e).2
rw[qC hb]at q
exact st b v (I.hok b v q))
end
noncomputable def Itd(a:Addr)(o:Obj)(kvs:List (Key×V)):It:=⟨λi H=>H a=some (.frz o (.dK kvs))∧i<kvs.length,λi H x H'=>H'=H∧∃kv,kvs[i]?=some kv∧x=kV kv.1,λi H=>H a=some (.frz o (.dK kvs))∧kvs.length≤i⟩
theorem qCD{P:Program}{w:World}{K:PySem.W.Frag}{tg:Expr}(a it:Addr)(o:Obj){kvs:List (Key×V)}{vs:List (Key×Value)}{ep:Nat}(rel:KV kvs vs)(hD:∀h:Heap,h.get? a=some o→h.DictAt (jW P w) a vs ep):
 Turn P w K tg (Itd a o kvs) [it] it (λi h=>h.IsKeyIter it a i vs.length ep) where
mem:=by simp
obj:=λi h st b hb=>by
 have e:b=it:=by simpa using hb
 subst e;obtain⟨o',e,c,d⟩:=st;exact⟨o',e,λv z=>by rw[d]at z;cases z⟩
keep:=λi h h' st k=>st.at λo e=>k it (by simp) o e
item:=by
 intro X hP hw hK hc i pins s σ H E I hf st hg;subst hP hw hK;obtain⟨ha,hi⟩:=hg;obtain⟨ho,_⟩:=I.hok a _ ha;have hl:=rel.length;have hi':i<vs.length:=by lia
 obtain⟨f0,f1,f2,f3,f4,f5⟩:=hf it (by simp);refine wpAny_pyNext_dict_item (k:=vs[i].1) (v:=vs[i].2) st (hD _ ho) (hX hi') λkey h' hk st' sb=>?_;have I1:Inv X pins σ H { s with heap:=h' }:=I.turned (t':=s.toks) (λb o hb e=>(sb.2 b hb).trans e) f0 f1 f3 f4 f5;obtain⟨o',e',c',d'⟩:=id st';refine⟨key,rfl,qCX (s:={ s with heap:=h' }) e' c' d' (by decide) ⟨kV kvs[i].1,H,I1,?_,⟨rfl,kvs[i],hX hi,rfl⟩,st',λb hb=>(hf b hb).1⟩⟩;have ek:=rK (λl=>l[i]?) rel.keys;simp only[mG,hX hi,hX hi',bC]at ek;rw[kU ek];exact qHB hk
done:=by intro X hP hw hK hc i pins s σ H E I hf st hg;subst hP hw hK;obtain⟨ha,hi⟩:=hg;obtain⟨ho,_⟩:=I.hok a _ ha;have hl:=rel.length;obtain⟨f0,f1,f2,f3,f4,f5⟩:=hf it (by simp);exact wpAny_pyNext_dict_end (I.ok.hd hc) st (hD _ ho) (rR (by lia)) λh' eb=>⟨rfl,I.turned (t':=s.toks) (λb o hb e=>eb b o hb e) f0 f1 f3 f4 f5⟩
self:=λ_ _ _ _ _ st h=>wpAny_pyIter_keyiter st h
section
variable{X:Cx}{tg:Expr}
noncomputable def iDct(td:TE):TI:=λσ H R=>td σ H λx H1=>∃a kvs,x=.ref a∧H1 a=some (.dK kvs)∧∀o,R (Itd a o kvs) (upd H1 a (.frz o (.dK kvs)))
theorem qFV{d:Expr}{td:TE}(hd:PE X d td):PI X tg d (iDct td):=by(
intro pins s σ H R I h
refine thn (hd pins s σ H _ I h) λv s1 hZ=>?_
obtain⟨x,H1,I1,r1,q1⟩:=hZ
obtain⟨a,kvs,e,ha,q⟩:=q1
subst e
cases r1
obtain⟨z,lo,vs,rel,dd⟩:=q8R I1.hok ha
obtain⟨ep,hat⟩:=dd.dictAt
obtain⟨o,es,ho,hr⟩:=id hat
have I2:=I1.freeze ha ho
refine wpAny_pyIter_dict lo hat ?_
refine⟨s1.heap.objs.size,[s1.heap.objs.size],_,_,_,rfl,I2.kept (t':=s1.toks) λb o e=>hU _ e,qCD a _ o rel (λh' h=>⟨o,es,h,hr⟩),⟨_,mD _ rfl,rfl,rfl⟩,λb hb=>?_,q o⟩
have e:b=s1.heap.objs.size:=by simpa using hb
subst e
exact I2.fpOk (kN _) (I2.hok.fresh (kN _)))
theorem qIV{pins:List (Addr×Obj)}{σ:St}{H:Hp}{s:Shared}{a:Addr}{kvs:List (Key×V)}(I:Inv X pins σ H s)(e:H a=some (.dK kvs)):∀o u,X.H₀ a≠some (.frz o u):=λo u q=>by have:=I.base.frzs a o u q;rw[e]at this;cases this
noncomputable def qKF(t:TE):TE:=λσ H Q=>∃a kvs,H a=some (.dK kvs)∧t σ H λv H'=>∃o u,H' a=some (.frz o u)∧Q v (upd H' a u)
theorem qBB{e:Expr}{t:TE}(h:PE X e t):PE X e (qKF t):=by(
intro pins s σ H Q I hZ
obtain⟨a,kvs,ha,q⟩:=hZ
have nf:=qIV I ha
refine thn (h pins s σ H _ I q) λu s' ⟨v,H',I',r,o,w,e,q⟩=>⟨v,_,I'.thaw nf e,r,q⟩)
theorem qFW{a:Addr}{o:Obj}{kvs:List (Key×V)}{D:Addr}{H2:Hp}{g:TG}{tc:TT}{te:TE}{σ0:St}{Q:VK}(Pv:Nat→Hp→Prop)(h0:Pv 0 H2)(hl:∀i H,Pv i H→H a=some (.frz o (.dK kvs)))
 (hs:∀(i:Nat) kv H,kvs[i]?=some kv→Pv i H→g (kV kv.1) σ0 H λσ5 H5=>tc σ5 H5 λb H6=>if b=true then te σ5 H6 (λv H7=>∃vs,H7 D=some (.lst vs)∧vs.length<sizeLine∧Pv (i+1) (upd H7 D (.lst (vs++[v]))))else Pv (i+1) H6) (hd:∀H,Pv kvs.length H→Q (.ref D) H):
 ∃W:Nat→Nat→Hp→Prop,(∃m,W 0 m H2)∧∀i m H3,W i m H3→((Itd a o kvs).stop i H3∧Q (.ref D) H3)∨((Itd a o kvs).go i H3∧∃N:Hp→Prop,(∀H',N H'→∃m',m'<m∧W (i+1) m' H')∧∀x H4,(Itd a o kvs).yld i H3 x H4→g x σ0 H4 λσ5 H5=>tc σ5 H5 λb H6=>
   if b=true then te σ5 H6 (λv H7=>∃vs,H7 D=some (.lst vs)∧vs.length<sizeLine∧N (upd H7 D (.lst (vs++[v]))))else N H6):=by(
refine⟨λi m H=>m=kvs.length-i∧i≤kvs.length∧Pv i H,⟨kvs.length,by simp,mM _,h0⟩,?_⟩
rintro i m H ⟨rfl,hi,p⟩
have q:=hl i H p
by_cases hlt:i<kvs.length
·refine .inr ⟨⟨q,hlt⟩,Pv (i+1),λH' z=>⟨kvs.length-(i+1),by lia,rfl,by lia,z⟩,?_⟩;rintro v H' ⟨rfl,kv,hk,rfl⟩
 exact hs i kv _ hk p
obtain rfl:i=kvs.length:=by lia
exact .inl ⟨⟨q,kN _⟩,hd _ p⟩)
end
section
variable{X:Cx}
theorem q93{ns:List Int}{us:List Value}(r:Vals (ns.map V.int) us){j:Nat}(h:j<us.length):∃t,us[j]=.int (ns.getD j 0) t:=by(
obtain⟨x,e,q⟩:=r.atN h
rw[mG]at e
cases z:ns[j]? with
|none=>rw[z]at e;cases e
|some i=>rw[z]at e;obtain rfl:V.int i=x:=kU e;obtain⟨t,q⟩:=q;refine⟨t,?_⟩;rw[kJ,z];exact q)
theorem qDZ{ns ms:List Int}(h:ns.length=ms.length):(List.range ns.length).all (λj=>ns.getD j 0==ms.getD j 0)=decide (ns=ms):=by(
rw[rX,dY,kW]
constructor
·intro z;refine wI h λj h1 h2=>?_;have:=z j (mQ.mpr h1);rw[wA,kJ,kJ,hX h1,hX h2]at this;exact this
rintro rfl j _
exact beq_self_eq_true _)
noncomputable def qKG(K:PySem.W.Frag):R2:=λx y H Q=>∃(a b:Addr) (ns ms:List Int),x=.ref a∧y=.ref b∧SqT K H a (ns.map V.int)∧SqT K H b (ms.map V.int)∧ns.length=ms.length∧Q (.bl (!decide (ns=ms))) H
theorem qFX(hu:X.A.units+64<cLine):OpR X (compareOp .NotEq) (qKG X.K):=by(
intro pins s σ H x y v u Q I rx ry h
obtain⟨a,b,ns,ms,rfl,rfl,ha,hb,hl,q⟩:=h
cases rx
cases ry
obtain⟨i1,r1,p1,_⟩:=I.tuple ha
obtain⟨i2,r2,p2,_⟩:=I.tuple hb
have l1:=r1.length
have l2:=r2.length
rw[h9]at l1 l2
refine xK (e:=λj=>ns.getD j 0==ms.getD j 0) (show s.heap.IsTuple a i1.toArray from p1) (show s.heap.IsTuple b i2.toArray from p2) (by lia) (λj h1 h2=>?_) _ _ _ _ ⟨.bl _,H,I,?_,q⟩
·obtain⟨t1,e1⟩:=q93 r1 (j:=j) (by simpa using h1);obtain⟨t2,e2⟩:=q93 r2 (j:=j) (by simpa using h2);have z:=sK (A:=X.A.in1) (s:=s) (ns.getD j 0) t1 (ms.getD j 0) t2;rw[←e1,←e2]at z;simpa using z
rw[show min i1.toArray.size i2.toArray.size=ns.length by simp;lia,qDZ hl,show(i1.toArray.size==i2.toArray.size)=true by simp;lia,Bool.and_true]
rfl)
end
end L2
namespace W1
open PySem L2
structure Tl where
b:Int
lv:Int
cl:Int
bo:Int
noncomputable abbrev Tl.ns(T:Tl):List Int:=[T.b,T.lv,T.cl,T.bo]
noncomputable def TlAt(H:Hp)(v:V)(T:Tl):Prop:=∃a,v=.ref a∧H a=some (.tup (T.ns.map V.int))
theorem TlAt.same{H H':Hp}{v:V}{T:Tl}(s:Same H H')(h:TlAt H v T):TlAt H' v T:=let⟨a,e,z⟩:=h;⟨a,e,s _ _ z⟩
noncomputable abbrev Tls(H:Hp):List V→List Tl→Prop:=Paired (TlAt H)
theorem Tls.same{H H':Hp}{vs:List V}{ts:List Tl}(s:Same H H')(h:Tls H vs ts):Tls H' vs ts:=Paired.mapP h λ_ _ z=>z.same s
theorem Tl.eq_of{A B:Tl}(h:A.ns=B.ns):A=B:=by cases A;cases B;simp[Tl.ns]at h;simp[h]
structure Tl.Ok(pg nw:Int)(T:Tl):Prop where
b0:0≤T.b
b1:T.b<16
l0:0≤T.lv
l1:T.lv≤pg
c0:0≤T.cl
c1:T.cl<10 ^ 30
o0:0≤T.bo
o1:T.bo<nw
noncomputable def unb(f:Tl→Int)(ts:List Tl)(T:Tl):Bool:=ts.all λo=>!decide (f o<f T)
theorem q55(f:Tl→Int):∀ts:List Tl,ts≠[]→∃T∈ts,∀o∈ts,f T≤f o
| [],h=>absurd rfl h
| [T],_=>⟨T,kD.mpr rfl,λo ho=>by rw[kD.mp ho];exact gQ _⟩
|T::U::r,_=>by
 obtain⟨M,hm,hl⟩:=q55 f (U::r) (by simp);by_cases h:f T≤f M
 ·refine⟨T,kX ..,λo ho=>?_⟩;rcases kM.mp ho with rfl|ho
  ·exact gQ _
  have:=hl o ho;lia
 refine⟨M,kC _ hm,λo ho=>?_⟩;rcases kM.mp ho with rfl|ho
 ·lia
 exact hl o ho
theorem q4K{f:Tl→Int}{ts:List Tl}{T:Tl}:unb f ts T=true↔∀o∈ts,f T≤f o:=by(
unfold unb
rw[dY]
constructor
·intro h o ho;have:=h o ho;rw[r9,wJ]at this;lia
intro h o ho
have:=h o ho
rw[r9,wJ]
lia)
theorem q56(f:Tl→Int)(ts:List Tl)(h:ts≠[]):∃i,∃hi:i<ts.length,unb f ts ts[i]=true∧∀j,∀hj:j<i,unb f ts (ts[j]'(by lia))=false:=by(
obtain⟨T,hT,hm⟩:=q55 f ts h
obtain⟨k,hk,e⟩:=wD hT
have key:∀n,n<ts.length→(∃z:n<ts.length,unb f ts ts[n]=true)→∃i,∃hi:i<ts.length,unb f ts ts[i]=true∧∀j,∀hj:j<i,unb f ts (ts[j]'(by lia))=false:=by
 intro n;induction n using Nat.strongRecOn with
 |ind n ih=>
  intro hn hZ;obtain⟨z,hu⟩:=hZ;by_cases g:∃j,∃hj:j<n,unb f ts (ts[j]'(by lia))=true
  ·obtain⟨j,hj,u⟩:=g;exact ih j hj (by lia) ⟨by lia,u⟩
  refine⟨n,hn,hu,λj hj=>?_⟩;cases u:unb f ts (ts[j]'(by lia))with
  |false=>rfl
  |true=>exact absurd ⟨j,hj,u⟩ g
exact key k hk ⟨hk,q4K.mpr (by rw[e];exact hm)⟩)
noncomputable def pk(f:Tl→Int)(ts:List Tl):Int:=((ts.find? (unb f ts)).map Tl.b).getD 0
theorem qHC{f:Tl→Int}{ts:List Tl}{i:Nat}(hi:i<ts.length)(u:unb f ts ts[i]=true)(n:∀j,∀hj:j<i,unb f ts (ts[j]'(by lia))=false):pk f ts=ts[i].b:=by(
have e:ts.find? (unb f ts)=some ts[i]:=by rw[List.find?_eq_some_iff_getElem];exact⟨u,i,hi,rfl,λj hj=>by rw[n j hj];rfl⟩
unfold pk
rw[e]
rfl)
theorem q7M{H:Hp}{x dx C:Addr}(nx:H x=none)(nd:H dx=none):Same H (upd (upd H dx (.own x)) x (.ins C dx [])):=λb o e=>by rw[qC (qG e nx),qC (qG e nd)];exact e
end W1
namespace L2
open PySem PySem.Spec PyProof.Rows
theorem vV{X:Cx}{K:PySem.W.Frag}(e:X.K=K):IxR X (rIxT K):=by subst e;exact jX
theorem q94{X:Cx}{K:PySem.W.Frag}(e:X.K=K):IxR X (rIxL K):=by subst e;exact jK
theorem q57{X:Cx}{elt iter tg:Expr}{ifs:List Expr}{scope:Scope}{pos py spos:Pos}{wi:TI}{g:TG}{tc:TT}{te:TE}{i:Nat}{y:Str}(N:List Str)(ix:List Nat)(hcalm:X.calm=true)(hi:PI X tg iter wi)
 (hg:∀C fp s H xe,PG (uV X N scope C fp s H xe) tg g) (hif:∀C fp s H xe,PIf (uV X N scope C fp s H xe) ifs tc) (he:∀C fp s H xe,PE (uV X N scope C fp s H xe) elt te)
 (ok:qB9 X.N X.env.kindOf scope N ix=true) (hown:Own g ix.length) (hN:X.N.Nodup) (hy:X.N[i]?=some y) (hl:Loc X.env.scope y)
 (hsw:swapsWith (.ListComp elt [⟨tg,iter,ifs,0⟩] scope pos) (some (.Name y py)) spos.line X.env=pure true:=by rfl) (hf:X.fn y=true∨X.env.scope.names.lookup y=some .local:=by first|exact .inl rfl|exact .inr rfl|assumption)
 (hs:∀x,foldedSetIterable iter X.env x=pure x:=by intro _;rfl):
 PS X (.Assign [.Name y py] (.ListComp elt [⟨tg,iter,ifs,0⟩] scope pos) spos) (tAsg (tLC wi g tc te ix (N.length-ix.length)) (q2B i)):=by(
unfold qB9 at ok
rw[mR,mR,mR,dY]at ok
obtain⟨⟨⟨h1,h2⟩,h3⟩,h4⟩:=ok
have h2':∀y∈scope.names,y.2≠ .cell∧(y.2≠ .free∨X.env.kindOf y.1=some .cell)∧(y.2≠ .local∨scope.names.lookup y.1=some .local):=λy hy=>by have q:=h2 y hy;rw[mR,mR,wT,wT,kW,kW,kW,kW,kW]at q;exact⟨q.1.1,q.1.2,q.2⟩
intro pins s σ H D I h
rw[exec_Assign_Name_used _ _ _ _ hsw]
refine hG (pQ (hG ?_))
show wpAny _ X.A (do let _←comprehension (.ListComp elt [⟨tg,iter,ifs,0⟩] scope pos) scope X.env _ (newList []) false (eval iter X.env) (some (assign (.Name y py) X.env))) _ _ s
refine hG (gY (qB8 (use:=some (assign (.Name y py) X.env)) (QQ:=λ_ s'=>∃σ' H',Inv X pins σ' H' s'∧D.nx σ' H') N ix _ (λ_ _ _ _ _=>hcalm) hi.c hg hif he (mV h1) (λy hy=>(h2' y hy).1) (λy hy e=>(h2' y hy).2.1.resolve_left (λz=>z e)) h3 (mV h4) (λy hy e=>(h2' y hy).2.2.resolve_left (λz=>z e)) hown I h
 (λC Dl H' s' m hm fp inv q=>?_) hs) (λ_ s' hq=>kL (kL hq)) λ_ _ e=>e)
have I':Inv X pins σ H' s':=inv s'.heap (aK _ _)
show wpAny _ _ (assign (.Name y py) X.env (.ref Dl)) _ _ _
refine aB (q6J (v:=.ref Dl) I' hN hy hl rfl (λs'' I'' hZ=>?_) hf)
obtain⟨a,sb,ha⟩:=hZ
have aC:C≠a:=λz=>by
 rcases ha with ha|ha
 ·exact fp.2.1 (z.trans ha)
 exact fp.2.2.2.2.1 _ _ ha z.symm
refine⟨m,hm.sameBut sb aC,λh' sb'=>⟨_,H',I''.turnedN (t':=s''.toks) (fp:=[C]) (λb o hb e=>sb'.extBut b o (λz=>hb (kD.mpr z)) e) (λb hb=>by rw[kD.mp hb];exact fp),q⟩⟩)
theorem vG{K:PySem.W.Frag}{a:Addr}{xs:List V}{D:Addr}{H2:Hp}{g:TG}{tc:TT}{te:TE}{σ0:St}{R:Hp→Prop}(Pv:Nat→Hp→Prop)(h0:Pv 0 H2)(hl:∀i H,Pv i H→SqL K H a xs)
 (hs:∀(i:Nat) x H,xs[i]?=some x→Pv i H→g x σ0 H λσ5 H5=>tc σ5 H5 λb H6=>if b=true then te σ5 H6 (λv H7=>∃vs,H7 D=some (.lst vs)∧vs.length<sizeLine∧Pv (i+1) (upd H7 D (.lst (vs++[v]))))else Pv (i+1) H6) (hd:∀H,Pv xs.length H→R H):
 ∃W:Nat→Nat→Hp→Prop,(∃m,W 0 m H2)∧∀i m H3,W i m H3→((Itl K a).stop i H3∧R H3)∨((Itl K a).go i H3∧∃N:Hp→Prop,(∀H',N H'→∃m',m'<m∧W (i+1) m' H')∧∀x H4,(Itl K a).yld i H3 x H4→g x σ0 H4 λσ5 H5=>tc σ5 H5 λb H6=>if b=true then te σ5 H6 (λv H7=>∃vs,H7 D=some (.lst vs)∧vs.length<sizeLine∧N (upd H7 D (.lst (vs++[v]))))else N H6):=qBA (Q:=λ_ H=>R H) Pv h0 hl hs hd
theorem q30{K:PySem.W.Frag}{a:Addr}{xs:List V}{k:Nat}{D:Addr}{H2:Hp}{te:TE}{σ0:St}{R:Hp→Prop}(Pv:Nat→Hp→Prop)(h0:Pv 0 H2)(hl:∀i H,Pv i H→SqL K H a xs)
 (hs:∀(i:Nat) x H,xs[i]?=some x→Pv i H→te (σ0.set k (some x)) H (λv H7=>∃vs,H7 D=some (.lst vs)∧vs.length<sizeLine∧Pv (i+1) (upd H7 D (.lst (vs++[v]))))) (hd:∀H,Pv xs.length H→R H):
 ∃W:Nat→Nat→Hp→Prop,(∃m,W 0 m H2)∧∀i m H3,W i m H3→((Itl K a).stop i H3∧R H3)∨((Itl K a).go i H3∧∃N:Hp→Prop,(∀H',N H'→∃m',m'<m∧W (i+1) m' H')∧∀x H4,(Itl K a).yld i H3 x H4→q2B k x σ0 H4 λσ5 H5=>q91 σ5 H5 λb H6=>if b=true then te σ5 H6 (λv H7=>∃vs,H7 D=some (.lst vs)∧vs.length<sizeLine∧N (upd H7 D (.lst (vs++[v]))))else N H6):=qDX (Q:=λ_ H=>R H) Pv h0 hl hs hd
end L2
namespace L2
open PySem PySem.W PyProof.Rows
noncomputable def hT{α:Type}(c:Nat→Nat→Bool)(n:Nat):KasT α→(α→Prop)→Prop
| .ret a,Q=>Q a
| .ask i j k,Q=>i<n∧j<n∧hT c n (k (c i j)) Q
theorem yL{α:Type}{c:Nat→Nat→Bool}{n:Nat}{Q Q':α→Prop}(h:∀a,Q a→Q' a):∀t:KasT α,hT c n t Q→hT c n t Q'
| .ret a,q=>h a q
| .ask i j k,q=>⟨q.1,q.2.1,yL h (k (c i j)) q.2.2⟩
theorem q1X{α β:Type}{c:Nat→Nat→Bool}{n:Nat}{f:α→KasT β}{Q:β→Prop}:∀t:KasT α,hT c n t (λa=>hT c n (f a) Q)→hT c n (t.bind f) Q
| .ret a,q=>q
| .ask i j k,q=>⟨q.1,q.2.1,q1X (k (c i j)) q.2.2⟩
theorem qE0{α:Type}{c:Nat→Nat→Bool}{n:Nat}{cmp:Nat→Nat→(Bool→Shared→Prop)→Shared→Prop}{G:α→Shared→Prop}{s:Shared}(hc:∀i j C,i<n→j<n→C (c i j) s→cmp i j C s):
 ∀t:KasT α,hT c n t (λa=>G a s)→t.kasWp cmp G s
| .ret a,q=>q
| .ask i j k,q=>hc i j _ q.1 q.2.1 (qE0 hc (k (c i j)) q.2.2)
section
variable{r:Nat→Int}{n:Nat}
noncomputable abbrev rc(r:Nat→Int):Nat→Nat→Bool:=λi j=>decide (r i<r j)
noncomputable abbrev kk(r:Nat→Int)(p:Array Nat)(i:Nat):Int:=r (p.getD i 0)
noncomputable def Srt(r:Nat→Int)(p:Array Nat)(m:Nat):Prop:=∀i j,i≤j→j<m→kk r p i≤kk r p j
noncomputable def Dec(r:Nat→Int)(p:Array Nat)(m:Nat):Prop:=∀i j,i≤j→j<m→kk r p j≤kk r p i
noncomputable def Gp(n:Nat)(p:Array Nat):Prop:=p.Perm (List.range n).toArray
theorem Gp.size{p:Array Nat}(g:Gp n p):p.size=n:=by have:=g.size_eq;simpa using this
theorem Gp.lt{p:Array Nat}(g:Gp n p){i:Nat}(h:i<n):p.getD i 0<n:=by(
have hi:i<p.size:=by rw[g.size];exact h
have e:p.getD i 0=p[i]:=by simp[Array.getD,hi]
have:p[i]∈(List.range n).toArray:=g.mem_iff.mp (Array.getElem_mem hi)
rw[e]
simpa using this)
theorem Srt.more{p:Array Nat}{m:Nat}(h:Srt r p m)(e:kk r p (m-1)≤kk r p m):Srt r p (m+1):=λi j hij hj=>by(
by_cases z:j<m
·exact h i j hij z
have ej:j=m:=by lia
subst ej
by_cases z2:i=j
·subst z2;exact gQ _
exact sD (h i (j-1) (by lia) (by lia)) e)
theorem Dec.more{p:Array Nat}{m:Nat}(h:Dec r p m)(e:kk r p m≤kk r p (m-1)):Dec r p (m+1):=λi j hij hj=>by(
by_cases z:j<m
·exact h i j hij z
have ej:j=m:=by lia
subst ej
by_cases z2:i=j
·subst z2;exact gQ _
exact sD e (h i (j-1) (by lia) (by lia)))
theorem q31{p q:Array Nat}{i j:Nat}(h:p[i]?=q[j]?):p.getD i 0=q.getD j 0:=by rw[sE,sE,h]
theorem qAA{p:Array Nat}{i j:Nat}(hj:j≤p.size)(k:Nat):(kas_rev p i j).getD k 0=if i≤k∧k<j then p.getD (i+j-1-k) 0 else p.getD k 0:=by(
unfold kas_rev
by_cases h:i≤k∧k<j
·rw[kI h];exact q31 (by rw[xL hj,kI h])
rw[kF h]
exact q31 (by rw[xL hj,kF h]))
theorem Gp.rev{p:Array Nat}(g:Gp n p)(i j:Nat):Gp n (kas_rev p i j):=(mirror_perm _ _ _ _).trans g
theorem qAB{p:Array Nat}(g:Gp n p):∀(f m:Nat),1≤m→m+f≤n→Srt r p m→hT (rc r) n (kas_asc p f m) (λe=>m≤e∧e≤m+f∧Srt r p e∧(e<m+f→kk r p e<kk r p (e-1)))
|0,m,h1,hz,h=>⟨kN _,kN _,h,λz=>absurd z (d6 _)⟩
|f+1,m,h1,hz,h=>by
 refine⟨g.lt (by lia),g.lt (by lia),?_⟩;by_cases e:r (p.getD m 0)<r (p.getD (m-1) 0)
 ·rw[show rc r (p.getD m 0) (p.getD (m-1) 0)=true from hV e];dsimp only;rw[kI rfl];exact⟨kN _,by lia,h,λ_=>e⟩
 rw[show rc r (p.getD m 0) (p.getD (m-1) 0)=false from kE e];dsimp only;rw[kF kO];refine yL ?_ _ (qAB g f (m+1) (by lia) (by lia) (h.more (by show r _≤r _;lia)));rintro a ⟨a1,a2,a3,a4⟩
 exact⟨by lia,by lia,a3,λz=>a4 (by lia)⟩
noncomputable def Eql(r:Nat→Int)(p:Array Nat)(a b:Nat):Prop:=∀k,a≤k→k<b→kk r p k=kk r p (b-1)
theorem q7N{p:Array Nat}{i j:Nat}(hj:j≤p.size)(h:Eql r p i j)(k:Nat):kk r (kas_rev p i j) k=kk r p k:=by(
show r _=r _
rw[qAA hj]
by_cases z:i≤k∧k<j
·rw[kI z];exact(h _ (by lia) (by lia)).trans (h k z.1 z.2).symm
rw[kF z])
theorem q4L:∀(f:Nat) (p:Array Nat) (m q:Nat),Gp n p→q+1≤m→m+f≤n→Dec r p m→Eql r p (m-(q+1)) m→hT (rc r) n (kas_desc f p m q) (λz=>Gp n z.1∧m≤z.2.1∧z.2.1≤m+f∧Dec r z.1 z.2.1∧z.2.2+1≤z.2.1∧Eql r z.1 (z.2.1-(z.2.2+1)) z.2.1)
|0,p,m,q,g,hq,hz,d,e=>⟨g,kN _,kN _,d,hq,e⟩
|f+1,p,m,q,g,hq,hz,d,e=>by
 have hs:=g.size;refine⟨g.lt (by lia),g.lt (by lia),?_⟩;by_cases c:r (p.getD m 0)<r (p.getD (m-1) 0)
 ·rw[show rc r (p.getD m 0) (p.getD (m-1) 0)=true from hV c];dsimp only;rw[kI rfl];by_cases q0:q>0
  ·rw[kI q0];have kq:=q7N (r:=r) (p:=p) (i:=m-(q+1)) (j:=m) (by lia) e;have d1:Dec r (kas_rev p (m-(q+1)) m) (m+1):=λi j hij hj=>by rw[kq,kq];exact d.more (sF c) i j hij hj
   refine yL ?_ _ (q4L f _ (m+1) 0 (g.rev _ _) (by lia) (by lia) d1 λk h1 h2=>by rw[show k=m by lia];rfl);rintro a ⟨a1,a2,a3,a4⟩
   exact⟨a1,by lia,by lia,a4⟩
  rw[kF q0];refine yL ?_ _ (q4L f p (m+1) 0 g (by lia) (by lia) (d.more (sF c)) λk h1 h2=>by rw[show k=m by lia];rfl);rintro a ⟨a1,a2,a3,a4⟩
  exact⟨a1,by lia,by lia,a4⟩
 rw[show rc r (p.getD m 0) (p.getD (m-1) 0)=false from kE c];dsimp only;rw[kF kO];refine⟨g.lt (by lia),g.lt (by lia),?_⟩;by_cases c2:r (p.getD (m-1) 0)<r (p.getD m 0)
 ·rw[show rc r (p.getD (m-1) 0) (p.getD m 0)=true from hV c2];dsimp only;rw[kI rfl];exact⟨g,kN _,nO _ _,d,hq,e⟩
 rw[show rc r (p.getD (m-1) 0) (p.getD m 0)=false from kE c2];dsimp only;rw[kF kO];have ee:r (p.getD m 0)=r (p.getD (m-1) 0):=by lia
 refine yL ?_ _ (q4L f p (m+1) (q+1) g (by lia) (by lia) (d.more (Int.le_of_eq ee)) λk h1 h2=>?_)
 ·rintro a ⟨a1,a2,a3,a4⟩
  exact⟨a1,by lia,by lia,a4⟩
 show r (p.getD k 0)=r (p.getD m 0);by_cases z:k=m
 ·rw[z]
 rw[ee];exact e k (by lia) (by lia)
theorem qBC{p:Array Nat}{m:Nat}(g:Gp n p)(h1:1≤m)(hm:m≤n)(d:Dec r p m):hT (rc r) n (kas_tail3 m n p) (λz=>Gp n z.2∧1≤z.1∧z.1≤n∧Srt r z.2 z.1):=by(
have hs:=g.size
have sr:Srt r (kas_rev p 0 m) m:=λi j hij hj=>by show r _≤r _;rw[qAA (by lia),qAA (by lia),kI ⟨mM _,by lia⟩,kI ⟨mM _,hj⟩];exact d _ _ (by lia) (by lia)
refine q1X _ (yL ?_ _ (qAB (g.rev 0 m) (n-m) m h1 (by lia) sr))
rintro a ⟨a1,a2,a3,_⟩
exact⟨g.rev _ _,by lia,by lia,a3⟩)
theorem qBD{p:Array Nat}{m:Nat}(g:Gp n p)(hm:m+1≤n)(d:Dec r p (m+1)):hT (rc r) n (kas_descPart m n p) (λz=>Gp n z.2∧1≤z.1∧z.1≤n∧Srt r z.2 z.1):=by(
refine q1X _ (yL ?_ _ (q4L (n-(m+1)) p (m+1) 0 g (by lia) (by lia) d λk h1 h2=>by rw[show k=m by lia];rfl))
rintro⟨p',m',q'⟩ ⟨a1,a2,a3,a4,a5,a6⟩
dsimp only at a1 a2 a3 a4 a5 a6 ⊢
have hs:=a1.size
by_cases q0:q'>0
·rw[kI q0];have kq:=q7N (r:=r) (p:=p') (i:=m'-(q'+1)) (j:=m') (by lia) a6;exact qBC (a1.rev _ _) (by lia) (by lia) λi j hij hj=>by rw[kq,kq];exact a4 i j hij hj
rw[kF q0]
exact qBC a1 (by lia) (by lia) a4)
theorem qE1{p:Array Nat}(g:Gp n p)(h1:1≤n):hT (rc r) n (kas_count n p) (λz=>Gp n z.2∧1≤z.1∧z.1≤n∧Srt r z.2 z.1):=by(
have hs:=g.size
have s1:Srt r p 1:=λi j hij hj=>by rw[show i=j by lia];exact gQ _
refine q1X _ (yL ?_ _ (qAB g (n-1) 1 (kN _) (by lia) s1))
rintro m ⟨a1,a2,a3,a4⟩
try dsimp only
by_cases e:m=n
·rw[kI (by rw[wA];exact e)];exact⟨g,a1,by lia,a3⟩
rw[kF (by rw[wA];exact e)]
have lt:=a4 (by lia)
by_cases m1:m>1
·rw[kI m1];refine⟨g.lt (by lia),g.lt (by lia),?_⟩;by_cases c:r (p.getD 0 0)<r (p.getD (m-1) 0)
 ·rw[show rc r (p.getD 0 0) (p.getD (m-1) 0)=true from hV c];dsimp only;rw[kI rfl];exact⟨g,a1,by lia,a3⟩
 rw[show rc r (p.getD 0 0) (p.getD (m-1) 0)=false from kE c];dsimp only;rw[kF kO];have eq:Eql r p 0 m:=λk _ hk=>by have z1:=a3 0 k (mM _) hk;have z2:=a3 k (m-1) (by lia) (by lia);show r _=r _;have z1:r (p.getD 0 0)≤r (p.getD k 0):=z1;have z2:r (p.getD k 0)≤r (p.getD (m-1) 0):=z2;lia
 have kq:=q7N (r:=r) (p:=p) (i:=0) (j:=m) (by lia) eq;refine qBD (g.rev _ _) (by lia) λi j hij hj=>?_;rw[kq,kq];refine Dec.more (m:=m) (λi j hij hj=>?_) (sF lt) i j hij hj;rw[eq i (mM _) (by lia),eq j (mM _) hj];exact gQ _
rw[kF m1]
have:m=1:=by lia
subst this
refine qBD g (by lia) (Dec.more (λi j hij hj=>?_) (sF lt))
rw[show i=j by lia]
exact gQ _)
theorem q58{p:Array Nat}(g:Gp n p){k:Nat}(hk:k<n)(sr:Srt r p k):∀(f l u:Nat),u-l≤f→l≤u→u≤k→(∀i,i<l→kk r p i≤kk r p k)→(∀i,u≤i→i<k→kk r p k<kk r p i)→hT (rc r) n (kas_place p k f l u) (λm=>m≤k∧(∀i,i<m→kk r p i≤kk r p k)∧∀i,m≤i→i<k→kk r p k<kk r p i)
|0,l,u,hf,hl,hu,a,b=>⟨by lia,a,λi h1 h2=>b i (by lia) h2⟩
|f+1,l,u,hf,hl,hu,a,b=>by
 unfold kas_place;by_cases e:l≥u
 ·rw[kI e];exact⟨by lia,a,λi h1 h2=>b i (by lia) h2⟩
 rw[kF e];refine⟨g.lt hk,g.lt (by lia),?_⟩;by_cases c:r (p.getD k 0)<r (p.getD ((l+u) / 2) 0)
 ·rw[show rc r (p.getD k 0) (p.getD ((l+u) / 2) 0)=true from hV c];dsimp only;rw[kI rfl];refine q58 g hk sr f l ((l+u) / 2) (by lia) (by lia) (by lia) a λi h1 h2=>?_;exact Int.lt_of_lt_of_le c (sr _ _ h1 h2)
 rw[show rc r (p.getD k 0) (p.getD ((l+u) / 2) 0)=false from kE c];dsimp only;rw[kF kO];refine q58 g hk sr f ((l+u) / 2+1) u (by lia) (by lia) hu (λi h1=>?_) b;exact sD (sr i ((l+u) / 2) (by lia) (by lia)) (by show r _≤r _;lia)
theorem qIW{p:Array Nat}{k l:Nat}(hk:k<p.size)(hl:l≤k)(i:Nat):(bubble p k (k-l)).getD i 0=if i=l then p.getD k 0 else if l<i∧i≤k then p.getD (i-1) 0 else p.getD i 0:=by(
have e:=getElem?_bubble hk (k-l) (by lia) i
rw[show k-(k-l)=l by lia]at e
by_cases h1:i=l
·rw[kI h1]at e ⊢;exact q31 e
rw[kF h1]at e ⊢
by_cases h2:l<i∧i≤k
·rw[kI h2]at e ⊢;exact q31 e
rw[kF h2]at e ⊢
exact q31 e)
theorem qE2:∀(f:Nat) (p:Array Nat) (k:Nat),Gp n p→k+f≤n→Srt r p k→hT (rc r) n (kas_bin f p k) (λq=>Gp n q∧Srt r q (k+f))
|0,p,k,g,hz,sr=>⟨g,sr⟩
|f+1,p,k,g,hz,sr=>by
 have hs:=g.size;refine q1X _ (yL ?_ _ (q58 g (show k<n by lia) sr k 0 k (by lia) (mM _) (kN _) (λi h=>absurd h (bD _)) λi h1 h2=>absurd h2 (by lia)));rintro l ⟨a1,a2,a3⟩
 have at':=qIW (p:=p) (k:=k) (l:=l) (by lia) a1;refine yL ?_ _ (qE2 f _ (k+1) ((bubble_perm _ _ _).trans g) (by lia) λi j hij hj=>?_)
 ·rintro q ⟨b1,b2⟩
  exact⟨b1,by rw[show k+(f+1)=k+1+f by lia];exact b2⟩
 show r _≤r _;rw[at',at'];by_cases i1:i=l
 ·rw[kI i1];by_cases j1:j=l
  ·rw[kI j1];exact gQ _
  rw[kF j1,kI ⟨by lia,by lia⟩];exact sF (a3 (j-1) (by lia) (by lia))
 rw[kF i1];by_cases i2:l<i∧i≤k
 ·rw[kI i2,kF (by lia),kI ⟨by lia,by lia⟩];exact sr _ _ (by lia) (by lia)
 rw[kF i2];by_cases j1:j=l
 ·rw[kI j1];exact a2 i (by lia)
 rw[kF j1];by_cases j2:l<j∧j≤k
 ·rw[kI j2];exact sr _ _ (by lia) (by lia)
 rw[kF j2];exact sr _ _ hij (by lia)
theorem qBE(h1:1≤n):hT (rc r) n (kas_sort n) (λp=>Gp n p∧Srt r p n):=by(
refine q1X _ (yL ?_ _ (qE1 (p:=(List.range n).toArray) (bE _) h1))
rintro⟨m,p⟩ ⟨a1,a2,a3,a4⟩
dsimp only at a1 a2 a3 a4 ⊢
by_cases e:m<n
·rw[kI e];refine yL ?_ _ (qE2 (n-max m 1) p (max m 1) a1 (by lia) (by rw[Nat.max_eq_left a2];exact a4));rintro q ⟨b1,b2⟩
 exact⟨b1,by rw[show max m 1+(n-max m 1)=n by lia]at b2;exact b2⟩
rw[kF e]
have:m=n:=by lia
subst this
exact⟨a1,a4⟩)
end
end L2
namespace L2
open PySem PySem.W PySem.Spec PyProof.Rows
section
variable{prog:Program}{w:World}{A:Around}{E:Value→Shared→Prop}{s:Shared}
noncomputable abbrev q59(vs:List Value)(p:Array Nat):Array Value:=List.toArray (p.toList.map λi=>vs.getD i Value.none)
structure RkAt(prog:Program)(w:World)(A:Around)(vs:List Value)(κ:SortKind)(r:Nat→Int)(s:Shared):Prop where
kind:∀(Q:SortKind→Shared→Prop) (E:Value→Shared→Prop),Q κ s→wpAny (model prog w) A (keyKind' vs.toArray) Q E s
lt:∀i j (C:Bool→Shared→Prop),i<vs.length→j<vs.length→C (decide (r i<r j)) s→wpAny (model prog w) A (keyLt' κ (vs.getD i Value.none) (vs.getD j Value.none)) C (λ_ _=>False) s
theorem qAC{a:Addr}{vs:List Value}{n:Nat}{κ:SortKind}{r:Nat→Int}{P:PySem.Fin→Shared→Prop}(ho:s.heap.get? a=some (seqObj "list" vs.toArray n))(h64:vs.length<64)
 (hr:2≤vs.length→∀h',(∀b o,b≠a→s.heap.get? b=some o→h'.get? b=some o)→RkAt prog w A vs κ r { s with heap:=h' })
 (h:∀p:Array Nat,Gp vs.length p→Srt r p vs.length→P (.done (.ret .none)) { s with heap:=sortedHeap s.heap a vs (q59 vs p) }):wpAny (model prog w) A (Builtin.«list.sort» ⟨[.ref a],[]⟩) P E s:=by(
have ha:a<s.heap.objs.size:=kP ho
have hsz:vs.toArray.size=vs.length:=mB ..
obtain⟨e1,g1⟩:∃e1,(s.heap.update a (Obj.mapSeq λ_=>(#[]:Array Value))).get? a=some (seqObj "list" #[] e1):=⟨_,wU ho λ_=>#[]⟩
have g6:=hU (seqObj "list" #[] 0) (hU (seqObj "tuple" vs.toArray 0) g1)
rw[list_sort_plain]
refine hG (aL ho rfl (hG (wY ho rfl (hG (sZ g1 rfl ?_)) (by rw[hsz,gJ];lia) (mM _))))
refine hG (wpAny_newTuple (hG (wZ (gG ?_) (mM _))) (by show vs.length≤_;rw[gJ];lia))
show wpAny (model prog w) A _ P E { s with heap:=((s.heap.update a (Obj.mapSeq λ_=>(#[]:Array Value))).push (seqObj "tuple" vs.toArray 0)).push (seqObj "list" #[] 0) }
dsimp only
by_cases h2:vs.toArray.size<2
·rw[kI h2,kI h2];refine hG (kL ?_);rw[bG];refine hG (kL ?_);dsimp only;have fin:=h (List.range vs.length).toArray (bE _) λi j hij hj=>by rw[show i=j by lia];exact gQ _
 have eo:(pairsOf vs).map (·.2)=q59 vs (List.range vs.length).toArray:=by
  have em:(pairsOf vs)=(List.toArray (List.range vs.length)).map (kas_item (pairsOf vs)):=by have e:=kas_range (pairsOf vs);rw[aM]at e;exact e.symm
  apply pM.mp;rw[em,eE,nP];exact wE λi _=>by show(kas_item (pairsOf vs) i).2=_;rw[kas_item_eq]
 refine hG (sZ g6 rfl ?_);refine hG (wY g6 rfl ?_ (mM _) (by rw[Array.size_map];show(pairsOf vs).size≤_;rw[aM,gJ];lia));simp only[cF,dF,if_false];refine kL ?_;rw[←eo]at fin;exact fin
rw[kF h2,kF h2]
have h2':2≤vs.length:=by lia
have K:=hr h2' (((s.heap.update a (Obj.mapSeq λ_=>(#[]:Array Value))).push (seqObj "tuple" vs.toArray 0)).push (seqObj "list" #[] 0)) λb o nb e=>hU _ (hU _ ((kY _ _ (wM nb)).trans e))
refine hG (K.kind _ _ ?_)
have est:SortSt.mk' κ (vs.toArray.zip vs.toArray) #[] 7 none=kas_st κ (pairsOf vs) (List.toArray (List.range vs.length)):=by have e:=kas_range (pairsOf vs);rw[aM]at e;unfold kas_st;rw[e];rfl
have tree:(kas_sort vs.length).kasWp (kas_cmp prog w A κ (pairsOf vs)) (λp s'=>s'= { s with heap:=((s.heap.update a (Obj.mapSeq λ_=>(#[]:Array Value))).push (seqObj "tuple" vs.toArray 0)).push (seqObj "list" #[] 0) }∧Gp vs.length p∧Srt r p vs.length) { s with heap:=((s.heap.update a (Obj.mapSeq λ_=>(#[]:Array Value))).push (seqObj "tuple" vs.toArray 0)).push (seqObj "list" #[] 0) }:=by rw[←kas_ask_eq];exact qE0 (c:=rc r) (n:=vs.length) (λi j C hi hj c=>K.lt i j C hi hj c) _ (yL (λp q=>⟨rfl,q⟩) _ (qBE (by lia)))
have run:=kas_runs (E:=E) (Q:=λ_ st' s'=>∃p:Array Nat,arrOf st'=p.map (kas_item (pairsOf vs))∧failedOf st'=none∧s'= { s with heap:=((s.heap.update a (Obj.mapSeq λ_=>(#[]:Array Value))).push (seqObj "tuple" vs.toArray 0)).push (seqObj "list" #[] 0) }∧Gp vs.length p∧Srt r p vs.length) h2' h64 (λp' st' s' _ a2 a3 a4=>⟨p',a2,a3,a4⟩) tree
rw[←est]at run
refine hG (gY run ?_ λ_ _ e=>e)
rintro⟨⟨⟩,st'⟩ s' ⟨p,har,hf,rfl,gp,sr⟩
dsimp only
have hout:(arrOf st').map (·.2)=q59 vs p:=by apply pM.mp;rw[har,eE,nP];exact wE λi _=>by show(kas_item (pairsOf vs) i).2=_;rw[kas_item_eq]
have hol:(q59 vs p).size=vs.length:=by rw[mB,h9,k9,gp.size]
rw[hout]
refine hG (sZ g6 rfl ?_)
refine hG (wY g6 rfl ?_ (mM _) (mF (c7 hol) (by rw[gJ];lia)))
rw[hf]
simp only[cF,dF,if_false]
exact kL (h p gp sr))
theorem q7O{l:Addr}{vs:List Value}{κ:SortKind}{r:Nat→Int}{Q:Value→Shared→Prop}(hl:s.heap.IsList l vs.toArray)(h64:vs.length<64)
 (hr:2≤vs.length→∀h',(∀b o,s.heap.get? b=some o→h'.get? b=some o)→RkAt prog w A.in1.in1 vs κ r { s with heap:=h' })
 (h:∀p:Array Nat,Gp vs.length p→Srt r p vs.length→Q (.ref (s.heap.objs.size+1)) { s with heap:=sortedAll s.heap vs (q59 vs p) }):
 wpAny (model prog w) A (call (.builtin "sorted") [.ref l]) Q E s:=by(
refine sS aZ aN aO (args_sorted1 _) ?_
unfold Builtin.«sorted»
refine hG (m:=checkCount "sorted" 1 1 _) (kL (hG (collect_list hl (hG (wZ ?_ (by rw[gJ];show vs.length≤_;lia))))))
have hsz:((s.heap.push (seqObj "list" #[] 0)).update s.heap.objs.size (Obj.mapSeq (· ++vs.toArray))).objs.size=s.heap.objs.size+1:=by rw[nQ,lF]
have g:(((s.heap.push (seqObj "list" #[] 0)).update s.heap.objs.size (Obj.mapSeq (· ++vs.toArray))).push (seqObj "list" vs.toArray 0)).get? (s.heap.objs.size+1)=some (seqObj "list" vs.toArray 0):=by rw[←hsz];exact mD _ rfl
show wpAny _ _ _ _ _ { s with heap:=((s.heap.push (seqObj "list" #[] 0)).update s.heap.objs.size (Obj.mapSeq (· ++vs.toArray))).push (seqObj "list" vs.toArray 0) }
rw[hsz]
refine hG (gG (wK xD ⟨_,g,rfl⟩ lM (qAC (κ:=κ) (r:=r) g h64 (λh2 h' k=>hr h2 h' λb o e=>k b o (mK (dL (kP e))) (hU _ ((kY _ _ (rM (kP e))).trans (hU _ e)))) λp a1 a2=>⟨_,rfl,?_⟩) (args_list_sort _)))
exact kL ⟨_,rfl,h p a1 a2⟩)
end
noncomputable def lx:List Int→List Int→Bool
|a::r,b::s=>if a=b then lx r s else decide (a<b)
| [],_::_=>true
|_,[]=>false
theorem q2H:∀a:List Int,lx a a=false
| []=>rfl
|a::r=>by show(if a=a then lx r r else decide (a<a))=false;rw[kI rfl];exact q2H r
theorem zS:∀a b c:List Int,lx a b=true→lx b c=true→lx a c=true
| [],[],c,h,_=>by cases h
| [],_::_,[],_,h=>by cases h
| [],_::_,_::_,_,_=>rfl
|_::_,[],c,h,_=>by cases h
|_::_,_::_,[],_,h=>by cases h
|a::r,b::s,c::t,h,g=>by
 have h:(if a=b then lx r s else decide (a<b))=true:=h;have g:(if b=c then lx s t else decide (b<c))=true:=g;show(if a=c then lx r t else decide (a<c))=true;by_cases e1:a=b
 ·subst e1;rw[kI rfl]at h;by_cases e2:a=c
  ·subst e2;rw[kI rfl]at g ⊢;exact zS r s t h g
  rw[kF e2]at g ⊢;exact g
 rw[kF e1,kW]at h;by_cases e2:b=c
 ·subst e2;rw[kF e1];exact hV h
 rw[kF e2,kW]at g;rw[kF (by lia)];exact hV (by lia)
theorem q3J:∀a b:List Int,lx a b=false→lx b a=false→a=b
| [],[],_,_=>rfl
| [],_::_,h,_=>by cases h
|_::_,[],_,h=>by cases h
|a::r,b::s,h,g=>by
 have h:(if a=b then lx r s else decide (a<b))=false:=h;have g:(if b=a then lx s r else decide (b<a))=false:=g;by_cases e:a=b
 ·subst e;rw[kI rfl]at h g;rw[q3J r s h g]
 rw[kF e,wJ]at h;rw[kF (λz=>e z.symm),wJ]at g;lia
theorem q95{α:Type}{p q:α→Bool}:∀{l:List α} {x:α},(∀y∈l,p y=true→q y=true)→x∈l→q x=true→p x=false→l.countP p<l.countP q
|a::l,x,h,hx,h1,h2=>by
 have ml:l.countP p≤l.countP q:=pJ λy hy=>h y (kC _ hy);rw[pN,pN];rcases kM.mp hx with e|hx
 ·subst e;rw[h1,h2,kF kO,kI rfl];lia
 have ih:=q95 (λy hy=>h y (kC _ hy)) hx h1 h2;have ha:=h a (kX ..);cases pa:p a with
 |false=>rw[kF kO];lia
 |true=>rw[ha pa];lia
noncomputable def rkOf(ks:List (List Int))(k:List Int):Int:=((ks.countP λy=>lx y k:Nat):Int)
theorem qAD{ks:List (List Int)}{k k':List Int}(h:k∈ks)(h':k'∈ks):rkOf ks k<rkOf ks k'↔lx k k'=true:=by(
constructor
·intro lt;cases e:lx k k' with
 |true=>rfl
 |false=>
  have:ks.countP (λy=>lx y k')≤ks.countP (λy=>lx y k):=pJ λy _ hy=>by
   cases g:lx k' k with
   |true=>exact zS _ _ _ hy g
   |false=>rw[q3J k k' e g];exact hy
  unfold rkOf at lt;lia
intro e
have:=q95 (p:=λy=>lx y k) (q:=λy=>lx y k') (l:=ks) (x:=k) (λy _ hy=>zS _ _ _ hy e) h e (q2H k)
unfold rkOf
lia)
section
variable{prog:Program}{w:World}{A:Around}{E:Value→Shared→Prop}{s:Shared}
theorem qFY{b:Bool}{x y:Int}{t u:Tok}{Q:Bool→Shared→Prop}(h:Q (decide (x<y)) s):wpAny (model prog w) A (oneLt' b (.int x t) (.int y u)) Q E s:=by(
cases b with
|true=>have z:=kat_lt_int (prog:=prog) (w:=w) (A:=A) (E:=E) (t:=t) (u:=u) h;rw[keyLt'_oneType]at z;exact z
|false=>refine kat_one _ _ ?_;exact lt_int h)
theorem q96{b:Bool}{Q:Bool→Shared→Prop}:∀{ns ms:List Int} {us vs:List Value} (i:Nat),IntsAre us ns→IntsAre vs ms→ns.length=ms.length→Q (lx ns ms) s→KatLex prog w A b false Q (us.zip vs) i s
| [],[],_,_,i,.nil,.nil,_,h=>h
|n::ns,m::ms,_,_,i,.cons _ t hn,.cons _ u hm,hl,h=>by
 refine kat_cons (wpAny_eqBool_int ?_);have h:Q (if n=m then lx ns ms else decide (n<m)) s:=h;by_cases e:n=m
 ·rw[kI e]at h;rw[show(n==m)=true by rw[wA];exact e];exact kat_yes (q96 (i+1) hn hm (by simpa using hl) h)
 rw[kF e]at h;rw[show(n==m)=false by rw[rJ];exact e];exact kat_no (qFY h)
| [],_::_,_,_,_,_,_,hl,_=>by simp at hl
|_::_,[],_,_,_,_,_,hl,_=>by simp at hl
noncomputable def IsTI(h:Heap)(v:Value)(k:List Int):Prop:=∃a us,v=.ref a∧h.IsTuple a us.toArray∧IntsAre us k
theorem IsTI.at{h h':Heap}{v:Value}{k:List Int}(x:IsTI h v k)(e:∀b o,h.get? b=some o→h'.get? b=some o):IsTI h' v k:=let⟨a,us,e1,⟨o,e2,r⟩,i⟩:=x
 ⟨a,us,e1,⟨o,e _ _ e2,r⟩,i⟩
theorem qBF{h:Heap}:∀{vs:List Value} {ks:List (List Int)},Paired (IsTI h) vs ks→(∀k∈ks,0<k.length)→∃fs,KatTups h vs fs∧fs.length=ks.length∧∀v∈fs,∃i t,v=.int i t
| [],[],.nil,_=>⟨[],trivial,rfl,λv hv=>by cases hv⟩
|v::vs,k::ks,.cons x t,hp=>by
 obtain⟨fs,r,hl,hi⟩:=qBF t λk hk=>hp k (kC _ hk);obtain⟨a,us,rfl,⟨o,ho,hc,n,hd⟩,iu⟩:=x;have h0:=hp k (kX ..);cases iu with
 |nil=>simp at h0
 |cons i t0 hr=>
  refine⟨.int i t0::fs,KatTups.cons ho hc hd (by simp) r,by simp[hl],λv hv=>?_⟩;rcases kM.mp hv with rfl|hv
  ·exact⟨i,t0,rfl⟩
  exact hi v hv
theorem qBG{vs:List Value}{ks:List (List Int)}{m:Nat}(h:Paired (IsTI s.heap) vs ks)(hw:∀k∈ks,k.length=m)(hm:0<m)(h2:2≤vs.length):RkAt prog w A vs (tuples' true) (λi=>rkOf ks (ks.getD i [])) s:=by(
have hl:=h.len
constructor
·intro Q E' q;obtain⟨fs,t,e,hi⟩:=qBF h λk hk=>by rw[hw k hk];exact hm
 exact kat_kind (T:=Value.type "int") t (by lia) (λv hv=>by obtain⟨i,t0,rfl⟩:=hi v hv;exact .now) rfl q
intro i j C hi hj c
have e1:vs[i]?=some (vs.getD i Value.none):=by rw[hX hi];simp[hi]
have e2:vs[j]?=some (vs.getD j Value.none):=by rw[hX hj];simp[hj]
obtain⟨k1,g1,a1,us1,q1,⟨o1,ho1,_,n1,d1⟩,i1⟩:=Paired.at h e1
obtain⟨k2,g2,a2,us2,q2,⟨o2,ho2,_,n2,d2⟩,i2⟩:=Paired.at h e2
have m1:k1∈ks:=gE g1
have m2:k2∈ks:=gE g2
have z1:ks.getD i []=k1:=by rw[kJ,g1];rfl
have z2:ks.getD j []=k2:=by rw[kJ,g2];rfl
have ll:k1.length=k2.length:=by rw[hw _ m1,hw _ m2]
have c:C (lx k1 k2) s:=by
 have y:decide (rkOf ks (ks.getD i [])<rkOf ks (ks.getD j []))=lx k1 k2:=by rw[z1,z2,rX,kW];exact qAD m1 m2
 rw[←y];exact c
rw[q1,q2]
refine kat_lt ho1 d1 ho2 d2 ?_
have f:decide (us1.toArray.size<us2.toArray.size)=false:=by rw[mB,mB,i1.length,i2.length,ll];exact kE (d6 _)
rw[f]
exact q96 0 i1 i2 ll c)
end
section
variable{X:Cx}
noncomputable def TupI(K:PySem.W.Frag)(H:Hp)(v:V)(k:List Int):Prop:=∃a,v=.ref a∧SqT K H a (k.map V.int)
theorem q32{pins:List (Addr×Obj)}{σ:St}{H:Hp}{s:Shared}(I:Inv X pins σ H s):∀{xs:List V} {us:List Value} {ks:List (List Int)},Vals xs us→Paired (TupI X.K H) xs ks→Paired (IsTI s.heap) us ks
| [],_,_,.nil,.nil=>.nil
|x::xs,u::us,_,.cons r t,.cons ⟨a,e,h⟩ y=>by subst e;obtain rfl:u=Value.ref a:=r;obtain⟨its,rv,p,_⟩:=I.tuple h;exact .cons ⟨a,its,rfl,p,q4J rv⟩ (q32 I t y)
theorem q3K{xs:List V}{us:List Value}(r:Vals xs us):∀{q:List Nat},(∀i∈q,i<xs.length)→Vals (q.map λi=>xs.getD i .non) (q.map λi=>us.getD i Value.none)
| [],_=>.nil
|i::q,h=>by have hi:=h i (kX ..);have hl:=r.length;refine .cons ?_ (q3K r λj hj=>h j (kC _ hj));obtain⟨x,e,z⟩:=r.atN (j:=i) (by lia);show RelV (xs.getD i .non) (us.getD i Value.none);rw[kJ,e,kJ,hX (by lia)];exact z
theorem q7P:q0T X (.builtin "sorted") (λxs H Q=>∃(p:Addr) (us:List V) (ks:List (List Int)) (m:Nat),xs=[.ref p]∧SqL X.K H p us∧Paired (TupI X.K H) us ks∧(∀k∈ks,k.length=m)∧0<m∧us.length<64∧∀q:List Nat,q.Perm (List.range us.length)→(q.map λi=>ks.getD i []).Pairwise (λa b=>lx b a=false)→NewO H (.lst (q.map λi=>us.getD i .non)) Q):=by(
intro pins s σ H xs us Q I r hZ
obtain⟨p,xs',ks,m,ex,hq,hk,hw,hm,h64,q⟩:=hZ
subst ex
obtain⟨u,rfl,rx⟩:=zQ r
cases rx
obtain⟨its,rv,pl,hz⟩:=I.list hq
have hlen:=rv.length
have hti:=q32 I rv hk
refine q7O (κ:=tuples' true) (r:=λi=>rkOf ks (ks.getD i [])) pl.isList (by lia) (λh2 h' k=>qBG (Paired.mapP hti λ_ _ z=>z.at k) hw hm h2) λa gp sr=>?_
have pp:a.toList.Perm (List.range its.length):=by have:=sO.mp gp;simpa using this
obtain⟨e,he⟩:=sortedAll_at s.heap its (q59 its a)
have hin:∀i∈a.toList,i<xs'.length:=λi hi=>by rw[hlen];exact mQ.mp (pp.mem_iff.mp hi)
have kl:=hk.len
have pw:(a.toList.map λi=>ks.getD i []).Pairwise (λx y=>lx y x=false):=by
 rw[gZ,cS];intro i j hi hj hij;rw[k9,gp.size]at hi hj;have z:rkOf ks (ks.getD (a.getD i 0) [])≤rkOf ks (ks.getD (a.getD j 0) []):=sr i j (by lia) hj;have gi:a.getD i 0=a.toList[i]'(by rw[k9,gp.size];exact hi):=by simp[Array.getD,gp.size,hi]
 have gj:a.getD j 0=a.toList[j]'(by rw[k9,gp.size];exact hj):=by simp[Array.getD,gp.size,hj]
 rw[gi,gj]at z;have mem:∀x,x<ks.length→ks.getD x []∈ks:=λx hx=>by rw[kJ,hX hx];exact m7 hx
 cases g:lx (ks.getD (a.toList[j]'(by rw[k9,gp.size];exact hj)) []) (ks.getD (a.toList[i]'(by rw[k9,gp.size];exact hi)) [])with
 |false=>rfl
 |true=>have lt:=(qAD (mem _ (by rw[←kl];exact hin _ (m7 _))) (mem _ (by rw[←kl];exact hin _ (m7 _)))).mpr g;lia
refine⟨.ref (s.heap.objs.size+1),_,I.laid (t':=s.toks) (λ_ _ h=>sortedAll_old h) (g4 _) (show jA X.prog X.w _ _ _ (.lst _)from⟨?_,(q59 its a).toList,e,?_,he⟩),rfl,(q a.toList (by rw[hlen];exact pp) pw).at _ (I.hok.fresh (g4 _))⟩
·rw[h9,pp.length_eq,gD,gJ];lia
exact q3K rv hin)
end
section
variable{X:Cx}{pins:List (Addr×Obj)}{σ:St}{H:Hp}{s:Shared}
theorem Inv.adopt{D:Addr}{o:HO}(I:Inv X pins σ H s)(f:FpOk X pins H D)(hD:X.s₀.heap.objs.size≤D)(ok:jA X.prog X.w (upd H D o) s.heap D o):Inv X pins σ (upd H D o) s:=by(
have low:∀b ob,X.s₀.heap.get? b=some ob→b≠D:=λb ob e=>mK (mU (kP e) hD)
have trk:∀b u,H b=some u→b≠D:=λb u e=>qG e f.1
refine⟨I.ok,I.os,I.bare,⟨I.base.keep,I.base.slot,λb ob e n x=>?_,I.base.there,λb xs e=>?_,λb ob u e=>?_,λb ps e=>?_⟩,I.loc,I.cell,?_,λx c e=>?_,λp hp=>?_,λb u e=>?_,I.len⟩
·rw[qC (low b ob e)];exact I.base.free b ob e n x
·have z:=I.base.tups b xs e;rw[qC (trk _ _ z)];exact z
·have z:=I.base.frzs b ob u e;rw[qC (trk _ _ z)];exact z
·obtain⟨m,z⟩:=I.base.tbls b ps e;exact⟨m,by rw[qC (trk _ _ z)];exact z⟩
·rw[qC (λz=>f.2.1 z.symm)];exact I.free
·rw[qC (f.2.2.2.2.1 x c e)];exact I.freeC x c e
·obtain⟨a1,a2,a3⟩:=I.pin p hp;exact⟨a1,by rw[qC (f.2.2.2.2.2 p hp)];exact a2,a3⟩
by_cases hb:b=D
·subst hb;rw[qI]at e;cases e;exact ok
rw[qC hb]at e
exact(I.hok b u e).stay (λ_ _ _ q=>q) (λc q=>by rw[qC (trk _ _ q)];exact q) λc xs q=>by rw[qC (trk _ _ q)];exact q)
theorem Inv.near(I:Inv X pins σ H s){A':Around}(h1:A'.handled=X.A.handled)(h2:A'.frames=X.A.frames)(xe:Value→Shared→Prop):Inv { X with A:=A',xe:=xe } pins σ H s:=⟨{ mod:=I.ok.mod,kind:=I.ok.kind,glob:=I.ok.glob,blt:=I.ok.blt,above:=I.ok.above,inj:=I.ok.inj,has:=I.ok.has,cab:=I.ok.cab,hd:=λc=>h1.trans (I.ok.hd c),frames:=h2.trans I.ok.frames,stk:=I.ok.stk,exf:=I.ok.exf,bs:=I.ok.bs,bsz:=I.ok.bsz,noex:=I.ok.noex,exfs:=I.ok.exfs,funs:=I.ok.funs,frf:=I.ok.frf },I.os,I.bare,I.base,I.loc,I.cell,I.free,I.freeC,I.pin,I.hok,I.len⟩
theorem q97{P:PySem.Fin→Shared→Prop}{EE:Value→Shared→Prop}{A:Around}{a kS:Addr}{st:SortSt}{e1 e:Nat}{ks:List Value}{out:List Value}{us:List V}(I:Inv X pins σ H s)(fa:FpOk X pins H a)(fk:FpOk X pins H kS)(ha:X.s₀.heap.objs.size≤a)(ne:kS≠a)
 (ga:s.heap.get? a=some (seqObj "list" #[] e1)) (gk:s.heap.get? kS=some (seqObj "list" ks.toArray e)) (hk:ks.length<64) (hout:(arrOf st).map (·.2)=out.toArray) (ho:out.length<64) (hf:failedOf st=none) (rv:Vals us out)
 (h:∀s',Inv X pins σ (upd H a (.lst us)) s'→P (.done (.ret .none)) s'):wpAny (model X.prog X.w) A (ksk_tail a false e1 (.ref kS) st) P EE s:=by(
unfold ksk_tail
try dsimp only
rw[hout]
refine hG (wY gk rfl ?_ (by rw[mB,gJ];lia) (mM _))
refine hG (wL ?_)
have ga':(s.heap.update kS (Obj.mapSeq λ_=>(#[]:Array Value))).get? a=some (seqObj "list" #[] e1):=(kY _ _ ne).trans ga
refine hG (sZ ga' rfl ?_)
refine hG (wY ga' rfl ?_ (mM _) (by rw[kF kO,mB,gJ];lia))
rw[hf]
simp only[cF,dF,if_false]
refine kL (h _ ?_)
obtain⟨c2,g2⟩:∃c2,((s.heap.update kS (Obj.mapSeq λ_=>(#[]:Array Value))).update a (Obj.mapSeq λ_=>out.toArray)).get? a=some (seqObj "list" out.toArray c2):=⟨_,wU ga' λ_=>out.toArray⟩
have I2:Inv X pins σ H { s with heap:=(s.heap.update kS (Obj.mapSeq λ_=>(#[]:Array Value))).update a (Obj.mapSeq λ_=>out.toArray),toks:=s.toks }:=I.turnedN (fp:=[kS,a]) (λb o hb eb=>by
  simp only[kM,gX,cW,not_or]at hb;exact(kY _ _ (wM hb.2)).trans ((kY _ _ (wM hb.1)).trans eb)) (λb hb=>by
  simp only[kM,gX,cW]at hb;rcases hb with rfl|rfl
  ·exact fk
  exact fa)
exact I2.adopt fa ha (show jA X.prog X.w _ _ _ (.lst us)from⟨by rw[rv.length,gJ];lia,out,c2,rv,g2⟩))
theorem qFZ{P:PySem.Fin→Shared→Prop}{EE:Value→Shared→Prop}{A:Around}{a kS:Addr}{e1 e:Nat}{ks vs:List Value}{us zs:List V}{kk:List (List Int)}{m:Nat}(I:Inv X pins σ H s)(fa:FpOk X pins H a)(fk:FpOk X pins H kS)(ha:X.s₀.heap.objs.size≤a)(ne:kS≠a)
 (ga:s.heap.get? a=some (seqObj "list" #[] e1)) (gk:s.heap.get? kS=some (seqObj "list" ks.toArray e)) (rz:Vals zs ks) (rv:Vals us vs) (hl:zs.length=us.length) (h64:us.length<64) (hti:Paired (TupI X.K H) zs kk) (hw:∀k∈kk,k.length=m) (hm:0<m)
 (h:∀q:List Nat,q.Perm (List.range us.length)→(q.map λi=>kk.getD i []).Pairwise (λa b=>lx b a=false)→∀s',Inv X pins σ (upd H a (.lst (q.map λi=>us.getD i .non))) s'→P (.done (.ret .none)) s'):
 wpAny (model X.prog X.w) A (ksk_end a false vs.toArray e1 (.ref kS) ks.toArray) P EE s:=by(
have l1:=rz.length
have l2:=rv.length
have l3:=hti.len
have hlk:ks.length=vs.length:=by lia
unfold ksk_end
try dsimp only
rw[kF kO]
by_cases h2:vs.toArray.size<2
·rw[kI h2,kI h2];refine hG (kL ?_);rw[bG];refine hG (kL ?_);try dsimp only
 have hn2:vs.length<2:=by rw[mB]at h2;exact h2
 refine q97 (out:=vs) (us:=us) I fa fk ha ne ga gk (by lia) ?_ (by lia) rfl rv λs' I'=>?_
 ·rw[kF kO];show(ks.toArray.zip vs.toArray).map (·.2)=vs.toArray;apply pM.mp;rw[nP,Array.toList_zip];show(ks.zip vs).map Prod.snd=vs;exact List.map_snd_zip (by lia)
 have e:(List.range us.length).map (λi=>us.getD i .non)=us:=by refine wI (by simp) λi h1 h3=>?_;rw[pO,sP,kJ,hX h3];rfl
 have z:=h (List.range us.length) (bN _) (by rw[gZ,cS];intro i j hi hj hij;rw[gD]at hi hj;lia);rw[e]at z;exact z s' I'
rw[kF h2,kF h2]
have h2':2≤ks.length:=by rw[mB]at h2;lia
have K:=qBG (prog:=X.prog) (w:=X.w) (A:=A) (s:=s) (q32 I rz hti) hw hm h2'
refine hG (K.kind _ _ ?_)
rw[kF kO]
refine hG (gY (kat_run (κ:=tuples' true) (G:=λp s'=>s'=s∧Gp vs.length p∧Srt (λi=>rkOf kk (kk.getD i [])) p vs.length) (Q:=λst' s'=>∃p:Array Nat,arrOf st'=p.map (kas_item (ks.toArray.zip vs.toArray))∧failedOf st'=none∧s'=s∧Gp vs.length p∧Srt (λi=>rkOf kk (kk.getD i [])) p vs.length) hlk (by lia) (by lia) (λp' st' s' _ a2 a3 a4=>⟨p',a2,a3,a4⟩) ?_) ?_ λ_ _ x=>x)
·refine qE0 (c:=rc λi=>rkOf kk (kk.getD i [])) (n:=vs.length) (λi j C hi hj c=>K.lt i j C (by lia) (by lia) c) _ (yL (λp q=>⟨rfl,q⟩) _ (qBE (by lia)))
rintro⟨⟨⟩,st'⟩ s' ⟨p,har,hf,rfl,gp,sr⟩
try dsimp only
have pp:p.toList.Perm (List.range vs.length):=by have:=sO.mp gp;simpa using this
have hin:∀i∈p.toList,i<us.length:=λi hi=>by rw[l2];exact mQ.mp (pp.mem_iff.mp hi)
have pw:(p.toList.map λi=>kk.getD i []).Pairwise (λx y=>lx y x=false):=by
 rw[gZ,cS];intro i j hi hj hij;rw[k9,gp.size]at hi hj;have z:rkOf kk (kk.getD (p.getD i 0) [])≤rkOf kk (kk.getD (p.getD j 0) []):=sr i j (by lia) hj;have gi:p.getD i 0=p.toList[i]'(by rw[k9,gp.size];exact hi):=by simp[Array.getD,gp.size,hi]
 have gj:p.getD j 0=p.toList[j]'(by rw[k9,gp.size];exact hj):=by simp[Array.getD,gp.size,hj]
 rw[gi,gj]at z;have mem:∀x,x<kk.length→kk.getD x []∈kk:=λx hx=>by rw[kJ,hX hx];exact m7 hx
 cases g:lx (kk.getD (p.toList[j]'(by rw[k9,gp.size];exact hj)) []) (kk.getD (p.toList[i]'(by rw[k9,gp.size];exact hi)) [])with
 |false=>rfl
 |true=>have b1:=hin _ (m7 (show j<p.toList.length by rw[k9,gp.size];exact hj));have b2:=hin _ (m7 (show i<p.toList.length by rw[k9,gp.size];exact hi));have lt:=(qAD (mem _ (by lia)) (mem _ (by lia))).mpr g;lia
exact q97 (out:=p.toList.map λi=>vs.getD i Value.none) (us:=p.toList.map λi=>us.getD i .non) I fa fk ha ne ga gk (by lia) (kat_snds hlk har) (by rw[h9,pp.length_eq,gD];lia) hf (q3K rv hin) λs' I'=>h p.toList (by rw[l2];exact pp) pw s' I')
end
theorem q98:∀a b:List Int,HT.lexLt a b=lx a b
| [],[]=>rfl
| [],_::_=>rfl
|_::_,[]=>rfl
|x::xs,y::ys=>by show(if x=y then HT.lexLt xs ys else decide (x<y))=(if x=y then lx xs ys else decide (x<y));rw[q98 xs ys]
end L2
namespace L2
open PySem PySem.Spec PyProof.Rows
theorem qG0{X:Cx}{K:PySem.W.Frag}{es:List Expr}{k:Nat}{t:TGs}{n:Nat}{pos:Pos}(e:X.K=K)(hc:X.calm=true)(h:PGs X es t)(hn:(assignEach es X.env).length=n)(hst:(assignEach es X.env).findIdx? (·.1)=none):PG X (.Tuple es k pos) (gTup K n t):=by subst e;exact qA0 hc h hn hst
noncomputable def q3X(v a:Addr):HO:=.ext λh=>h.IsItemsView v a
theorem qE3{P:Program}{w:World}{H:Hp}{h:Heap}{v a:Addr}(e:h.IsItemsView v a):jA P w H h v (q3X v a):=by obtain⟨o,e1,e2,e3⟩:=id e;exact⟨e,⟨_,e1⟩,λ_ _ ⟨o,a1,a2⟩ k=>⟨o,k _ a1,a2⟩⟩
theorem qE4{P:Program}{w:World}{H:Hp}{h:Heap}{v a:Addr}(ok:HOk P w H h)(e:H v=some (q3X v a)):h.IsItemsView v a:=(ok v _ e).1
noncomputable def qIX:V→List V→Hp→VK→Prop:=λx vs H Q=>∃a kvs,x=.ref a∧vs=[]∧H a=some (.dK kvs)∧∀v,H v=none→Q (.ref v) (upd H v (q3X v a))
theorem qE5{X:Cx}:MtR X "dict.items" qIX:=by(
intro pins s σ H x vs v us Q I rx rv hZ
obtain⟨a,kvs,ex,ev,ha,q⟩:=hZ
subst ex ev
cases rx
have hus:=rv.zero
subst hus
obtain⟨z,lo,ws,rel,dd⟩:=q8R I.hok ha
refine call_meetsIn nU dd.typeIs PySem.F.entry_dict_items (PySem.F.args_dict_items_1 _) (meets_dict_items (jW X.prog X.w) a lo) ⟨⟨ws,dd⟩,?_⟩
exact⟨.ref s.heap.objs.size,_,I.laid (t':=s.toks) (λb o e=>hU _ e) (kN _) (qE3 ⟨_,mD _ rfl,rfl,rfl⟩),rfl,q _ (I.hok.fresh (kN _))⟩)
theorem q5A:entryFor table "dict_itemiterator.__iter__"=some Builtin.«dict_keyiterator.__iter__»:=xE (id':="dict_keyiterator.__iter__") (by kernel_rfl) (by first|decide+kernel|rfl|(unfold String.splitOn;simp+decide [String.splitOnAux])) (by decide+kernel) (by kernel_rfl)
noncomputable def Iti(a:Addr)(o:Obj)(kvs:List (Key×V)):It:=⟨λi H=>H a=some (.frz o (.dK kvs))∧i<kvs.length,λi H v H'=>∃T kv,v=.ref T∧H T=none∧H'=upd H T (.tup [kV kv.1,kv.2])∧kvs[i]?=some kv,λi H=>H a=some (.frz o (.dK kvs))∧kvs.length≤i⟩
theorem qAE{P:Program}{w:World}{K:PySem.W.Frag}{elts:List Expr}{x1}{pos:Pos}(a it:Addr)(o:Obj){kvs:List (Key×V)}{vs:List (Key×Value)}{ep:Nat}(rel:KV kvs vs)(hD:∀h:Heap,h.get? a=some o→h.DictAt (jW P w) a vs ep):
 Turn P w K (.Tuple elts x1 pos) (Iti a o kvs) [it] it (λi h=>∃k0 v0,IsItemIter h it a i vs.length ep k0 v0) where
mem:=by simp
obj:=λi h st b hb=>by
 have e:b=it:=by simpa using hb
 subst e;obtain⟨k0,v0,e⟩:=st;exact⟨_,e,λv z=>by cases z⟩
keep:=λi h h' st k=>let⟨k0,v0,e⟩:=st;⟨k0,v0,k it (by simp) _ e⟩
item:=by
 intro X hP hw hK hc i pins s σ H E I hf st hg;subst hP hw hK;obtain⟨ha,hi⟩:=hg;obtain⟨ho,_⟩:=I.hok a _ ha;have hl:=rel.length;have hi':i<vs.length:=by lia
 obtain⟨k0,v0,st⟩:=st;obtain⟨f0,f1,f2,f3,f4,f5⟩:=hf it (by simp);refine wpAny_pyNext_items_item (k:=vs[i].1) (v:=vs[i].2) st (hD _ ho) (hX hi') λkey h' hk b1 b5 b6 b7=>?_;refine⟨_,rfl,wpAny_letOwnedTupleGo_items (s:={ s with heap:=h' }) b1 λh'' c1 c2=>?_⟩;have kk:∀b o,b∉[it]→s.heap.get? b=some o→h''.get? b=some o:=λb o hb e=>by have nb:b≠it:=λz=>hb (kD.mpr z);exact c2.extBut _ _ nb (b7 b o nb e)
 have I1:Inv X pins σ H { s with heap:=h'' }:=I.turnedN (t':=s.toks) kk hf;have fr:H s.heap.objs.size=none:=I.hok.fresh (kN _);have yg:=I.young (a:=s.heap.objs.size) (pR (kN _));have nit:s.heap.objs.size≠it:=rM (kP st);have ek:=rK (λl=>l[i]?) rel.keys;simp only[mG,hX hi,hX hi',bC]at ek;have rk:RelV (kV kvs[i].1) key:=by rw[kU ek];exact qHB hk
 have rv:RelV kvs[i].2 vs[i].2:=by obtain⟨q,hq,z1,z2⟩:=Paired.at rel (hX hi);rw[hX hi']at hq;rw[kU hq];exact z2
 have I2:=I1.trackG (o:=.tup [kV kvs[i].1,kvs[i].2]) fr yg (rM I.lt) (λx' c' w q'=>by obtain⟨v,o',ho,_⟩:=I.cell x' c' w;exact absurd (kP ho) (by rw[q'];exact d6 _)) ⟨by rw[gJ,mC,mC,rZ];lia,[key,vs[i].2],.cons rk (.cons rv .nil),⟨_,c2.extBut _ _ nit b5,rfl,_,rfl⟩⟩;refine⟨.ref s.heap.objs.size,_,I2,rfl,⟨_,kvs[i],rfl,fr,rfl,hX hi⟩,⟨_,_,c1⟩,λb hb=>?_⟩;have e:b=it:=by simpa using hb
 subst e;rw[qC (wM nit)];exact(hf b hb).1
done:=by intro X hP hw hK hc i pins s σ H E I hf st hg;subst hP hw hK;obtain⟨ha,hi⟩:=hg;obtain⟨ho,_⟩:=I.hok a _ ha;have hl:=rel.length;obtain⟨k0,v0,st⟩:=st;obtain⟨f0,f1,f2,f3,f4,f5⟩:=hf it (by simp);exact wpAny_pyNext_items_end (I.ok.hd hc) st (hD _ ho) (rR (by lia)) λh' eb=>⟨rfl,I.turned (t':=s.toks) (λb o hb e=>eb b o hb e) f0 f1 f3 f4 f5⟩
self:=λA i s Q E ⟨k0,v0,st⟩ h=>by have ty:s.TypeIs (.ref it) "dict_itemiterator":=⟨_,st,rfl⟩;refine nG ty cX (wK cX ty q5A ?_ (PySem.F.args_dict_itemiterator_iter_1 _));show wpAny _ _ (ret (.ref it)) _ _ s;exact kL ⟨_,rfl,"dict_itemiterator",_,ty,PySem.F.slot_dict_itemiterator_next.lookup,h⟩
section
variable{X:Cx}
noncomputable def iItm(td:TE):TI:=λσ H R=>td σ H λx H1=>∃v a kvs,x=.ref v∧H1 v=some (q3X v a)∧H1 a=some (.dK kvs)∧∀o,R (Iti a o kvs) (upd H1 a (.frz o (.dK kvs)))
theorem qIY{elts:List Expr}{x1}{pos:Pos}{d:Expr}{td:TE}(hd:PE X d td):PI X (.Tuple elts x1 pos) d (iItm td):=by(
intro pins s σ H R I h
refine thn (hd pins s σ H _ I h) λv s1 hZ=>?_
obtain⟨x,H1,I1,r1,q1⟩:=hZ
obtain⟨vw,a,kvs,e,hv,ha,q⟩:=q1
subst e
cases r1
obtain⟨z,lo,vs,rel,dd⟩:=q8R I1.hok ha
obtain⟨ep,hat⟩:=dd.dictAt
obtain⟨o,es,ho,hr⟩:=id hat
have I2:=I1.freeze ha ho
refine wpAny_pyIter_items (qE4 I1.hok hv) hat ?_
refine⟨s1.heap.objs.size,[s1.heap.objs.size],_,_,_,rfl,I2.kept (t':=s1.toks) λb o e=>hU _ e,qAE a _ o rel (λh' h=>⟨o,es,h,hr⟩),⟨_,_,mD _ rfl⟩,λb hb=>?_,q o⟩
have e:b=s1.heap.objs.size:=by simpa using hb
subst e
exact I2.fpOk (kN _) (I2.hok.fresh (kN _)))
end
theorem qG1{a:Addr}{o:Obj}{kvs:List (Key×V)}{D:Addr}{H2:Hp}{g:TG}{tc:TT}{te:TE}{σ0:St}{R:Hp→Prop}(Pv:Nat→Hp→Prop)(h0:Pv 0 H2)(hl:∀i H,Pv i H→H a=some (.frz o (.dK kvs)))
 (hs:∀(i:Nat) kv T H,kvs[i]?=some kv→Pv i H→H T=none→g (.ref T) σ0 (upd H T (.tup [kV kv.1,kv.2])) λσ5 H5=>tc σ5 H5 λb H6=>if b=true then te σ5 H6 (λv H7=>∃vs,H7 D=some (.lst vs)∧vs.length<sizeLine∧Pv (i+1) (upd H7 D (.lst (vs++[v]))))else Pv (i+1) H6) (hd:∀H,Pv kvs.length H→R H):
 ∃W:Nat→Nat→Hp→Prop,(∃m,W 0 m H2)∧∀i m H3,W i m H3→((Iti a o kvs).stop i H3∧R H3)∨((Iti a o kvs).go i H3∧∃N:Hp→Prop,(∀H',N H'→∃m',m'<m∧W (i+1) m' H')∧∀x H4,(Iti a o kvs).yld i H3 x H4→g x σ0 H4 λσ5 H5=>tc σ5 H5 λb H6=>
   if b=true then te σ5 H6 (λv H7=>∃vs,H7 D=some (.lst vs)∧vs.length<sizeLine∧N (upd H7 D (.lst (vs++[v]))))else N H6):=by(
refine⟨λi m H=>m=kvs.length-i∧i≤kvs.length∧Pv i H,⟨kvs.length,by simp,mM _,h0⟩,?_⟩
rintro i m H ⟨rfl,hi,p⟩
have q:=hl i H p
by_cases hlt:i<kvs.length
·refine .inr ⟨⟨q,hlt⟩,Pv (i+1),λH' z=>⟨kvs.length-(i+1),by lia,rfl,by lia,z⟩,?_⟩;rintro v H' ⟨T,kv,rfl,nT,rfl,hk⟩
 exact hs i kv T _ hk p nT
obtain rfl:i=kvs.length:=by lia
exact .inl ⟨⟨q,kN _⟩,hd _ p⟩)
end L2
namespace L2
open PySem PySem.W PySem.Spec PyProof.Rows
section
variable{X:Cx}{pins:List (Addr×Obj)}{σ:St}
noncomputable def TupD(H:Hp)(v:V)(k:List Int):Prop:=∃a,v=.ref a∧H a=some (.tup (k.map V.int))
theorem TupD.i{K:PySem.W.Frag}{H:Hp}{v:V}{k:List Int}(h:TupD H v k):TupI K H v k:=let⟨a,e,z⟩:=h;⟨a,e,SqT.of z⟩
theorem TupD.same{H H':Hp}{v:V}{k:List Int}(h:TupD H v k)(s:Same H H'):TupD H' v k:=let⟨a,e,z⟩:=h;⟨a,e,s _ _ z⟩
theorem TupD.upd{H:Hp}{v:V}{k:List Int}{D:Addr}{u o:HO}(h:TupD H v k)(hd:H D=some u)(n:∀ys,u≠ .tup ys):TupD (L2.upd H D o) v k:=let⟨a,e,z⟩:=h;⟨a,e,by rw[qC (jP z hd (λq=>n _ q.symm))];exact z⟩
noncomputable def dI(ks:List (Int×Int)):List (Key×V):=ks.map λp=>((.inl p.1:Key),V.int p.2)
theorem q7Q:∀{ks:List (Int×Int)} {n m:Int},(ks.map (·.1)).Nodup→(n,m)∈ks→valV (dI ks) (.inl n:Key)=some (.int m)
|p::ks,n,m,nd,h=>by
 obtain⟨n1,n2⟩:=mY.mp nd;show valV (((.inl p.1:Key),V.int p.2)::dI ks) (.inl n)=_;rcases kM.mp h with rfl|h
 ·exact q2X rfl
 have ne:p.1≠n:=λe=>n1 (by show p.1∈_;rw[e];exact p8 (f:=λx:Int×Int=>x.1) h);rw[q0U (λe=>ne (sU e))];exact q7Q n2 h
theorem q5B:∀{ks:List (Int×Int)} {n:Int},n∉ks.map (·.1)→valV (dI ks) (.inl n:Key)=none
| [],n,_=>rfl
|p::ks,n,h=>by
 show valV (((.inl p.1:Key),V.int p.2)::dI ks) (.inl n)=_;have h':n≠p.1∧n∉ks.map (·.1):=by simpa using h
 rw[q0U (λe=>h'.1 (sU e).symm)];exact q5B h'.2
end
noncomputable def subs:List Nat→List (List Nat)
| []=>[[]]
|a::r=>(subs r).map (a:: ·)++subs r
noncomputable def q33:List (List Nat):=subs (List.range 8)
noncomputable def bel(M:List Nat)(k:Nat):Nat:=SetTable.below M.toArray k
noncomputable def insL(M:List Nat)(k:Nat):List Nat:=M.take (bel M k)++k::M.drop (bel M k)
theorem q72:∀M∈q33,∀k,k<8→M.contains k=false→bel M k≤M.length∧(M.toArray[bel M k]?==some k)=false∧insL M k∈q33:=by decide+kernel
theorem qCE:∀M∈q33,∀i,i<M.length+1→bel M (if i=0 then 0 else M.getD (i-1) 0+1)=i:=by decide+kernel
theorem q99:∀M∈q33,M=(List.range 8).filter (λx=>M.contains x):=by decide+kernel
theorem qCF:[]∈q33:=by decide+kernel
theorem qAF:∀k,k<8→hashInt ((k:Nat):Int)=k∧SetTable.bits (hashInt ((k:Nat):Int))%8=k:=by decide+kernel
theorem q5C{α:Type}(xs:Array α)(p:Nat)(x:α)(h:p≤xs.size):(SetTable.insertAt xs p x).toList=xs.toList.take p++x::xs.toList.drop p:=by unfold SetTable.insertAt;simp only[Array.toList_append,aP,Array.toList_extract,List.extract_eq_take_drop,bO,Nat.sub_zero,r6,lQ];rw[List.take_of_length_le (i:=xs.size-p) (by rw[rP,k9];exact kN _)]
structure TabX(w:World)(es:Array (Int×Value))(t:SetTable)(M:List Nat):Prop where
sm:M∈q33
es:Paired (λ(e:Int×Value) m=>e.1=hashInt ((m:Nat):Int)∧∃tk,e.2=.int ((m:Nat):Int) tk) es.toList M
pl:t.place=M.toArray
mq:t.mask=7
du:t.dummies=#[]
ld:t.led= !w.params.followText "set-order"
pn:t.plain=true
noncomputable def SetX(w:World)(h:Heap)(a:Addr)(M:List Nat):Prop:=∃o es ep t,h.get? a=some o∧o.ExactSet∧o.data=.set es ep t∧TabX w es t M
theorem SetX.keep{w:World}{h h':Heap}{a:Addr}{M:List Nat}(x:SetX w h a M)(k:∀o,h.get? a=some o→h'.get? a=some o):SetX w h' a M:=by obtain⟨o,es,ep,t,e,r⟩:=x;exact⟨o,es,ep,t,k o e,r⟩
theorem TabX.size{w:World}{es:Array (Int×Value)}{t:SetTable}{M:List Nat}(x:TabX w es t M):es.size=M.length:=by rw[←k9];exact x.es.length
theorem TabX.fits{w:World}{es:Array (Int×Value)}{t:SetTable}{M:List Nat}(x:TabX w es t M)(l:M.length≤4):t.fits es.size=true:=by(
unfold SetTable.fits SetTable.fill
rw[x.pl,x.du,x.mq,x.size]
simp
lia)
theorem TabX.el{P:Program}{w:World}{es:Array (Int×Value)}{t:SetTable}{M:List Nat}(x:TabX w es t M):ElemsOf (intKind P w) es.toList:=λe he=>by obtain⟨i,hi,rfl⟩:=pT.mp he;obtain⟨m,_,e1,tk,e2⟩:=Paired.at x.es (hX hi);exact⟨⟨m,by rw[e2];exact lG _ _ _ _,e1⟩,by rw[e2];rfl⟩
theorem TabX.found{P:Program}{w:World}{es:Array (Int×Value)}{t:SetTable}{M:List Nat}(x:TabX w es t M)(k:Nat):(es.toList.findIdx? (λe=>(intKind P w).is ((k:Nat):Int) e.2)).isSome=M.contains k:=by(
have:∀{l:List (Int×Value)} {M:List Nat},Paired (λ(e:Int×Value) m=>e.1=hashInt ((m:Nat):Int)∧∃tk,e.2=.int ((m:Nat):Int) tk) l M→(l.findIdx? (λe=>(intKind P w).is ((k:Nat):Int) e.2)).isSome=M.contains k:=by
 intro l M h;induction h with
 |nil=>rfl
 |@cons e m l M h _ ih=>
  obtain⟨_,tk,e2⟩:=h;rw[List.findIdx?_cons,List.contains_cons];have e3:(intKind P w).is ((k:Nat):Int) e.2=(k==m):=by
   rw[e2];by_cases z:k=m
   ·subst z;rw[lG];simp
   have z2:(k==m)=false:=by simpa using z
   rw[z2];cases y:(intKind P w).is ((k:Nat):Int) (Value.int ((m:Nat):Int) tk)with
   |false=>rfl
   |true=>have:=(intKind P w).inj _ _ _ y (lG P w ((m:Nat):Int) tk);exact absurd (by lia) z
  rw[e3];cases(k==m)
  ·simpa using ih
  rfl
exact this x.es)
theorem q5D{α β:Type}{R:α→β→Prop}{l:List α}{m:List β}(h:Paired R l m)(p:Nat):Paired R (l.take p) (m.take p)∧Paired R (l.drop p) (m.drop p):=by(
induction h generalizing p with
|nil=>rw[eG,eG,eI,eI];exact⟨.nil,.nil⟩
|cons a b ih=>
 cases p with
 |zero=>exact⟨.nil,.cons a b⟩
 |succ p=>exact⟨.cons a (ih p).1,(ih p).2⟩)
theorem qCG{α β:Type}{R:α→β→Prop}{l l':List α}{m m':List β}(h:Paired R l m)(h':Paired R l' m'):Paired R (l++l') (m++m'):=by(
induction h with
|nil=>exact h'
|cons a b ih=>exact .cons a ih)
theorem TabX.lay{w:World}{es:Array (Int×Value)}{t:SetTable}{M:List Nat}(x:TabX w es t M){k:Nat}(k8:k<8)(nk:M.contains k=false)(l:M.length≤3)(tk:Tok):
 ∃es' t',layNew t es (hashInt ((k:Nat):Int)) (.int ((k:Nat):Int) tk)=(es',t',false,false)∧TabX w es' t' (insL M k)∧t'.tooFull=false:=by(
obtain⟨p1,p2,p3⟩:=q72 M x.sm k k8 nk
obtain⟨e1,e2⟩:=qAF k k8
have b1:SetTable.below t.place k=bel M k:=by rw[x.pl];rfl
have hs:t.slot k=.empty:=by
 unfold SetTable.slot;rw[b1,x.du];have:(t.place[bel M k]?==some k)=false:=by rw[x.pl];exact p2
 show(if(t.place[bel M k]?==some k)=true then _ else _)=_;rw[this];rfl
have hf:t.freeSlot (hashInt ((k:Nat):Int))=some (k,false):=by unfold SetTable.freeSlot SetTable.probe SetTable.probeStart SetTable.turns;rw[x.mq];show(match SetTable.probe.go _ _ _ (219+1) _ with|some (.empty j dummy)=>some (dummy.getD j,dummy.isSome)|_=>none)=_;unfold SetTable.probe.go;dsimp only;rw[show SetTable.bits (hashInt ((k:Nat):Int))%(7+1)=k from e2,hs];rfl
have hp:t.put k=({ t with place:=SetTable.insertAt t.place (bel M k) k,dummies:=#[] },bel M k):=by unfold SetTable.put;rw[b1,x.du];rfl
have sz:(SetTable.insertAt es (bel M k) (hashInt ((k:Nat):Int),Value.int ((k:Nat):Int) tk)).size=M.length+1:=by rw[←k9,q5C _ _ _ (by rw[x.size];exact p1),kZ,mC,mZ,rP,k9,x.size];lia
have pl:SetTable.insertAt t.place (bel M k) k=(insL M k).toArray:=by rw[←pM,q5C _ _ _ (by rw[x.pl];simpa using p1),x.pl];rfl
have li:(insL M k).length=M.length+1:=by unfold insL;rw[kZ,mC,mZ,rP];lia
have ft:({ t with place:=SetTable.insertAt t.place (bel M k) k,dummies:=#[] }:SetTable).fits (M.length+1)=true:=by unfold SetTable.fits SetTable.fill;dsimp only;rw[pl,x.mq];simp[li];lia
refine⟨SetTable.insertAt es (bel M k) (hashInt ((k:Nat):Int),Value.int ((k:Nat):Int) tk),{ t with place:=SetTable.insertAt t.place (bel M k) k,dummies:=#[] },?_,⟨p3,?_,pl,x.mq,rfl,x.ld,x.pn⟩,?_⟩
·unfold layNew;rw[hf];dsimp only;rw[hp];dsimp only;unfold SetTable.orStandIn;rw[sz,ft];rfl
·rw[q5C _ _ _ (by rw[x.size];exact p1)];exact qCG (q5D x.es _).1 (.cons ⟨rfl,tk,rfl⟩ (q5D x.es _).2)
unfold SetTable.tooFull SetTable.fill
dsimp only
rw[pl,x.mq]
simp[li]
lia)
noncomputable def inL(M:List Nat)(k:Nat):List Nat:=if M.contains k=true then M else insL M k
section
variable{P:Program}{w:World}{A:Around}{E:Value→Shared→Prop}{s:Shared}
theorem qE6{a:Addr}{M:List Nat}{k:Nat}{tk:Tok}{Q:Bool→Shared→Prop}(hx:SetX w s.heap a M)(k8:k<8)(l:(inL M k).length≤4)
 (h:∀b h',Heap.SameBut a s.heap h'→SetX w h' a (inL M k)→Q b { s with heap:=h' }):
 wpAny (model P w) A (setAddHashed a (.int ((k:Nat):Int) tk) ((intKind P w).hash ((k:Nat):Int))) Q E s:=by(
obtain⟨o,es,ep,t,ho,hex,hd,tx⟩:=hx
have l4:M.length≤4:=by
 unfold inL at l;split at l
 ·exact l
 unfold insL at l;rw[kZ,mC,mZ,rP]at l;lia
have hf:=tx.fits l4
have sc:(Value.int ((k:Nat):Int) tk).scannable=true:=rfl
unfold setAddHashed setAddHashedIn
refine gG (hG (pC ho hd hf ?_))
dsimp only
rw[byScan_of (knd:=intKind P w) sc (by rw[tx.size];exact dW l4 (by decide)) tx.el]
simp only[↓reduceIte]
unfold setAddByScan
refine hG ?_
refine hG (bQ ?_)
refine hG (wpAny_setScan_of (knd:=intKind P w) (lG _ _ _ _) ho hd hf tx.el ?_)
have hfd:=tx.found (P:=P) k
cases hr:List.findIdx? (λe=>(intKind P w).is ((k:Nat):Int) e.2) es.toList with
|some j=>
 rw[hr]at hfd;dsimp only;refine kL (kL ?_);have e:s= { s with heap:=s.heap }:=by cases s;rfl
 rw[e];refine h _ s.heap (aK a s.heap) ?_;unfold inL;rw[kI (show M.contains k=true from hfd.symm)];exact⟨o,es,ep,t,ho,hex,hd,tx⟩
|none=>
 rw[hr]at hfd;have nk:M.contains k=false:=hfd.symm;dsimp only;have ei:inL M k=insL M k:=by unfold inL;rw[nk];rfl
 rw[ei]at h l;obtain⟨es',t',el,tx',tf⟩:=tx.lay k8 nk (by unfold insL at l;rw[kZ,mC,mZ,rP]at l;lia) tk;rw[show(intKind P w).hash ((k:Nat):Int)=hashInt ((k:Nat):Int)from rfl,el];dsimp only;refine hG (kL ?_);rw[tx'.pn,kI rfl,hashByValue_scannable 8 sc];refine hG (kL ?_);simp only[show plainKind (Value.int ((k:Nat):Int) tk)=true from rfl,↓reduceIte,tf,bR,dF];have z:=tx'.size;refine hG (wpAny_storeSet_of ho hd (kL (kL (h _ _ (cT s.heap a _) ?_))) (by rw[z,gJ];lia));have hg:(s.heap.update a (Obj.putSet es' t')).get? a=some { o with data:=.set es' (ep+1) t' }:=by have:=gN (Obj.putSet es' t') ho (by rw[putSet_of es' t' hd];rfl);rw[putSet_of es' t' hd]at this;exact this
 exact⟨_,es',ep+1,t',hg,hex,rfl,tx'⟩)
end
theorem q34:Slot "set_iterator" "__next__" "set_iterator.__next__":=.of (owner:="set_iterator") (n:="__next__") (by rw[typeLookup_type,lR];kernel_rfl) (by decide+kernel) (by decide+kernel) (by decide+kernel)
  (by first|exact .inl (by decide+kernel)|exact .inr (by decide+kernel)) (by rw[xF];kernel_rfl)
theorem q9A:Slot "set_iterator" "__iter__" "set_iterator.__iter__":=.of (owner:="set_iterator") (n:="__iter__") (by rw[typeLookup_type,lR];kernel_rfl) (by decide+kernel) (by decide+kernel) (by decide+kernel)
  (by first|exact .inl (by decide+kernel)|exact .inr (by decide+kernel)) (by rw[xF];kernel_rfl)
theorem qCH:entryFor table "set_iterator.__next__"=some Builtin.«set_iterator.__next__»:=entryFor_of_tree (by kernel_rfl)
theorem qCI:entryFor table "set_iterator.__iter__"=some Builtin.«dict_keyiterator.__iter__»:=xE (id':="dict_keyiterator.__iter__") (by kernel_rfl) rfl (by decide+kernel) (by kernel_rfl)
theorem qAG:entryFor table "set.__iter__"=some Builtin.«frozenset.__iter__»:=xE (id':="frozenset.__iter__") (by kernel_rfl) rfl (by decide+kernel) (by kernel_rfl)
theorem qCJ(a:Value):argsOk "set_iterator.__next__" ⟨[a],[]⟩:=by unfold argsOk;kernel_rfl
theorem qCK(a:Value):argsOk "set_iterator.__iter__" ⟨[a],[]⟩:=by unfold argsOk;kernel_rfl
theorem q73{α:Type}(f:Nat→Nat):∀(n k:Nat) (l:List α) (out:Array α),l.length=n→(pickOrder.go f n k l out).toList.Perm (out.toList++l)
|0,k,l,out,h=>by rw[List.length_eq_zero_iff.mp h];show out.toList.Perm _;simp
|n+1,k,l,out,h=>by have hi:f k%l.length<l.length:=Nat.mod_lt _ (by lia);unfold pickOrder.go;rw[hX hi];dsimp only;refine(q73 f n (k+1) _ _ (by rw[List.length_eraseIdx_of_lt hi];lia)).trans ?_;rw[aP,r6];refine List.Perm.append_left _ ?_;rw[List.eraseIdx_eq_take_drop_succ,lQ];refine List.perm_middle.symm.trans (bH ?_);rw[←dU hi,cA]
section
variable{P:Program}{w:World}{A:Around}{E:Value→Shared→Prop}{s:Shared}
noncomputable def wlk(w:World)(a:Addr)(ep:Nat)(es:Array (Int×Value)):Array (Int×Value):=if w.params.followText "set-order"=true then pickOrder (w.params.setOrder a ep) es else es
theorem q5E{a:Addr}{ep:Nat}{es:Array (Int×Value)}:(wlk w a ep es).toList.Perm es.toList:=by(
unfold wlk
split
·have:=q73 (w.params.setOrder a ep) es.size 0 es.toList #[] k9;simpa[pickOrder]using this
exact bN _)
noncomputable def slt(w:World)(M:List Nat)(i:Nat):Nat:=if w.params.followText "set-order"=true then 0 else if i=0 then 0 else M.getD (i-1) 0+1
noncomputable def ItX(h:Heap)(it a:Addr)(sl i n ep:Nat):Prop:=∃o,h.get? it=some o∧o.cls=.type "set_iterator"∧o.data=.fields #[.int (sl:Int) 0,.int (i:Int) 0,.ref a,.int (n:Int) 0,.int (ep:Int) 0]
noncomputable def ObX(w:World)(h:Heap)(a:Addr)(es:Array (Int×Value))(ep:Nat)(t:SetTable)(M:List Nat):Prop:=∃o,h.get? a=some o∧o.ExactSet∧o.data=.set es ep t∧TabX w es t M
theorem qE7{a:Addr}{es:Array (Int×Value)}{ep:Nat}{t:SetTable}{M:List Nat}{i:Nat}{Q:Option (Value×Nat)→Shared→Prop}(hx:ObX w s.heap a es ep t M)(l:M.length≤4)(hi:i≤M.length)
 (h:Q (((wlk w a ep es)[i]?).map λe=>(e.2,slt w M (i+1))) s):wpAny (model P w) A (setNext a (slt w M i) i ep) Q E s:=by(
obtain⟨o,ho,hex,hd,tx⟩:=hx
have hf:=tx.fits l
have sz:=tx.size
have hes:=tx.es
obtain⟨mask,place,dummies,finger,led,moves,plain⟩:=t
obtain rfl:plain=true:=tx.pn
obtain rfl:place=M.toArray:=tx.pl
have hl:=tx.ld
unfold setNext
refine hG (pC ho hd hf ?_)
dsimp only
unfold setsByText
refine hG (hG (cQ (kL ?_)))
unfold wlk slt at *
cases hb:w.params.followText "set-order" with
|true=>rw[hb]at h;have hb':(model P w).w.params.followText "set-order"=true:=hb;simp only[hb,hb',↓reduceIte,cF,dF]at h ⊢;refine hG ?_;unfold setWalk setsByText;refine hG (pC ho hd hf ?_);dsimp only;refine hG (hG (cQ (kL ?_)));simp only[hb',↓reduceIte];refine hG (cQ (kL (kL ?_)));exact h
|false=>
 rw[hb]at h hl;obtain rfl:led=true:=hl;have hb':(model P w).w.params.followText "set-order"=false:=hb;simp only[hb,hb',dF,↓reduceIte]at h ⊢;refine wV (λhab=>absurd hab kO) (λ_=>?_);refine hG (m:=ite _ _ _) (wV (λhab=>absurd hab kO) (λ_=>kL ?_));have eb:SetTable.below M.toArray (if i=0 then 0 else M.getD (i-1) 0+1)=i:=qCE M tx.sm i (by lia);rw[eb];refine kL ?_;by_cases hlt:i<M.length
 ·have h1:i<es.size:=by lia
  rw[sT h1]at h ⊢;have:M.toArray[i]?=some (M.getD i 0):=by simp[hlt]
  rw[this];simpa using h
 have h1:es[i]?=none:=pF (by lia);rw[h1]at h ⊢;exact h)
end
section
variable{P:Program}{w:World}{A:Around}{E:Value→Shared→Prop}{s:Shared}{it a:Addr}{es:Array (Int×Value)}{ep:Nat}{t:SetTable}{M:List Nat}{i:Nat}
theorem q5F{Q:Option Value→Shared→Prop}(hit:ItX s.heap it a (slt w M i) i M.length ep)(hx:ObX w s.heap a es ep t M)(l:M.length≤4)(hi:i≤M.length)
 (h1:∀e,(wlk w a ep es)[i]?=some e→∀h',ItX h' it a (slt w M (i+1)) (i+1) M.length ep→Heap.SameBut it s.heap h'→Q (some e.2) { s with heap:=h' })
 (h2:A.handled=none∧((wlk w a ep es)[i]?=none→∀h',Heap.ExtBut it s.heap h'→Q none { s with heap:=h' })∨i<M.length):
 wpAny (model P w) A (pyNext (.ref it)) Q E s:=by(
obtain⟨o,ho,hc,hd⟩:=id hit
obtain⟨oa,hoa,hex,hda,tx⟩:=id hx
have hT:s.TypeIs (.ref it) "set_iterator":=⟨o,ho,hc⟩
have hf:=tx.fits l
have wl:(wlk w a ep es).size=M.length:=by rw[←k9,q5E.length_eq,k9,tx.size]
unfold pyNext
refine hG (nJ (wpAny_callSpecial?_slot (name:=Str.ofString "__next__") hT q34 (wK q34 hT qCH ?_ (qCJ _))))
show wpAny _ _ (fieldsOf (.ref it) >>= _) _ _ s
refine hG (wpAny_fieldsOf ho hd ?_)
dsimp only
refine hG (xM hoa hda hf ?_)
rw[tx.size]
refine wV (λhab=>absurd hab (by simp)) (λ_=>?_)
rw[mI,mI,mI]
refine hG (qE7 hx l hi ?_)
cases hw:(wlk w a ep es)[i]? with
|some e=>dsimp only[Option.map];refine hG (cL ho hd (by simp) ?_);have g1:=gN (Obj.mapFields (·.setIfInBounds 0 (rawInt (slt w M (i+1))))) ho (dB (gT hd _));refine hG (cL g1 (gT hd _) (by simp) (kL ⟨e.2,rfl,kL (h1 e hw _ ?_ ((cT ..).trans (cT ..)))⟩));exact⟨_,gN _ g1 (dB (gT (gT hd _) _)),((sX ..).trans (sX ..)).trans hc,by rw[gT (gT hd _)];simp[rawInt]⟩
|none=>have h2:=h2.resolve_right (λz=>by rw[sT (by rw[wl];exact z)]at hw;cases hw);dsimp only[Option.map];refine hG (cL ho hd (by simp) ?_);show wpAny _ _ (newExc (.type "StopIteration") [] >>= _) _ _ _;refine hG ?_;simp only[newExc,newTuple];refine hG (cE ?_ (by size_fits));refine hG (m:=firstArgMember _ _) (xG (a:=Value.none) (by first|rfl|(simp only[firstArgMember];rfl)) ?_);refine cE ?_ (by size_fits);simp only[raiseNew];refine hG (wpAny_handled ?_);rw[show A.in1.handled=none from h2.1];refine hG (kL (wpAny_throw ?_));refine hG (wpAny_isInstance (T:="StopIteration") (b:=true) ⟨_,mD _ rfl,rfl⟩ isSubtype_stop ?_);exact kL (h2.2 hw _ (((cT ..).extBut.push _).push _)))
theorem qKH{Q:Value→Shared→Prop}(hx:ObX w s.heap a es ep t M)(l:M.length≤4)
 (hQ:Q (.ref s.heap.objs.size) { s with heap:=s.heap.push { cls:=.type "set_iterator",data:=.fields #[.int 0 0,.int 0 0,.ref a,.int (M.length:Int) 0,.int (ep:Int) 0] } }):
 wpAny (model P w) A (pyIter (.ref a)) Q E s:=by(
obtain⟨o,ho,hex,hd,tx⟩:=id hx
have hT:s.TypeIs (.ref a) "set":=⟨o,ho,hex.1⟩
have hf:=tx.fits l
have sz:=tx.size
refine nG hT lT (wK lT hT qAG ?_ (PySem.F.args_set_iter_1 _))
unfold Builtin.«frozenset.__iter__» Builtin.Frozenset.slot0 slotArgs
simp only[List.isEmpty_nil,Bool.not_true,dF,↓reduceIte,bind_assoc,rZ,cF]
unfold Builtin.Frozenset.addrOf Builtin.Frozenset.sizeOf
refine hG (kL ?_)
try dsimp only
refine hG (kL ?_)
refine hG (hG (xM ho hd hf (kL ?_)))
unfold setDrawn
have hpn:=tx.pn
obtain⟨mask,place,dummies,finger,led,moves,plain⟩:=t
obtain rfl:plain=true:=hpn
refine hG (hG (pC ho hd hf ?_))
dsimp only
unfold setsByText
refine hG (hG (cQ (kL ?_)))
refine kL ?_
refine wV (λhab=>absurd (show(_&&false)=true from hab) (by simp)) (λ_=>?_)
refine hG (kL ?_)
refine hG (wpAny_setEpoch_of ho hd hf ?_)
refine hG (cE (kL ⟨_,rfl,"set_iterator",_,⟨_,mD _ rfl,rfl⟩,q34.lookup,?_⟩))
rw[sz]
exact hQ)
theorem qKI{Q:Bool→Shared→Prop}(hT:s.TypeIs (.ref a) "set")(h:Q false s):wpAny (model P w) A (Builtin.List.listLengthHint (.ref a)) Q E s:=by(
unfold Builtin.List.listLengthHint
refine hG (wpAny_specialOf hT PySem.F.slot_set_len.lookup ?_)
generalize hid:("set.__len__":String)=id0
wp_delta
rw[show splitId id0=some ("set","__len__")from by subst hid;decide+kernel]
subst hid
refine hG (wpAny_isInstance (T:="set") (b:=true) hT (by rw[xF];kernel_rfl) ?_)
refine wV (λhab=>absurd hab (by decide)) (λ_=>?_)
refine wV (λ_=>?_) (λhab=>absurd (by decide+kernel) hab)
refine hG (wpAny_typeOf hT ?_)
exact kL h)
theorem kdlX(l:M.length≤4):KdlSrc P w "set" a a M.length (λi v=>∃e,(wlk w a ep es)[i]?=some e∧v=e.2) (λh=>ObX w h a es ep t M) where
type:=λ_ ⟨o,ho,hex,_⟩=>⟨o,ho,hex.1⟩
there:=λ_ ⟨o,ho,_⟩=>⟨kP ho,kP ho⟩
keep:=λ_ _ ⟨o,ho,r⟩ hk=>⟨o,hk a (.inl rfl) o ho,r⟩
notList:=by decide
notTuple:=by decide
hint:=λ_ _ _ _ ⟨o,ho,hex,_⟩ hq=>qKI ⟨o,ho,hex.1⟩ hq
iter:=λA s hh hx=>by
 have na:a≠s.heap.objs.size:=let⟨_,ho,_⟩:=hx;mK (kP ho)
 refine⟨_,λi h=>ItX h s.heap.objs.size a (slt w M i) i M.length ep∧ObX w h a es ep t M,λ_ _ hq=>qKH hx l hq,?_,⟨_,mD _ rfl,rfl,?_⟩,?_⟩
 ·refine⟨λb hb=>by simp at hb;simp[hb],λ_ _ _ st hk=>⟨?_,?_⟩,λi s' Q E hi st hQ=>?_,λs' Q E st hQ=>?_,λ_ s' Q E st hQ=>?_⟩
  ·obtain⟨o,ho,r⟩:=st.1;exact⟨o,hk _ (by simp) o ho,r⟩
  ·obtain⟨o,ho,r⟩:=st.2;exact⟨o,hk _ (by simp) o ho,r⟩
  ·refine q5F st.1 st.2 l (c6 hi) (λe he h' i' sb=>?_) (.inr hi);obtain⟨o,ho,r⟩:=st.2;exact hQ _ h' s'.toks ⟨e,he,rfl⟩ ⟨i',o,(sb.2 a na).trans ho,r⟩ λb o hb e=>(sb.2 b (λz=>hb (by simp[z]))).trans e
  ·obtain⟨o,ho,_,_,tx⟩:=id st.2;have wl:(wlk w a ep es).size=M.length:=by rw[←k9,q5E.length_eq,k9,tx.size]
   refine q5F st.1 st.2 l (kN _) (λe he=>?_) (.inl ⟨hh,λ_ h' eb=>hQ h' s'.toks λb o hb e=>eb b o (λh=>hb (by simp[h])) e⟩);rw[pF (by rw[wl];exact kN _)]at he;cases he
  obtain⟨o,ho,hc,_⟩:=st.1;refine nG ⟨o,ho,hc⟩ q9A (wK q9A ⟨o,ho,hc⟩ qCI ?_ (qCK _));show wpAny _ _ (ret (.ref _)) _ _ s';exact kL ⟨_,rfl,"set_iterator",_,⟨o,ho,hc⟩,q34.lookup,hQ⟩
 ·have:slt w M 0=0:=by unfold slt;simp
  rw[this];rfl
 obtain⟨o,ho,r⟩:=hx;exact⟨o,hU _ ho,r⟩
end
noncomputable def tkL(ks:List Nat):List Nat:=(List.range 8).filter λx=>ks.contains x
theorem q3Y(p:Nat→Bool):∀l:List Nat,l.filter p∈subs l
| []=>kD.mpr rfl
|a::r=>by
 have:=q3Y p r;unfold subs;rw[gA];split
 ·exact gK _ (mE.mpr ⟨_,this,rfl⟩)
 exact kQ _ this
theorem q3L{ks:List Nat}:tkL ks∈q33:=q3Y _ _
theorem qBH{ks:List Nat}{x:Nat}:x∈tkL ks↔x<8∧x∈ks:=by unfold tkL;rw[mP,mQ,cB]
theorem qG2{M:List Nat}{k x:Nat}:x∈inL M k↔x∈M∨x=k:=by(
unfold inL
split
·rename_i z;exact⟨.inl,λh=>h.elim id λe=>e▸cB.mp z⟩
unfold insL
rw[gH,kM]
constructor
·rintro(h|h|h)
 ·exact .inl (pU h)
 ·exact .inr h
 exact .inl (List.mem_of_mem_drop h)
rintro(h|h)
·rw[←cA (bel M k) M]at h;rcases gH.mp h with h|h
 ·exact .inl h
 exact .inr (.inr h)
exact .inr (.inl h))
theorem qE8{l:List Nat}{k:Nat}(k8:k<8):inL (tkL l) k=tkL (l++[k]):=by(
have m:inL (tkL l) k∈q33:=by
 unfold inL;split
 ·exact q3L
 rename_i z;exact(q72 _ q3L k k8 (by simpa using z)).2.2
rw[q99 _ m,q99 _ (q3L (ks:=l++[k]))]
refine pG λx hx=>?_
rw[rX,cB,cB,qG2,qBH,qBH,gH,kD]
constructor
·rintro(⟨h1,h2⟩|h)
 ·exact⟨h1,.inl h2⟩
 exact⟨h▸k8,.inr h⟩
rintro⟨h1,h2|h2⟩
·exact .inl ⟨h1,h2⟩
exact .inr h2)
theorem qG3{M:List Nat}{k:Nat}:(inL M k).length≤M.length+1:=by(
unfold inL insL
split
·lia
rw[kZ,mC,mZ,rP]
lia)
theorem qBI:∀{ks:List Nat},(∀k∈ks,k<8)→(tkL ks).length≤ks.length:=by(
intro ks h
have:∀n,n≤ks.length→(tkL (ks.take n)).length≤n:=by
 intro n;induction n with
 |zero=>intro _;unfold tkL;simp
 |succ n ih=>intro hn;rw[←mL (show n<ks.length from hn),←qE8 (h _ (m7 hn))];have:=qG3 (M:=tkL (ks.take n)) (k:=ks[n]);have:=ih (by lia);lia
have:=this ks.length (kN _)
rwa [gC]at this)
section
variable{P:Program}{w:World}{A:Around}{E:Value→Shared→Prop}{s:Shared}{I:Addr}{fp wr:List Addr}{G:Array GenState→Array GenState→Prop}{n:Nat}{C:Nat→Value→Prop}{St:Nat→Shared→Prop}
theorem qCL{R:Result→Shared→Prop}(W:WalksS P w A.in1 I fp wr G n C St)(a:Addr)(na:a∉fp)(ks:List Nat)(ln:ks.length=n)(hv:∀i v,C i v→∃k,ks[i]?=some k∧∃tk,v=.int ((k:Nat):Int) tk)(hb:n≤4)(h8:∀k∈ks,k<8):
 ∀(j i:Nat) (s:Shared),n-i=j→i≤n→St i s→SetX w s.heap a (tkL (ks.take i))→(∀s',Moved (a::wr) G s s'→SetX w s'.heap a (tkL ks)→R (.ok (.ret .none)) s')→codeAny (model P w) A (.builtin "set.update.loop" ⟨[.ref a,.ref I],[]⟩) R s:=by(
have nw:a∉wr:=λh=>na (W.sub _ h)
have sb:∀b∈wr,b∈a::wr:=λb hb=>kC _ hb
intro j
induction j with
|zero=>
 intro i s hj hi st hS hR;obtain rfl:i=n:=by lia
 refine dC nV ?_;rw[gR cZ _];refine hG (m:=pyNext (.ref I)) (W.done s _ _ st λs' hm=>?_);refine kL (hR s' (hm.mono sb) ?_);rw[←ln,gC]at hS;exact hS.keep λo e=>hm.heap a _ nw e
|succ j ih=>
 intro i s hj hi st hS hR;have lt:i<n:=by lia
 refine dC nV ?_;rw[gR cZ _];refine hG (m:=pyNext (.ref I)) (W.item i s _ _ lt st λv s' hC st' hm=>?_);obtain⟨k,hk,tk,rfl⟩:=hv i v hC;have hS':=hS.keep λo e=>hm.heap a _ nw e;obtain⟨hi',ek⟩:=kB.mp hk;have k8:k<8:=h8 k (ek▸m7 hi');have e3:inL (tkL (ks.take i)) k=tkL (ks.take (i+1)):=by rw[←mL hi',ek];exact qE8 k8
 refine hG (m:=holding [Value.int ((k:Nat):Int) tk] (setAdd a (Value.int ((k:Nat):Int) tk))) (gG ?_);unfold setAdd;refine gG (hG ((intKind P w).pyHash (k:=((k:Nat):Int)) (lG _ _ _ _) ?_));refine qE6 (s:={ s' with toks:=s'.toks+1 }) hS' k8 (by rw[e3];have:=qBI (ks:=ks.take (i+1)) (λx hx=>h8 x (pU hx));rw[mZ]at this;lia) λb h' hsb h2=>?_;rw[e3]at h2;refine kL ⟨d7 cZ _,ih (i+1) _ (by lia) lt (W.frame _ s' _ _ st' (g4 _) λb hb o e=>?_) h2 λs'' m'' S''=>?_⟩
 ·rw[hsb.2 b (λz=>na (z▸hb))];exact e
 refine hR s'' (Moved.trans W.gtrans ((hm.mono sb).then_heap (g4 _) λb o hb e=>?_) m'') S'';rw[hsb.2 b (λz=>hb (z▸kX))];exact e)
theorem q65(a:Value){Q₁:Value→Shared→Prop}
 (h:Q₁ (.ref s.heap.objs.size) { s with heap:=s.heap.push { cls:=.type "set",dict:=none,data:=.set #[] 0 (.fresh 0 0 (!w.params.followText "set-order")) } }):
 codeAny (model P w) A (.call (.builtin "set.__new__") ⟨[.type "set",a],[]⟩) (wants Q₁ E) s:=by(
refine codeAny_of_tree ?_
show wpAny _ A.in1 (do checkBuiltinCall "set.__new__" ⟨[.type "set",a],[]⟩;again (.builtin "set.__new__" ⟨[.type "set",a],[]⟩)) _ _ s
refine hG (xG (F.newCall_set_1 a) (kL ⟨d7 bI _,dC F.entry_set_new ?_⟩))
rw[gR bI _]
unfold Builtin.«set.__new__» Builtin.Frozenset.newClass
have hsub:=sub_set_self
obtain⟨hp,g,d,tk,os⟩:=s
dsimp only
wp_walk
refine cQ (kL ?_)
dsimp only
simp only[newObj]
refine hG (wpAny_alloc (kL ?_))
exact kL h)
noncomputable abbrev setN(led:Bool):Obj:={ cls:=.type "set",dict:=none,data:=.set #[] 0 (.fresh 0 0 led) }
theorem qG4{l:Addr}{its:Array Value}{ks:List Nat}{Q:Value→Shared→Prop}(hh:A.handled=none)(hl:s.heap.IsList l its)(hv:∀(i:Nat) (v:Value),its[i]?=some v→∃k,ks[i]?=some k∧∃tk,v=.int ((k:Nat):Int) tk)(ln:ks.length=its.size)(hb:its.size≤4)(h8:∀k∈ks,k<8)
 (h:∀(h':Heap) (tk:Nat),SetX w h' s.heap.objs.size (tkL ks)→(∀b o,b<s.heap.objs.size→s.heap.get? b=some o→h'.get? b=some o)→Q (.ref s.heap.objs.size) { s with heap:=h',toks:=tk }):
 wpAny (model P w) A (call (.type "set") [.ref l]) Q E s:=by(
obtain⟨c,tl,hmro⟩:=wR.mro
have z1:=wR.made
have z2:=wR.sub
refine cJ (codeAny_of_tree (show wpAny _ _ (callAny (.type "set") _) _ _ _ from kL ⟨Code.quiet_builtin _ (by decide+kernel),dC F.entry_type_call ?_⟩))
rw[Around.under_plain (weight_type_call_type "set" [.ref l] []) rfl]
have z3:=wR.notType
have z4:=wR.canCreate
have z5:=F.typeCall_set_1 (.ref l)
repeat (any_goals (first|assumption|wp_step))
refine wO (q65 (.ref l) (E:=E) (Q₁:=λobj s₁=>obj=.ref s.heap.objs.size∧s₁= { s with heap:=s.heap.push (setN (!w.params.followText "set-order")) }) ⟨rfl,rfl⟩) λr s₁ hr=>?_
cases r with
|error e=>exact hr
|ok fl=>
 cases fl with
 |ret obj=>
  obtain⟨rfl,rfl⟩:=hr;generalize hled:(!w.params.followText "set-order")=led;have hS:(s.heap.push (setN led)).get? s.heap.objs.size=some (setN led):=mD _ rfl;have hT:Shared.TypeIs { s with heap:=s.heap.push (setN led) } (.ref s.heap.objs.size) "set":=⟨_,hS,rfl⟩;have z6:=wR.init.lookup;have z7:=wR.init.bind (.ref s.heap.objs.size);repeat (any_goals (first|assumption|wp_step))
  refine wO (cM (R:=wants (λr s₂=>r=.none∧∃h' tk,s₂= { s with heap:=h',toks:=tk }∧SetX w h' s.heap.objs.size (tkL ks)∧(∀b o,b<s.heap.objs.size→s.heap.get? b=some o→h'.get? b=some o)) E) wR.init.plain F.entry_set_init (check_set_init_1 hT ?_)) λr₂ s₂ hr₂=>?_
  ·obtain⟨ol,hol,hcl,nl,hdl⟩:=hl;obtain⟨oc,od,oda,osl⟩:=ol;simp only at hcl hdl;subst hcl hdl;have hol':(s.heap.push (setN led)).get? l=some { cls:=.type "list",dict:=od,data:=.seq its nl,slots:=osl }:=hU _ hol;have z8:=F.sub_list_set;have z9:=F.sub_list_frozenset;have hne:(Value.type "list"==Value.type "dict")=false:=by decide
   have hl1:(s.heap.push (setN led)).IsList l its:=⟨_,hol',rfl,nl,rfl⟩;unfold Builtin.«set.__init__» noKeywords Builtin.Frozenset.updateFrom;generalize hPI:pyIter=PI;wp_walk
   subst hPI;refine sV hl1 (hG (wpAny_runValue ?_));have lS:l<s.heap.objs.size:=kP hol;have h3:A.in1.in1.in1.handled=none:=by simp[hh]
   have nI:l≠(s.heap.push (setN led)).objs.size:=by rw[wG];lia
   have nf:s.heap.objs.size∉[(s.heap.push (setN led)).objs.size,l]:=by rw[wG];simp;lia
   refine qCL ((lI h3 _ l nI its).toS) s.heap.objs.size nf ks ln hv hb h8 (its.size-0) 0 _ (by lia) (mM _) ⟨⟨_,mD _ rfl,rfl,rfl⟩,hl1.push _⟩ ?_ ?_
   ·exact⟨_,#[],0,_,hU _ hS,⟨rfl,rfl,rfl⟩,rfl,qCF,.nil,rfl,rfl,rfl,hled.symm,rfl⟩
   intro s' hm hS';obtain⟨h',g',d',tk',os'⟩:=s';obtain rfl:g'=s.gens:=hm.gens;obtain rfl:d'=s.drawn:=hm.drawn;obtain rfl:os'=s.os:=hm.os;refine show wpAny _ _ _ _ _ _ from kL (show wpAny _ _ (ret Value.none) _ _ _ from kL ⟨rfl,h',tk',rfl,hS',λb o hb e=>?_⟩)
   refine hm.heap b o ?_ (hU _ (hU _ e));rw[wG];simp;lia
  cases r₂ with
  |error e=>exact hr₂
  |ok fl₂=>
   cases fl₂ with
   |ret r=>
    obtain⟨rfl,h',tk,rfl,hS',hk'⟩:=hr₂;repeat (any_goals (first|assumption|wp_step))
    exact h _ _ hS' hk'
   |_=>exact hr₂.elim
 |_=>exact hr.elim)
end
noncomputable def setX(w:World)(a:Addr)(M:List Nat):HO:=.ext λh=>SetX w h a M
section
variable{X:Cx}
theorem q74(hc:X.calm=true):q0T X (.type "set") (λxs H Q=>∃(p:Addr) (ks:List Nat),xs=[.ref p]∧SqL X.K H p (ks.map λ(k:Nat)=>V.int (k:Int))∧ks.length≤4∧(∀k∈ks,k<8)∧∀a H',H a=none→Same H H'→H' a=some (setX X.w a (tkL ks))→Q (.ref a) H'):=by(
intro pins s σ H xs us Q I r hZ
obtain⟨p,ks,ex,hq,h1,h8,q⟩:=hZ
subst ex
obtain⟨u,rfl,rx⟩:=zQ r
cases rx
obtain⟨its,rv,pl,hz⟩:=I.list hq
have hlen:its.length=ks.length:=by rw[←rv.length,h9]
refine qG4 (ks:=ks) (I.ok.hd hc) pl.isList (λi v hv=>?_) (by simp[hlen]) (by simp;lia) h8 λh' tk hs hk=>?_
·have hv:its[i]?=some v:=by simpa using hv
 have hi:i<its.length:=(kB.mp hv).1;obtain⟨u,hu,ru⟩:=rv.get (i:=i) (x:=.int ((ks[i]'(by lia):Nat):Int)) (by rw[mG,hX (by lia)];rfl);rw[hv]at hu;cases hu;obtain⟨tk,rfl⟩:=ru;exact⟨_,hX (by lia),tk,rfl⟩
refine⟨.ref s.heap.objs.size,_,I.laid (λb o e=>hk b o (kP e) e) (kN _) (show jA X.prog X.w _ _ _ (setX X.w s.heap.objs.size (tkL ks))from⟨hs,?_,λh1 h2 x k=>x.keep k⟩),rfl,q _ _ (I.hok.fresh (kN _)) (Same.upd (I.hok.fresh (kN _))) qI⟩
obtain⟨o,_,_,_,e,_⟩:=hs
exact⟨o,e⟩)
theorem qE9:∀M∈q33,M.Pairwise (·≤·):=by decide+kernel
theorem q35(hc:X.calm=true):q0T X (.builtin "sorted") (λxs H Q=>∃(a:Addr) (M:List Nat),xs=[.ref a]∧H a=some (setX X.w a M)∧M.length≤4∧NewO H (.lst (M.map λ(k:Nat)=>V.int (k:Int))) Q):=by(
intro pins s σ H xs us Q I r hZ
obtain⟨a,M,ex,ha,l4,q⟩:=hZ
subst ex
obtain⟨u,rfl,rx⟩:=zQ r
cases rx
obtain⟨hx,_⟩:=I.hok a _ ha
obtain⟨o,es,ep,t,hx⟩:=hx
have hx:ObX X.w s.heap a es ep t M:=⟨o,hx⟩
obtain⟨_,_,_,_,tx⟩:=id hx
refine sS aZ aN aO (args_sorted1 _) ?_
unfold Builtin.«sorted»
refine hG (m:=checkCount "sorted" 1 1 _) (kL ?_)
refine hG (kdu_collect (A:=X.A.in1) (kdlX (P:=X.prog) (ep:=ep) (es:=es) l4) (I.ok.hd hc) hx (by rw[gJ];lia) λh' tk acc hk hacc=>?_)
have I1:Inv X pins σ H { s with heap:=h',toks:=tk }:=I.kept (t':=tk) hk
have hal:acc.toList.length=M.length:=by rw[k9,hacc.1]
have hp:=q5E (w:=X.w) (a:=a) (ep:=ep) (es:=es)
have wl:(wlk X.w a ep es).size=M.length:=by rw[←k9,hp.length_eq,k9,tx.size]
have ea:acc.toList=(wlk X.w a ep es).toList.map (·.2):=by
 refine List.ext_getElem? λj=>?_;rw[lU,mG,lU];cases z:acc[j]? with
 |some v=>obtain⟨e,he,rfl⟩:=hacc.2 j v z;rw[he];rfl
 |none=>have:acc.size≤j:=Array.getElem?_eq_none_iff.mp z;rw[pF (by rw[wl,←hacc.1];exact this)];rfl
obtain⟨ms,em,pm⟩:∃ms:List Nat,IntsAre acc.toList (ms.map λ(m:Nat)=>(m:Int))∧ms.Perm M:=by
 refine⟨(wlk X.w a ep es).toList.map (λe=>match e.2 with| .int i _=>i.toNat|_=>0),?_,?_⟩
 ·rw[ea];have:∀l:List (Int×Value),(∀e∈l,∃(m:Nat) (tk:Tok),e.2=.int (m:Int) tk)→IntsAre (l.map (·.2)) ((l.map (λe=>match e.2 with| .int i _=>i.toNat|_=>0)).map λ(m:Nat)=>(m:Int)):=by
   intro l;induction l with
   |nil=>exact λ_=>.nil
   |cons e r ih=>intro h;obtain⟨m,tk,e2⟩:=h e kX;rw[mJ,mJ,mJ,e2];exact .cons _ tk (ih λe he=>h e (kC _ he))
  refine this _ λe he=>?_;obtain⟨j,hj,rfl⟩:=pT.mp (hp.mem_iff.mp he);obtain⟨m,_,_,tk,e2⟩:=Paired.at tx.es (hX hj);exact⟨m,tk,e2⟩
 refine(hp.map _).trans (bH ?_);have:∀{l:List (Int×Value)} {M:List Nat},Paired (λ(e:Int×Value) m=>e.1=hashInt ((m:Nat):Int)∧∃tk,e.2=.int ((m:Nat):Int) tk) l M→l.map (λe=>match e.2 with| .int i _=>i.toNat|_=>0)=M:=by
  intro l M h;induction h with
  |nil=>rfl
  |cons h _ ih=>obtain⟨_,tk,e2⟩:=h;rw[mJ,ih,e2];rfl
 exact this tx.es
refine hG (wZ ?_ (by rw[hal,gJ];lia))
have g:(h'.push (seqObj "list" acc.toList.toArray 0)).get? h'.objs.size=some (seqObj "list" acc.toList.toArray 0):=mD _ rfl
show wpAny _ _ _ _ _ { s with heap:=h'.push (seqObj "list" acc.toList.toArray 0),toks:=tk }
refine hG (gG (wK xD ⟨_,g,rfl⟩ lM (list_sort_tree g em (by rw[hal];lia) λout ns' a1 a2 a3=>⟨_,rfl,?_⟩) (args_list_sort _)))
refine kL ⟨_,rfl,?_⟩
have en:ns'=M.map λ(m:Nat)=>(m:Int):=by refine List.Perm.eq_of_pairwise (le:=(·≤·)) (λa b _ _ h1 h2=>by lia) a3 ?_ (a2.trans (pm.map _));rw[gZ];exact(qE9 M tx.sm).imp λh=>by lia
subst en
have old:∀b o,h'.get? b=some o→(sortedHeap (h'.push (seqObj "list" acc.toList.toArray 0)) h'.objs.size acc.toList out).get? b=some o:=λb o e=>by rw[sortedHeap_old (mK (kP e)) (by rw[lF];exact dL (kP e))];exact hU _ e
obtain⟨e,he⟩:=sortedHeap_at (vs:=acc.toList) (out:=out) g
have hz':((M.map λ(m:Nat)=>(m:Int)).map V.int).length≤sizeLine:=by rw[h9,h9,gJ];lia
have q:=q
rw[show(M.map λ(k:Nat)=>V.int (k:Int))=(M.map λ(m:Nat)=>(m:Int)).map V.int by rw[sG];rfl]at q
exact⟨.ref h'.objs.size,_,I1.laid (t':=tk) (λb o e=>old b o e) (kN _) (show jA X.prog X.w _ _ _ (.lst _)from⟨hz',out.toList,e,q08 a1,by simpa[seqObj]using he⟩),rfl,q.at _ (I1.hok.fresh (kN _))⟩)
end
end L2
namespace W1
theorem jD{α:Type}(l:List α)(i j:Nat)(x d:α):(l.set i x).getD j d=if i=j∧i<l.length then x else l.getD j d:=by(
rw[kJ,List.getElem?_set,kJ]
by_cases h:i=j
·subst h;rw[kI rfl];by_cases h2:i<l.length
 ·rw[kI h2,kI ⟨rfl,h2⟩];rfl
 rw[kF h2,kF (λz=>h2 z.2),rR (by lia)]
rw[kF h,kF (λz=>h z.1)])
theorem yA{P b j:Nat}(h:j<P):(b*P+j) / P=b:=by rw[wQ,Nat.mul_add_div (by lia),Nat.div_eq_of_lt h,Nat.add_zero]
theorem q1Y{α:Type}[DecidableEq α]:∀{l m:List α},l.Nodup→m.Nodup→(∀x,x∈l↔x∈m)→l.Perm m
| [],m,_,_,h=>by
 cases m with
 |nil=>exact .nil
 |cons a m=>exact absurd ((h a).mpr kX) (by simp)
|a::l,m,h1,h2,h=>by
 have ha:=(h a).mp kX;obtain⟨n1,n2⟩:=mY.mp h1;refine List.Perm.trans (List.Perm.cons a (q1Y n2 (h2.erase a) λx=>?_)) (List.perm_cons_erase ha).symm;rw[List.Nodup.mem_erase_iff h2];constructor
 ·intro hx;exact⟨λe=>n1 (e▸hx),(h x).mp (kC _ hx)⟩
 rintro⟨ne,hx⟩
 exact(kM.mp ((h x).mpr hx)).resolve_left ne
theorem qHD{α:Type}[DecidableEq α]:∀{l m:List α},l.Nodup→(∀x∈l,x∈m)→l.length≤m.length
| [],_,_,_=>mM _
|a::l,m,h1,h=>by obtain⟨n1,n2⟩:=mY.mp h1;have ha:=h a kX;have:=qHD (m:=m.erase a) n2 λx hx=>(xH (show x≠a from λe=>n1 (e▸hx))).mpr (h x (kC _ hx));rw[nK ha]at this;have h0:=pH ha;rw[mC];lia
noncomputable abbrev Mp:=List (Int×Int)
noncomputable def jF(W:Mp)(n:Int):Mp:=W.filter λq=>decide (q.1≠n)
noncomputable def putW(W:Mp)(n p:Int):Mp:=if(W.any λq=>decide (q.1=n))=true then W.map (λq=>if q.1=n then(q.1,p)else q)else W++[(n,p)]
theorem jH{W:Mp}{n:Int}{q:Int×Int}:q∈jF W n↔q∈W∧q.1≠n:=by unfold jF;rw[mP,kW]
theorem qHE{W:Mp}(h:(W.map (·.1)).Nodup):W.Nodup:=(gZ.mp h).imp λz e=>z (rK Prod.fst e)
theorem qIZ{W:Mp}(h:(W.map (·.1)).Nodup){q r:Int×Int}(hq:q∈W)(hr:r∈W)(e:q.1=r.1):q=r:=by(
induction W with
|nil=>cases hq
|cons a W ih=>
 obtain⟨n1,n2⟩:=mY.mp h;rcases kM.mp hq with e1|h1
 ·rcases kM.mp hr with e2|h2
  ·rw[e1,e2]
  exact absurd (by show a.1∈_;rw[←e1,e];exact p8 (f:=λx:Int×Int=>x.1) h2) n1
 rcases kM.mp hr with e2|h2
 ·exact absurd (by show a.1∈_;rw[←e2,←e];exact p8 (f:=λx:Int×Int=>x.1) h1) n1
 exact ih n2 h1 h2)
theorem q5G{W:Mp}{n:Int}(h:(W.map (·.1)).Nodup):((jF W n).map (·.1)).Nodup:=(h.sublist ((xN ..).map _))
theorem q9B{W:Mp}{n p:Int}(h:(W.map (·.1)).Nodup){q:Int×Int}:q∈putW W n p↔q=(n,p)∨q∈jF W n:=by(
unfold putW
by_cases e:(W.any λq=>decide (q.1=n))=true
·rw[kI e,mE];obtain⟨r,hr,er⟩:=cR.mp e;have er:r.1=n:=mV er;constructor
 ·rintro⟨x,hx,rfl⟩
  by_cases ex:x.1=n
  ·rw[kI ex];exact .inl (by rw[ex])
  rw[kF ex];exact .inr (jH.mpr ⟨hx,ex⟩)
 rintro(rfl|h2)
 ·exact⟨r,hr,by rw[kI er,er]⟩
 obtain⟨a,b⟩:=jH.mp h2;exact⟨q,a,kF b⟩
rw[kF e,gH,kD]
have no:∀x∈W,x.1≠n:=λx hx z=>e (cR.mpr ⟨x,hx,hV z⟩)
constructor
·rintro(h1|h1)
 ·exact .inr (jH.mpr ⟨h1,no _ h1⟩)
 exact .inl h1
rintro(h1|h1)
·exact .inr h1
exact .inl (jH.mp h1).1)
theorem qCM{W:Mp}{n p:Int}(h:(W.map (·.1)).Nodup):((putW W n p).map (·.1)).Nodup:=by(
unfold putW
by_cases e:(W.any λq=>decide (q.1=n))=true
·rw[kI e,sG];have:(λx:Int×Int=>x.1) ∘ (λq:Int×Int=>if q.1=n then(q.1,p)else q)=λx=>x.1:=by funext x;show(if x.1=n then(x.1,p)else x).1=x.1;split<;>rfl
 rw[this];exact h
rw[kF e,mW]
refine cG.mpr ⟨h,by simp,λa ha b hb z=>e ?_⟩
obtain⟨x,hx,rfl⟩:=mE.mp ha
have hb:b=n:=by simpa using hb
exact cR.mpr ⟨x,hx,hV (by rw[z,hb])⟩)
noncomputable def cntB(P:Nat)(W:Mp)(b:Nat):Nat:=W.countP λq=>decide (q.2 / (P:Int)=(b:Int))
theorem qEA{P:Nat}{W:Mp}{n p:Int}{b:Nat}(nd:(W.map (·.1)).Nodup)(h:(n,p)∈W):cntB P W b=cntB P (jF W n) b+if p / (P:Int)=(b:Int)then 1 else 0:=by(
have pm:W.Perm ((n,p)::jF W n):=q1Y (qHE nd) (mY.mpr ⟨λz=>(jH.mp z).2 rfl,qHE (q5G nd)⟩) λx=>by
 rw[kM,jH];constructor
 ·intro hx;by_cases e:x.1=n
  ·exact .inl (qIZ nd hx h e)
  exact .inr ⟨hx,e⟩
 rintro(rfl|hx)
 ·exact h
 exact hx.1
unfold cntB
rw[pm.countP_eq,pN]
by_cases e:p / (P:Int)=(b:Int)
·rw[kI e,kI (hV e)]
rw[kF e,kF (by rw[kW];exact e)])
theorem qG5{W:Mp}{n:Int}(h:∀q∈W,q.1≠n):jF W n=W:=wF.mpr λq hq=>hV (h q hq)
structure BM where
P:Nat
B:Nat
ns:List Int
W:Mp
V:Mp
nx:Int
bs:List (Option Int)
ss:List Int
lv:List Int
fi:List Int
bo:List Int
namespace BM
variable{m:BM}
noncomputable def lvF(P:Nat)(V:Mp)(lv:List Int)(n:Int):List Int:=match V.find? λq=>decide (q.1=n)with
|some q=>lv.set (q.2 / (P:Int)).toNat (lv.getD (q.2 / (P:Int)).toNat 0-1)
|none=>lv
end BM
end W1
namespace L2
open PySem PySem.Spec PyProof.Rows
noncomputable def qKJ(K:PySem.W.Frag):R2:=λx y H Q=>∃p xs e,x=.ref p∧y=.ref e∧SqL K H p xs∧SqL K H e []∧Q (.bl (decide (xs≠[]))) H
theorem qJ0{X:Cx}(hu:X.A.units+64<cLine):OpR X (compareOp .NotEq) (qKJ X.K):=by(
intro pins s σ H x y v u Q I rx ry hZ
obtain⟨p,xs,e,ex,ey,hp,he,q⟩:=hZ
subst ex ey
cases rx
cases ry
obtain⟨i1,r1,p1,_⟩:=I.list hp
obtain⟨i2,r2,p2,_⟩:=I.list he
have l1:=r1.length
have l2:=r2.length
cases xs with
|nil=>exact x8 (e:=λ_=>true) p1.isList p2.isList (by simp at l1 l2 ⊢;lia) (by lia) (λj h1 h2=>by simp at l1 h1;lia) _ _ _ _ ⟨.bl false,H,I,by rw[zR];rfl,q⟩
|cons z zs=>exact SeqAt.RcNeAt.lists_lengths p1.isList p2.isList (by simp at l1 l2 ⊢;lia) (by lia) _ _ _ _ ⟨.bl true,H,I,rfl,q⟩)
theorem q3M{n j:Nat}(h:j<n):ixN n (j:Int)=some j:=by(
unfold ixN
have a:(0:Int)≤j:=by lia
have b:(j:Int)<n:=by lia
simp[a,b,h])
theorem qEB{V:List (Int×Int)}{n:Int}:q51 (dI V) (Sum.inl n:Key)=dI (W1.jF V n):=by(
unfold q51 dI W1.jF
rw[List.filter_map]
congr 1
apply pG
intro q _
show decide ((Sum.inl q.1:Key)≠Sum.inl n)=decide (q.1≠n)
by_cases e:q.1=n<;>simp[e])
theorem qG6{W:List (Int×Int)}{n p:Int}:putK (dI W) (Sum.inl n:Key) (.int p)=dI (W1.putW W n p):=by(
unfold putK dI W1.putW
have e:((W.map λp=>((Sum.inl p.1:Key),V.int p.2)).any λkv=>decide (kv.1=Sum.inl n))=W.any λq=>decide (q.1=n):=by
 rw[List.any_map];congr 1;funext q;show decide ((Sum.inl q.1:Key)=Sum.inl n)=decide (q.1=n);by_cases e:q.1=n
 ·rw[e];simp
 rw[kE e,kE (λz=>e (sU z))]
rw[e]
by_cases h:(W.any λq=>decide (q.1=n))=true
·rw[kI h,kI h,sG,sG];apply wE;intro q _;show(if(Sum.inl q.1:Key)=Sum.inl n then((Sum.inl q.1:Key),V.int p)else((Sum.inl q.1:Key),V.int q.2))=_;by_cases e:q.1=n
 ·rw[kI (by rw[e])];show _=(λp:Int×Int=>((Sum.inl p.1:Key),V.int p.2)) (if q.1=n then(q.1,p)else q);rw[kI e]
 rw[kF (λz=>e (sU z))];show _=(λp:Int×Int=>((Sum.inl p.1:Key),V.int p.2)) (if q.1=n then(q.1,p)else q);rw[kF e]
rw[kF h,kF h,mW]
rfl)
theorem qCN{V:List (Int×Int)}{n p:Int}:W1.putW (W1.jF V n) n p=W1.jF V n++[(n,p)]:=by(
unfold W1.putW
rw[kF]
intro h
obtain⟨q,hq,e⟩:=cR.mp h
exact(W1.jH.mp hq).2 (mV e))
theorem setV{ns:List Int}{c:Nat}{x:Int}:(ns.map V.int).set c (.int x)=(ns.set c x).map V.int:=by rw[aQ]
theorem atV{ns:List Int}{c:Nat}(h:c<ns.length):atI (ns.map V.int) (c:Int)=some (.int (ns.getD c 0)):=by refine uR ?_;rw[mG,hX h,kJ,hX h];rfl
theorem qEC:∀{A B:List (List Int)},A.Perm B→A.Pairwise (λa b=>lx b a=false)→B.Pairwise (λa b=>lx b a=false)→A=B
| [],B,p,_,_=>(xR.mp p).symm▸rfl
|a::A,[],p,_,_=>absurd p.length_eq (by simp)
|a::A,b::B,p,h1,h2=>by
 have e:a=b:=by
  by_cases e:a=b
  ·exact e
  have hb:b∈A:=(kM.mp (p.mem_iff.mpr kX)).resolve_left (λz=>e z.symm);have ha:a∈B:=(kM.mp (p.mem_iff.mp kX)).resolve_left e;exact q3J a b ((gU.mp h2).1 a ha) ((gU.mp h1).1 b hb)
 subst e;rw[qEC ((bS a).mp p) (gU.mp h1).2 (gU.mp h2).2]
theorem qBJ:∀{A B:List Int},A.Perm B→A.Pairwise (·≤·)→B.Pairwise (·≤·)→A=B
| [],B,p,_,_=>(xR.mp p).symm▸rfl
|a::A,[],p,_,_=>absurd p.length_eq (by simp)
|a::A,b::B,p,h1,h2=>by
 have e:a=b:=by
  by_cases e:a=b
  ·exact e
  have hb:b∈A:=(kM.mp (p.mem_iff.mpr kX)).resolve_left (λz=>e z.symm);have ha:a∈B:=(kM.mp (p.mem_iff.mp kX)).resolve_left e;have:=(gU.mp h2).1 a ha;have:=(gU.mp h1).1 b hb;lia
 subst e;rw[qBJ ((bS a).mp p) (gU.mp h1).2 (gU.mp h2).2]
theorem qED{a:Addr}{o:Obj}{kvs:List (Key×V)}{D:Addr}{H2:Hp}{g:TG}{tc:TT}{te:TE}{σ0:St}{R:Hp→Prop}(Pv:Nat→Hp→Prop)(h0:Pv 0 H2)(hl:∀i H,Pv i H→H a=some (.frz o (.dK kvs)))
 (hs:∀(i:Nat) kv H,kvs[i]?=some kv→Pv i H→g (kV kv.1) σ0 H λσ5 H5=>tc σ5 H5 λb H6=>if b=true then te σ5 H6 (λv H7=>∃vs,H7 D=some (.lst vs)∧vs.length<sizeLine∧Pv (i+1) (upd H7 D (.lst (vs++[v]))))else Pv (i+1) H6) (hd:∀H,Pv kvs.length H→R H):
 ∃W:Nat→Nat→Hp→Prop,(∃m,W 0 m H2)∧∀i m H3,W i m H3→((Itd a o kvs).stop i H3∧R H3)∨((Itd a o kvs).go i H3∧∃N:Hp→Prop,(∀H',N H'→∃m',m'<m∧W (i+1) m' H')∧∀x H4,(Itd a o kvs).yld i H3 x H4→g x σ0 H4 λσ5 H5=>tc σ5 H5 λb H6=>if b=true then te σ5 H6 (λv H7=>∃vs,H7 D=some (.lst vs)∧vs.length<sizeLine∧N (upd H7 D (.lst (vs++[v]))))else N H6):=qFW (Q:=λ_ H=>R H) Pv h0 hl hs hd
theorem qAH{ks:List (List Int)}{q:List Nat}{n:Nat}(hn:ks.length=n)(p:q.Perm (List.range n)):(q.map λi=>ks.getD i []).Perm ks:=by(
refine(p.map λi=>ks.getD i []).trans ?_
have e:(List.range n).map (λi=>ks.getD i [])=ks:=by
 apply wI
 ·rw[h9,gD,hn]
 intro i h1 h2;rw[pO,sP,kJ,hX h2];rfl
rw[e])
theorem qAI{F:V→List Int→Prop}{us:List V}{ks:List (List Int)}{q:List Nat}(h:Paired F us ks)(hq:∀i∈q,i<us.length):Paired F (q.map λi=>us.getD i .non) (q.map λi=>ks.getD i []):=by(
refine q71 (by rw[h9,h9]) λj x k hx hk=>?_
rw[mG]at hx hk
obtain⟨i,hi,rfl⟩:=mO.mp hx
rw[hi]at hk
obtain rfl:=kU hk
have hl:=hq i (gE hi)
have e1:us[i]?=some (us.getD i .non):=by rw[kJ,hX hl];rfl
obtain⟨k,hk1,z⟩:=Paired.at h e1
show F (us.getD i .non) (ks.getD i [])
rw[show ks.getD i []=k from by rw[kJ,hk1];rfl]
exact z)
theorem vH{H H':Hp}{us:List V}{ks:List (List Int)}(h:Paired (TupD H) us ks)(s:Same H H'):Paired (TupD H') us ks:=Paired.mapP h λ_ _ z=>z.same s
theorem qBK{K:PySem.W.Frag}{H:Hp}{us:List V}{ks:List (List Int)}(h:Paired (TupD H) us ks):Paired (TupI K H) us ks:=Paired.mapP h λ_ _ z=>z.i
theorem q75{lo:Int}{n:Nat}{D:Addr}{H2:Hp}{g:TG}{tc:TT}{te:TE}{σ0:St}{R:Hp→Prop}(Pv:Nat→Hp→Prop)(h0:Pv 0 H2)
 (hs:∀(i:Nat) H,i<n→Pv i H→g (.int (lo+i)) σ0 H λσ5 H5=>tc σ5 H5 λb H6=>if b=true then te σ5 H6 (λv H7=>∃vs,H7 D=some (.lst vs)∧vs.length<sizeLine∧Pv (i+1) (upd H7 D (.lst (vs++[v]))))else Pv (i+1) H6) (hd:∀H,Pv n H→R H):
 ∃W:Nat→Nat→Hp→Prop,(∃m,W 0 m H2)∧∀i m H3,W i m H3→((Itr lo n).stop i H3∧R H3)∨((Itr lo n).go i H3∧∃N:Hp→Prop,(∀H',N H'→∃m',m'<m∧W (i+1) m' H')∧∀x H4,(Itr lo n).yld i H3 x H4→g x σ0 H4 λσ5 H5=>tc σ5 H5 λb H6=>if b=true then te σ5 H6 (λv H7=>∃vs,H7 D=some (.lst vs)∧vs.length<sizeLine∧N (upd H7 D (.lst (vs++[v]))))else N H6):=qDW (Q:=λ_ H=>R H) Pv h0 hs hd
theorem qEE{H H3:Hp}{a:Addr}{u:HO}(ha:H a=some u)(k:∀b o,b≠a→H b=some o→H3 b=some o):Same H (upd H3 a u):=λb o e=>by(
by_cases z:b=a
·rw[z,qI,←ha,←z];exact e
rw[qC z]
exact k b o z e)
theorem yO{X:Cx}{K:PySem.W.Frag}{e:Expr}{ta:TE}{f:Str}{pos:Pos}(eK:X.K=K)(he:PE X e ta)(hb:attributeBase e f X.env (eval e X.env)=eval e X.env):PE X (.Attribute e f pos) (tFld K ta f):=by subst eK;exact qJ he hb
end L2
namespace L2
open PySem PySem.W PySem.Spec PyProof.Rows
noncomputable def BmIn(base:Heap)(mg:Str→Option Value):Prop:=∃bm o,mg "__builtins__"=some (.ref bm)∧bm≠builtinsNs∧base.get? bm=some o∧o.cls=.type "module"∧o.dict=some builtinsNs∧o.data=.plain
theorem qCO{P:Program}{w:World}{K:PySem.W.Frag}{mg mb:Str→Option Value}{CX:CXT}{k:Nat}{fa a:Addr}{fd:FuncData}{x:Str}{sp:Sp}{s₁:Shared}{vs:List Value}{ns:List Int}(ts:List Addr)
 (KX:K.In s₁.heap) (hts:∀T∈ts,s₁.heap.get? T=some (tabObj #[])∧K.lookup T=none∧∃c,codeHdIn K c T=true) (hns:s₁.heap.Ns mainGlobals mg) (hb:s₁.heap.Ns builtinsNs mb) (hbb:∀x:Str,x≠"__name__"→mb x=bootBuiltins x) (hlim:s₁.heap.NoLimit) (hbm:BmIn s₁.heap mg) (hg:s₁.gens=#[])
 (ha:s₁.heap.get? a=some { cls:=.type "list",data:=.seq vs.toArray }) (hi:IntsAre vs ns) (hl:ns.length≤sizeLine) (hr:Room k callerA)
 (F:∀base:Heap,K.In base→base.Ns mainGlobals mg→BmIn base mg→FnOk P w K mg base CX k fa fd [x] sp) (hbind:∀(s:Shared) (u:Value),BindsTo s fd ⟨[u],[]⟩ [(x,u)])
 (hsp:∀H:Hp,SqL K H a (ns.map V.int)→(∀T∈ts,H T=some (.tbl #[]))→sp [.ref a] H (λv _=>v=.bl true) λ_ _ _=>False)
 (hCX:∀H e s',CX [] H s₁ (λ_ _ _=>False) e s'→False):
 codeAny (model P w) callerA (.call (.ref fa) ⟨[.ref a],[]⟩) (λr s'=>r=.ok (.ret (.bool true))∧OldK s₁.heap s'.heap∧s'.os=s₁.os∧AllBare s'.gens) s₁:=by(
have rv:=q6Y hi
have lenV:=hi.length
have nat:a∉ts:=λz=>by have e:=(hts a z).1;rw[ha]at e;cases e
have core:∀H:Hp,SqL K H a (ns.map V.int)→HOk P w H s₁.heap→(∀b,H b=none∨(b=a∧K.lookup a=none∧∃o xs,H b=some (.frz o (.lst xs)))∨(b∈ts∧H b=some (.tbl #[])))→(∀T∈ts,H T=some (.tbl #[]))→codeAny (model P w) callerA (.call (.ref fa) ⟨[.ref a],[]⟩) (λr s'=>r=.ok (.ret (.bool true))∧OldK s₁.heap s'.heap∧s'.os=s₁.os∧AllBare s'.gens) s₁:=by
 intro H hS hok hO hT;have base_of:∀{b:Addr} {o:Obj},s₁.heap.get? b=some o→H b=none→(hidT s₁.heap H).get? b=some o:=λe n=>q4P e n;have noA:∀{b:Addr} {o:Obj} {es:Array DictEntry} {ep:Nat},s₁.heap.get? b=some o→o.data=.dict es ep→H b=none:=fun {b o es ep} e d=>by
  rcases hO b with z|⟨rfl,_⟩|⟨z,_⟩
  ·exact z
  ·rw[ha]at e;cases e;cases d
  rw[(hts b z).1]at e;cases e;cases d
 have nsK:∀{b:Addr} {m:Str→Option Value},s₁.heap.Ns b m→(hidT s₁.heap H).Ns b m:=fun {b m} ⟨o,es,ep,e,d,r⟩=>⟨o,es,ep,base_of e (noA e d),d,r⟩
 have hKb:K.In (hidT s₁.heap H):=λb o e=>base_of (KX b o e) (by
  rcases hO b with z|⟨rfl,z,_⟩|⟨z,_⟩
  ·exact z
  ·rw[z]at e;cases e
  rw[(hts b z).2.1]at e;cases e)
 have hM:Mod K mg (hidT s₁.heap H):=⟨hKb,nsK hns,⟨mb,nsK hb,hbb⟩,let⟨mc,h1,h2⟩:=hlim;⟨mc,nsK h1,h2⟩⟩;have hB:BmIn (hidT s₁.heap H) mg:=by
  obtain⟨bm,o,b1,b2,b3,b4,b5,b6⟩:=hbm;refine⟨bm,o,b1,b2,base_of b3 ?_,b4,b5,b6⟩;rcases hO bm with z|⟨rfl,_⟩|⟨z,_⟩
  ·exact z
  ·rw[ha]at b3;cases b3;exact absurd (Value.type.inj b4) (by decide)
  rw[(hts bm z).1]at b3;cases b3;cases b4
 have e0:Env0 P w K mg (hidT s₁.heap H) callerA [] s₁ H:=⟨rfl,hM,λb o e=>qAW e,c7 (q6I _ _),trivial,λb hb=>absurd (show b∈([]:List Addr)from hb) (by simp),hok,.of_eq hg⟩;refine wO ((F _ hKb (nsK hns) hB).run callerA [] s₁ H ⟨[.ref a],[]⟩ [.ref a] [.ref a] _ _ hr e0 (hbind s₁ (.ref a)) (.cons rfl .nil) (hsp H hS hT)) λr s' h=>?_;cases r with
 |error e=>exact(hCX H e s' h).elim
 |ok fl=>
  cases fl with
  |next=>exact False.elim h
  |brk=>exact False.elim h
  |cont=>exact False.elim h
  |ret u=>
   obtain⟨v,H',os,bare,un,hok',r',q⟩:=h;have q':v=.bl true:=q;subst q';obtain rfl:u=Value.bool true:=r';have kept:∀b o,s₁.heap.get? b=some o→b∉ts→s'.heap.get? b=some o:=λb o e nb=>by
    rcases hO b with z|⟨rfl,_,ob,xs,z⟩|⟨z,_⟩
    ·exact un.keep b o e z (by intro z;exact absurd (show b∈([]:List Addr)from z) (by simp)) (by simp)
    ·have z2:=un.frzs _ ob _ z;obtain⟨e1,_⟩:=hok _ _ z;obtain⟨e2,_⟩:=hok' _ _ z2;rw[e]at e1;cases e1;exact e2
    exact absurd z nb
   refine⟨rfl,⟨λb o e=>?_,λb o e=>?_⟩,os,bare⟩
   ·by_cases nb:b∈ts
    ·obtain⟨g,_,c,hc⟩:=hts b nb;obtain⟨more,z2⟩:=un.tbls b _ (hT b nb);have g2:s'.heap.get? b=some { cls:=.none,data:=.fields (#[]++more) }:=hok' _ _ z2;rw[g]at e;cases e;exact .inr (.inl ⟨((a0 KX hc).tab g).isCodeTable,rfl,#[],more,rfl,g2⟩)
    exact .inl (kept b o e nb)
   by_cases nb:b∈ts
   ·obtain⟨more,z2⟩:=un.tbls b _ (hT b nb);exact⟨_,hok' _ _ z2⟩
   exact⟨o,kept b o e nb⟩
have tb:∀T∈ts,∀H:Hp,H T=some (.tbl #[])→∀u,H T=some u→jA P w H s₁.heap T u:=λT hT H e u e'=>by rw[e]at e';cases e';exact(hts T hT).1
cases hk:K.lookup a with
|some o=>
 have e:=KX a o hk;rw[ha]at e;cases e;refine core (λb=>if b∈ts then some (.tbl #[])else none) (.inr ⟨_,vs.toArray,_,hk,rfl,rfl,rfl,by rw[mB,lenV];exact hl,by simpa using rv⟩) (λb u z=>?_) (λb=>?_) λT hT=>kI hT
 ·by_cases hb':b∈ts
  ·exact tb b hb' _ (kI hb') u z
  have z':=(kF hb').symm.trans z;cases z'
 by_cases hb':b∈ts
 ·exact .inr (.inr ⟨hb',kI hb'⟩)
 exact .inl (kF hb')
|none=>
 refine core (λb=>if b=a then some (.frz { cls:=.type "list",data:=.seq vs.toArray } (.lst (ns.map V.int)))else if b∈ts then some (.tbl #[])else none) (.inl (.inr ⟨{ cls:=.type "list",data:=.seq vs.toArray },kI rfl⟩)) (λb u z=>?_) (λb=>?_) λT hT=>?_
 ·by_cases hb':b=a
  ·have z':=(kI hb').symm.trans z;cases z';subst hb';exact⟨ha,by rw[h9];exact hl,vs,_,rv,ha⟩
  by_cases hb2:b∈ts
  ·exact tb b hb2 _ ((kF hb').trans (kI hb2)) u z
  have z':=((kF hb').trans (kF hb2)).symm.trans z;cases z'
 ·by_cases hb':b=a
  ·exact .inr (.inl ⟨hb',hk,_,_,kI hb'⟩)
  by_cases hb2:b∈ts
  ·exact .inr (.inr ⟨hb2,(kF hb').trans (kI hb2)⟩)
  exact .inl ((kF hb').trans (kF hb2))
 have:T≠a:=λz=>nat (z▸hT);exact(kF this).trans (kI hT))
theorem qEF{l:PySem.W.OpenLaw}{n k:Nat}{q:Program}{loose:List Str}{XP:(Str→Option Value)→Heap→Prop}{YP:World→Heap→Prop}{d:DefRec}{K:Params→PySem.W.Frag}{CX:World→CXT}{sp:World→Sp}{x:Str}(ts:List Addr)
 (hn:l.most=some n) (hn2:n≤sizeLine) (hdf:d.params.defaults=[]) (hr:Room k callerA)
 (hY:∀(w:World) (h:Heap),YP w h→(K w.params).In h∧∀T∈ts,h.get? T=some (tabObj #[])) (hT:∀w:World,∀T∈ts,(K w.params).lookup T=none∧∃c,codeHdIn (K w.params) c T=true)
 (F:∀(w:World) (mg:Str→Option Value) (fa:Addr) (h:Heap),(K w.params).In h→h.Ns mainGlobals mg→mg d.name=some (.ref fa)→∃fd:FuncData,(∀(s:Shared) (u:Value),BindsTo s fd ⟨[u],[]⟩ [(x,u)])∧∀base:Heap,(K w.params).In base→base.Ns mainGlobals mg→BmIn base mg→FnOk l.prog w (K w.params) mg base (CX w) k fa fd [x] (sp w))
 (hsp:∀(w:World) (H:Hp) (a:Addr) (ns:List Int),ns.length≤n→SqL (K w.params) H a (ns.map V.int)→(∀T∈ts,H T=some (.tbl #[]))→sp w [.ref a] H (λv _=>v=.bl true) λ_ _ _=>False)
 (hCX:∀(w:World) (H:Hp) (s:Shared) (e:Value) (s':Shared),CX w [] H s (λ_ _ _=>False) e s'→False):
 PySem.W.WalkO q loose XP YP l.row.toRowW d [] (λf vs=>PySem.call f vs):=by(
refine Att.attach_call hn hdf λw s₀ s₁ mg mb fa o pm cd doc a vs ns G Y ho hd hcd hmg hobj hints hlen hg=>?_
obtain⟨KX,KT⟩:=hY w _ Y
obtain⟨fd,hb,hF⟩:=F w mg fa _ KX G.T.g hmg
exact qCO ts KX (λT h=>⟨KT T h,hT w T h⟩) G.T.g G.T.b G.T.builtins G.T.nolimit (let⟨bm,ob,b1,b2,b3,b4,b5,b6⟩:=G.T.bmain;⟨bm,ob,b1,b2,b3,b4,b5,b6⟩) hg hobj hints (mF hlen hn2) hr hF hb (λH hS hH=>hsp w H a ns hlen hS hH) λH e s'=>hCX w H s₁ e s')
structure FunT(K:PySem.W.Frag)(x qual:Str)(st:Stmt)(c f:Addr)(fd:FuncData):Prop where
ex:∃(oc:Value) (od:Option Addr) (kV doc pm:Value) (an:Option Addr) (ct:Value) (osl:Array (Option Value)),fd=PySem.W.fnOf x qual (jZ st) (jL st) (qE st) .none kV doc pm an (.ref c) ct∧K.lookup f=some ⟨oc,od,.func fd,osl⟩∧PySem.W.codeIn K (.ref c) qual=true
section
variable{P:Program}{w:World}{K:PySem.W.Frag}{mg:Str→Option Value}{base:Heap}
theorem FunT.mk'{x qual:Str}{st:Stmt}{c f:Addr}{oc:Value}{od an:Option Addr}{osl:Array (Option Value)}{kV doc pm ct:Value}(l:K.lookup f=some ⟨oc,od,.func (PySem.W.fnOf x qual (jZ st) (jL st) (qE st) .none kV doc pm an (.ref c) ct),osl⟩)
 (h:PySem.W.codeIn K (.ref c) qual=true):FunT K x qual st c f (PySem.W.fnOf x qual (jZ st) (jL st) (qE st) .none kV doc pm an (.ref c) ct):=⟨⟨oc,od,kV,doc,pm,an,ct,osl,rfl,l,h⟩⟩
theorem FunT.okE{x qual:Str}{st:Stmt}{c f:Addr}{fd:FuncData}{N ps:List Str}{k:Nat}{sp:Sp}(F:FunT K x qual st c f fd)(S:FnScope N ps (qE st))(len:∀vs H Q E,sp vs H Q E→vs.length=ps.length)
 (hbody:∀(A:Around) (outer:List Env) (s:Shared) (H:Hp) (vs:List V) (Q:VK) (E:XK),Room k (A.deeper (envOfC qual (qE st) s.heap.objs.size f (.ref c)))→sp vs H Q E→∃t,PSs (cxOf (CXe P w) P w K mg base N qual (qE st) f (.ref c) A outer s H E) (jL st) t∧t { nx:=λ_ H'=>Q .non H',rt:=Q } (vU N vs) H):FnOk P w K mg base (CXe P w) (k+1) f fd ps sp:=by obtain⟨oc,od,kV,doc,pm,an,ct,osl,rfl,lk,hcd⟩:=F.ex;exact qB3 lk hcd S len λA outer s H vs Q E hr hsp=>hbody A outer s H vs Q E hr hsp
theorem FunT.ok0{x qual:Str}{st:Stmt}{c f:Addr}{fd:FuncData}{N ps:List Str}{k:Nat}{sp:Sp}(F:FunT K x qual st c f fd)(S:FnScope N ps (qE st))
 (hbody:∀(A:Around) (outer:List Env) (s:Shared) (H:Hp) (vs:List V) (Q:VK) (E:XK),Room k (A.deeper (envOfC qual (qE st) s.heap.objs.size f (.ref c)))→sp vs H Q E→∃t,PSs (cxOf CX0 P w K mg base N qual (qE st) f (.ref c) A outer s H E).nox (jL st) t∧t { nx:=λ_ H'=>Q .non H',rt:=Q } (vU N vs) H)(len:∀vs H Q E,sp vs H Q E→vs.length=ps.length:=by intro _ _ _ _ h;first|(cases h;subst_vars;rfl)|((repeat obtain⟨_,h⟩:=h);all_goals subst_vars;rfl)):FnOk P w K mg base CX0 (k+1) f fd ps sp:=by(
obtain⟨oc,od,kV,doc,pm,an,ct,osl,rfl,lk,hcd⟩:=F.ex
refine qB3 lk hcd S len λA outer s H vs Q E hr hsp=>?_
obtain⟨t,h,q⟩:=hbody A outer s H vs Q E hr hsp
exact⟨t,h.nox,q⟩)
noncomputable def q3N(K:PySem.W.Frag)(ts:List Addr):Sp:=λvs H Q _=>∃(a:Addr) (ns:List Int),vs=[.ref a]∧SqL K H a (ns.map V.int)∧ns.length≤63∧(∀T∈ts,H T=some (.tbl #[]))∧∀H',Q (.bl true) H'
end
noncomputable def qL5(K:PySem.W.Frag)(C:Addr):Prop:=PySem.W.findIn K (.ref C) "__class__"=some (some (.builtin "object.__class__"))∧PySem.W.specialIn K (.builtin "object.__class__") "__get__"=some (some (.builtin "getset_descriptor.__get__"))∧PySem.W.takesIn K (.builtin "object.__class__")=some true∧PySem.W.mroIn K C (.type "object")=some true
noncomputable def fnOb(fd:FuncData):Obj:={ cls:=.type "function",data:=.func fd }
noncomputable def fnO(f:Addr)(fd:FuncData):HO:=.ext λh=>h.get? f=some (fnOb fd)
noncomputable def cdO(c:Addr)(q:Str):HO:=.ext λh=>∃o vs t,h.get? c=some o∧o.data=.fields vs∧vs[1]?=some (.str q t)
theorem qEG{P:Program}{w:World}{H:Hp}{h:Heap}{f:Addr}{fd:FuncData}(e:h.get? f=some (fnOb fd)):jA P w H h f (fnO f fd):=⟨e,⟨_,e⟩,λ_ _ a b=>b _ a⟩
theorem qJ1{P:Program}{w:World}{H:Hp}{h:Heap}{c:Addr}{q:Str}(e:h.CodeRec (.ref c) q):jA P w H h c (cdO c q):=by obtain⟨c',o,vs,t,e0,e1,e2,e3⟩:=e;cases e0;exact⟨⟨o,vs,t,e1,e2,e3⟩,⟨_,e1⟩,λ_ _ ⟨o,vs,t,a,b⟩ k=>⟨o,vs,t,k _ a,b⟩⟩
theorem qEH{P:Program}{w:World}{H:Hp}{h:Heap}{f:Addr}{fd:FuncData}(ok:HOk P w H h)(e:H f=some (fnO f fd)):h.get? f=some (fnOb fd):=(ok f _ e).1
theorem qEI{P:Program}{w:World}{H:Hp}{h:Heap}{c:Addr}{q:Str}(ok:HOk P w H h)(e:H c=some (cdO c q)):h.CodeRec (.ref c) q:=let⟨o,vs,t,a,b⟩:=(ok c _ e).1
 ⟨c,o,vs,t,rfl,a,b⟩
theorem qJ2{CX:CXT}{P:Program}{w:World}{K:PySem.W.Frag}{mg:Str→Option Value}{base:Heap}{k:Nat}{f c:Addr}{name qual:Str}{params:Arguments}{body:Expr}{scope:Scope}{pm ct:Value}{N ps:List Str}{sp:Sp}(S:FnScope N ps scope)
 (len:∀vs H Q E,sp vs H Q E→vs.length=ps.length) (hf:∀vs H Q E,sp vs H Q E→H f=some (fnO f (kla_fn name qual params body scope [] pm (.ref c) ct))∧H c=some (cdO c qual))
 (hbody:∀(A:Around) (outer:List Env) (s:Shared) (H:Hp) (vs:List V) (Q:VK) (E:XK),Room k (A.deeper (envOfC qual scope s.heap.objs.size f (.ref c)))→sp vs H Q E→∃t,PE (cxOf CX P w K mg base N qual scope f (.ref c) A outer s H E) body t∧t (vU N vs) H Q):
 FnOk P w K mg base CX (k+1) f (kla_fn name qual params body scope [] pm (.ref c) ct) ps sp:=by(
refine⟨len,λA outer s H args us vs Q E hr e0 hb r hsp=>?_⟩
have hl:=len _ _ _ _ hsp
have KX:K.In s.heap:=e0.mod.kin.keeps λb o e=>(e0.bs b o e).1
have lim:s.heap.NoLimit:=e0.mod.nolimit.keeps λb o e=>(e0.bs b o e).1
have hkind:∀y∈ps.zip us,scope.names.lookup y.1=some .local∨(scope.names.lookup y.1=some .cell∧((cellsFrom (s.heap.objs.size+1) scope.names []).lookup y.1).isSome=true):=λ⟨n,v⟩ hy=>by
 rcases S.par n (pX hy).1 with q|q
 ·exact .inl q
 exact .inr ⟨q,c8 _ _ _ (.inl q)⟩
obtain⟨hf1,hc1⟩:=hf _ _ _ _ hsp
refine kla_callFunE hr.depth (qEH e0.hok hf1) rfl S.co S.gen rfl (qEI e0.hok hc1) (hb _ _ _ _ ?_)
refine sJ S.kind hkind λenv he s1 x=>?_
subst he
refine⟨lim.keeps x.toInCall.keep,kla_codeExpr ?_⟩
obtain⟨t,ht,hq⟩:=hbody A outer s H vs Q E (hr.deeper _) hsp
have I:Inv (cxOf CX P w K mg base N qual scope f (.ref c) A outer s H E) [] (vU N vs) H s1:=q6V S hr.hd e0 hl r x
exact gY (ht [] s1 (vU N vs) H _ I hq) (λu s' ⟨v,H',J,rv,q⟩=>⟨v,H',J.os,J.bare,J.base,J.hok,rv,q⟩) λe s' hs=>hs)
noncomputable def uW(base:Heap)(cs:List Addr):Hp:=λb=>if(base.get? b).isSome=true∨b∈cs then none else some (.lst [])
theorem q0Y{h base base':Heap}:∀{l:List Env},h.FunFrames base l→(∀L∈frs l,base.get? L=none→base'.get? L=none)→h.FunFrames base' l
| [],_,_=>trivial
|env::r,⟨hk,⟨L,o,hf,hn,ho,hd⟩,hr⟩,k=>by
 have hL:L∈frs (env::r):=by unfold frs;rw[wC,hf];exact kX
 exact⟨hk,⟨L,o,hf,k L hL hn,ho,hd⟩,q0Y hr λb hb=>k b (by unfold frs;rw[wC,hf];exact kC _ hb)⟩
theorem Inv.env0C{X:Cx}{pins:List (Addr×Obj)}{σ:St}{H:Hp}{s:Shared}(I:Inv X pins σ H s)(cs:List Addr)(hcs:∀c∈cs,∃x,X.fn x=true∧X.env.cells.lookup x=some c):
 Env0 X.prog X.w X.K X.mg (hidT s.heap (uW X.base cs)) X.A X.stack s H∧(∀b o,X.base.get? b=some o→(hidT s.heap (uW X.base cs)).get? b=some o)∧∀c∈cs,∀o,s.heap.get? c=some o→(hidT s.heap (uW X.base cs)).get? c=some o:=by(
have up:∀b o,X.base.get? b=some o→(hidT s.heap (uW X.base cs)).get? b=some o:=λb o e=>q4P (I.bk b o e) (kI (.inl (by rw[e];rfl)))
have inv:∀{b:Addr} {o:Obj},(hidT s.heap (uW X.base cs)).get? b=some o→s.heap.get? b=some o∧((∃o',X.base.get? b=some o')∨b∈cs):=fun {b o} e=>by
 obtain⟨e1,n⟩:=qAW e;refine⟨e1,?_⟩;by_cases z:(X.base.get? b).isSome=true∨b∈cs
 ·rcases z with z|z
  ·exact .inl (cU.mp z)
  exact .inr z
 rw[show uW X.base cs b=some (.lst [])from kF z]at n;cases n
obtain⟨mb,hb1,hb2⟩:=I.ok.mod.blt
refine⟨⟨I.ok.frames,⟨I.ok.mod.kin.keeps up,I.ok.mod.glob.keeps up,⟨mb,hb1.keeps up,hb2⟩,I.ok.mod.nolimit.keeps up⟩,λb o e=>?_,by rw[q6I];exact kN _,q0Y I.stack λL hL n=>?_,I.stkFree,I.hok,I.bare⟩,up,λc hc o e=>q4P e (kI (.inr hc))⟩
·obtain⟨e1,z⟩:=inv e;rcases z with⟨o',z⟩|z
 ·exact⟨e1,(I.bs b o' z).2⟩
 obtain⟨x,_,hx⟩:=hcs b z;exact⟨e1,I.freeC x b hx⟩
cases e:(hidT s.heap (uW X.base cs)).get? L with
|none=>rfl
|some o=>
 obtain⟨e1,z⟩:=inv e;rcases z with⟨o',z⟩|z
 ·rw[n]at z;cases z
 obtain⟨x,hf,hx⟩:=hcs L z;rcases kM.mp (I.stkSub L hL)with y|y
 ·exact absurd y (I.cne x L hx)
 obtain⟨_,o2,ho,_⟩:=I.ok.funs.mem y;exact absurd (kP ho) (lE.mpr (I.ok.cab x L hf hx)))
noncomputable def q0Z(cells:List (Str×Addr))(σ:St)(base':Heap)(ix:List (Nat×Str)):Prop:=∀p∈ix,∀v,σ[p.1]?=some (some v)→∃c u,cells.lookup p.2=some c∧RelV v u∧base'.IsCell c (some u)
noncomputable def qKK(T:Addr)(pos:Pos)(qual:Str)(params:Arguments)(body:Expr)(scope:Scope)(clos:List (Str×Addr))(pm:Value):TE:=λσ H Q=>∃ps,H T=some (.tbl ps)∧TriplesOk ps.toList∧codeAmong pos ps.toList=none∧∀(f c':Addr) (ctv:Value),H f=none→H c'=none→f≠c'→Q (.ref f) (upd (upd (upd H T (.tbl (ps++#[rawInt pos.line,rawInt pos.col,.ref c']))) c' (cdO c' qual)) f (fnO f (kla_fn "<lambda>" qual params body scope clos pm (.ref c') ctv)))
theorem qG7{X:Cx}{c T:Addr}{params:Arguments}{body:Expr}{scope:Scope}{pos:Pos}{clos:List (Str×Addr)}(hcode:X.env.code=.ref c)(hcd:codeHdIn X.K c T=true)(B:BmIn X.base X.mg)(hcl:closureFor scope X.env=pure clos)(hdef:defaultsOf params X.env=([],[])):
 PE X (.Lambda params body scope pos) (qKK T pos (X.env.qual++"<lambda>") params body scope clos ((X.mg "__name__").getD .none)):=by(
intro pins s σ H Q I hZ
obtain⟨ps,hT,ht,hnf,q⟩:=hZ
have hP:s.heap.get? T=some (tabObj ps):=I.hok T _ hT
have hgs:s.heap.Ns mainGlobals X.mg:=I.ok.mod.glob.keeps I.bk
obtain⟨bm,ob,b1,b2,b3,b4,b5,b6⟩:=B
have b3':=I.bk _ _ b3
have hgP:mainGlobals≠T:=λz=>by obtain⟨o,es,ep,e,hd,_⟩:=hgs;rw[z,hP]at e;cases e;cases hd
have hbP:bm≠T:=λz=>by rw[z,hP]at b3';cases b3';cases b4
have hbG:bm≠mainGlobals:=λz=>by obtain⟨o,es,ep,e,hd,_⟩:=hgs;rw[z,e]at b3';cases b3';rw[hd]at b6;cases b6
refine kla_eval hdef (kla_makeFunction (clos:=clos) hcl I.ok.glob hgs hcode (a0 I.kIn hcd) hP ht hnf hgP ⟨bm,ob,b1,b2,hbG,hbP,b3',b4,b5,b6⟩ λc' ctv h' tk hx hge hlt hrec htb=>?_)
have trk:∀b u,s.heap.get? b=some u→b≠T→∀o,(h'.push o).get? b=some u:=λb u e n o=>hU _ (hx b u n e)
have sz:s.heap.objs.size≤h'.objs.size:=mF hge (c6 hlt)
have nF:H h'.objs.size=none:=I.hok.fresh sz
have nC:H c'=none:=I.hok.fresh hge
have fc:h'.objs.size≠c':=rM hlt
have other:∀{b:Addr},b≠T→b≠c'→b≠h'.objs.size→∀u:HO,(upd (upd (upd H T (.tbl (ps++#[rawInt pos.line,rawInt pos.col,.ref c']))) c' (cdO c' (X.env.qual++"<lambda>"))) h'.objs.size (fnO h'.objs.size (kla_fn "<lambda>" (X.env.qual++"<lambda>") params body scope clos ((X.mg "__name__").getD .none) (.ref c') ctv))) b=H b:=fun {b} z1 z2 z3 _=>by rw[qC z3,qC z2,qC z1]
refine⟨.ref h'.objs.size,_,?_,rfl,q _ c' ctv nF nC fc⟩
refine I.un (t':=tk) ⟨λb o e n _ _=>trk b o e (qG hT n).symm _,λb o e n _ _=>⟨o.slots,trk b o e (qG hT n).symm _⟩,λb o e n _=>?_,λb o e _=>?_,λb xs e=>?_,λb o u e=>?_,λb qs e=>?_⟩ λb u e=>?_
·have hb:b<s.heap.objs.size:=kP e;rw[other (qG hT n).symm (mK (mU hb hge)) (mK (mU hb sz)) (.lst [])];exact n
·by_cases z:b=T
 ·subst z;exact⟨_,hU _ htb⟩
 exact⟨o,trk b o e z _⟩
·rw[other (λz=>by rw[z,hT]at e;cases e) (qG e nC) (qG e nF) (.lst [])];exact e
·rw[other (λz=>by rw[z,hT]at e;cases e) (qG e nC) (qG e nF) (.lst [])];exact e
·by_cases z:b=T
 ·subst z;rw[hT]at e;cases e;refine⟨#[rawInt pos.line,rawInt pos.col,.ref c'],?_⟩;rw[qC (qG hT nF),qC (qG hT nC)];exact qI
 exact⟨#[],by rw[other z (qG e nC) (qG e nF) (.lst []),e];simp⟩
by_cases z3:b=h'.objs.size
·subst z3;rw[qI]at e;cases e;exact qEG (mD _ rfl)
by_cases z2:b=c'
·subst z2;rw[qC z3,qI]at e;cases e;exact qJ1 (hrec.push _)
by_cases z:b=T
·subst z;rw[qC z3,qC z2,qI]at e;cases e;exact hU _ htb
rw[other z z2 z3 (.lst [])]at e
refine(I.hok b u e).stay (λd v hd r=>trk d v r (λy=>?_) _) (λd r=>?_) λd xs r=>?_
·rcases hd with hd|hd
 ·exact z (hd▸y)
 rw[y,hT]at hd;cases hd
·rw[other (λy=>by rw[y,hT]at r;cases r) (qG r nC) (qG r nF) (.lst [])];exact r
rw[other (λy=>by rw[y,hT]at r;cases r) (qG r nC) (qG r nF) (.lst [])];exact r)
noncomputable abbrev envL(qual:Str)(scope:Scope)(clos:List (Str×Addr))(L f:Addr)(cd:Value):Env:=newEnv scope L mainGlobals clos (qual++".<locals>.") (some f) cd none builtinsNs
noncomputable def qEJ(CX:CXT)(P:Program)(w:World)(K:PySem.W.Frag)(mg:Str→Option Value)(base:Heap)(N:List Str)(qual:Str)(scope:Scope)(clos:List (Str×Addr))(f:Addr)(cd:Value)(A:Around)(outer:List Env)(s:Shared)(H:Hp)(E:XK):Cx where
prog:=P
w:=w
K:=K
mg:=mg
base:=base
A:=A.deeper (envL qual scope clos s.heap.objs.size f cd)
N:=N
s₀:=s
H₀:=H
env:=envL qual scope clos s.heap.objs.size f cd
outer:=outer
stack:=envL qual scope clos s.heap.objs.size f cd::outer
ex:=[]
calm:=true
fn:=λ_=>false
pn:=[]
xe:=λe s'=>wpAny (model P w) (A.deeper (envL qual scope clos s.heap.objs.size f cd)) (leaving (envL qual scope clos s.heap.objs.size f cd) e) (λ_ s''=>CX outer H s E e s'') (λe' s''=>CX outer H s E e' s'') s'
structure LamSc(scope:Scope)(x0:Str)(clos:List (Str×Addr))(fvs:List V)(base:Heap):Prop where
kind:scope.kind=.function
co:scope.isCoroutine=false
gen:scope.isGenerator=false
par:scope.names.lookup x0=some .local
nocell:∀y∈scope.names,y.2≠ .cell
free:∀y,scope.names.lookup y=some .free→∃c,clos.lookup y=some c
inj:∀x y c,clos.lookup x=some c→clos.lookup y=some c→x=y
at':∀(j:Nat) (x:Str) (c:Addr),clos[j]?=some (x,c)→scope.names.lookup x=some .free∧clos.lookup x=some c∧∃v u,fvs[j]?=some v∧RelV v u∧base.IsCell c (some u)
len:fvs.length=clos.length
theorem qG8{CX:CXT}{P:Program}{w:World}{K:PySem.W.Frag}{mg:Str→Option Value}{base:Heap}{k:Nat}{f c:Addr}{name qual:Str}{params:Arguments}{body:Expr}{scope:Scope}{pm ct:Value}{x0:Str}{clos:List (Str×Addr)}{fvs:List V}{sp:Sp}(S:LamSc scope x0 clos fvs base)
 (len:∀vs H Q E,sp vs H Q E→vs.length=1) (hf:∀vs H Q E,sp vs H Q E→H f=some (fnO f (kla_fn name qual params body scope clos pm (.ref c) ct))∧H c=some (cdO c qual))
 (hbody:∀(A:Around) (outer:List Env) (s:Shared) (H:Hp) (v0:V) (Q:VK) (E:XK),Room k (A.deeper (envL qual scope clos s.heap.objs.size f (.ref c)))→sp [v0] H Q E→∃t,PE (qEJ CX P w K mg base (x0::clos.map (·.1)) qual scope clos f (.ref c) A outer s H E) body t∧t (some v0::fvs.map some) H Q):
 FnOk P w K mg base CX (k+1) f (kla_fn name qual params body scope clos pm (.ref c) ct) [x0] sp:=by(
refine⟨len,λA outer s H args us vs Q E hr e0 hb r hsp=>?_⟩
have hl:=len _ _ _ _ hsp
obtain⟨v0,rfl⟩:∃v0,vs=[v0]:=match vs,hl with| [v],_=>⟨v,rfl⟩
obtain⟨u0,rfl,r0⟩:=zQ r
have lim:s.heap.NoLimit:=e0.mod.nolimit.keeps λb o e=>(e0.bs b o e).1
obtain⟨hf1,hc1⟩:=hf _ _ _ _ hsp
refine kla_callFunE hr.depth (qEH e0.hok hf1) rfl S.co S.gen rfl (qEI e0.hok hc1) (hb _ _ _ _ ?_)
refine xC S.nocell (λy hy=>?_) (λh' hn hs=>?_) S.kind
·obtain rfl:y=(x0,u0):=by simpa using hy
 exact S.par
have hk:∀b o,s.heap.get? b=some o→h'.get? b=some o:=λb o e=>by have:=hs.2 b (mK (kP e));rw[this];exact hU _ e
refine⟨lim.keeps hk,kla_codeExpr ?_⟩
obtain⟨t,ht,hq⟩:=hbody A outer s H v0 Q E (hr.deeper _) hsp
have noA:∀b:Addr,b∉(qEJ CX P w K mg base (x0::clos.map (·.1)) qual scope clos f (.ref c) A outer s H E).ex:=λb z=>absurd (show b∈([]:List Addr)from z) (by simp)
have cat:∀y d,clos.lookup y=some d→∃u,base.IsCell d (some u):=λy d e=>by obtain⟨j,hj,ej⟩:=wD (gO e);obtain⟨_,_,v,u,_,_,hu⟩:=S.at' j y d (kB.mpr ⟨hj,ej⟩);exact⟨u,hu⟩
have I:Inv (qEJ CX P w K mg base (x0::clos.map (·.1)) qual scope clos f (.ref c) A outer s H E) [] (some v0::fvs.map some) H { s with heap:=h',toks:=s.toks + [(x0,u0)].length }:=by
 refine⟨⟨e0.mod,S.kind,rfl,rfl,kN _,S.inj,λy hy=>?_,λy c z _=>absurd (show false=true from z) (by decide),λ_=>hr.hd,l8 e0.frames,.inr ⟨rfl,rfl⟩,λb z=>absurd z (noA b),e0.bs,e0.bsz,λb _ _=>noA b,λb z=>absurd z (noA b),e0.funs,e0.frf⟩,rfl,e0.bare,Un.kept hk,⟨_,hn,λi y v h1 h2 h3=>?_⟩,λy d e=>?_,e0.hok.fresh (kN _),λy d e=>?_,λp hp=>absurd (show p∈([]:List (Addr×Obj))from hp) (by simp),e0.hok.kept hk,?_⟩
 ·have hy:scope.names.lookup y=some .cell∨scope.names.lookup y=some .free:=hy;rcases hy with hy|hy
  ·exact absurd rfl (S.nocell _ (gO hy))
  exact S.free y hy
 ·cases i with
  |zero=>obtain rfl:=kU h1;obtain rfl:=kU (kU h2);refine⟨u0,r0,.inl ⟨S.par,?_⟩⟩;show([(x0,u0)]:List (Str×Value)).reverse.lookup x0=some u0;simp
  |succ j=>have h1:(clos.map (·.1))[j]?=some y:=h1;have h2:(fvs.map some)[j]?=some (some v):=h2;rw[mG]at h1 h2;obtain⟨⟨y',d⟩,hd,rfl⟩:=mO.mp h1;obtain⟨v',hv,ev⟩:=mO.mp h2;obtain rfl:=kU ev;obtain⟨a1,a2,v2,u,a3,a4,a5⟩:=S.at' j _ d hd;rw[hv]at a3;obtain rfl:=kU a3;exact⟨u,a4,.inr ⟨.inr a1,d,a2,a5.keeps λb o e=>hk b o (e0.bs b o e).1⟩⟩
 ·obtain⟨u,hu⟩:=cat y d e;exact⟨_,hu.keeps λb o e=>hk b o (e0.bs b o e).1⟩
 ·obtain⟨u,o,ho,_⟩:=cat y d e;exact(e0.bs _ _ ho).2
 show(some v0::fvs.map some).length=(x0::clos.map (·.1)).length;rw[mC,mC,h9,h9,S.len]
exact gY (ht [] _ _ H _ I hq) (λu s' ⟨v,H',J,rv,q⟩=>⟨v,H',J.os,J.bare,J.base,J.hok,rv,q⟩) λe s' hs=>hs)
theorem qG9{scope:Scope}{env:Env}(h:(scope.names.all λy=>decide (y.2≠ .free)||(env.cells.lookup y.1).isSome)=true):closureFor scope env=pure (clOf env scope.names []):=q52 λy hy hf=>by(
 have q:=dY.mp h y hy;rw[wT,kW]at q;rcases q with q|q
 ·exact absurd hf q
 exact cU.mp q)
theorem qCP{scope:Scope}{x0 y:Str}{ca:Addr}{v:V}{u:Value}{base:Heap}(hk:scope.kind=.function)(hco:scope.isCoroutine=false)(hg:scope.isGenerator=false)(hp:scope.names.lookup x0=some .local)
 (hn:(scope.names.all λz=>decide (z.2≠ .cell)&&(decide (z.2≠ .free)||decide (z.1=y)))=true) (hf:scope.names.lookup y=some .free) (r:RelV v u) (hc:base.IsCell ca (some u)):LamSc scope x0 [(y,ca)] [v] base:=by(
have at1:∀z∈scope.names,z.2≠ .cell∧(z.2≠ .free∨z.1=y):=λz hz=>by have q:=dY.mp hn z hz;rw[mR,wT,kW,kW,kW]at q;exact q
have lk:([(y,ca)]:List (Str×Addr)).lookup y=some ca:=by simp
have one:∀x c,([(y,ca)]:List (Str×Addr)).lookup x=some c→x=y∧c=ca:=λx c e=>by have m:=gO e;simpa using m
refine⟨hk,hco,hg,hp,λz hz=>(at1 z hz).1,λz hz=>?_,λa b c h1 h2=>?_,λj x c h=>?_,rfl⟩
·have m:=(at1 _ (gO hz)).2;rcases m with m|m
 ·exact absurd rfl m
 exact⟨ca,by rw[show z=y from m];exact lk⟩
·rw[(one _ _ h1).1,(one _ _ h2).1]
match j,h with
|0,h=>
 obtain⟨rfl,rfl⟩:y=x∧ca=c:=by simpa using h
 exact⟨hf,lk,v,u,rfl,r,hc⟩
|j+1,h=>exact absurd h (by simp))
theorem q9C{env:Env}{names:List (Str×NameKind)}{y:Str}{ca:Addr}(e:env.cells.lookup y=some ca)(h:clOf env names []=match env.cells.lookup y with|some a=>[(y,a)] |none=>[]):clOf env names []=[(y,ca)]:=by rw[h,e]
noncomputable def qJ3(T:Addr)(pos:Pos)(qual:Str)(params:Arguments)(body:Expr)(scope:Scope)(clos:List (Str×Addr))(pm:Value):TE:=λσ H Q=>∃ps c',H T=some (.tbl ps)∧TriplesOk ps.toList∧codeAmong pos ps.toList=some (.ref c')∧∀(f:Addr) (ctv:Value),H f=none→Q (.ref f) (upd H f (fnO f (kla_fn "<lambda>" qual params body scope clos pm (.ref c') ctv)))
theorem qEK{X:Cx}{c T:Addr}{params:Arguments}{body:Expr}{scope:Scope}{pos:Pos}{clos:List (Str×Addr)}(hcode:X.env.code=.ref c)(hcd:codeHdIn X.K c T=true)(B:BmIn X.base X.mg)(hcl:closureFor scope X.env=pure clos)(hdef:defaultsOf params X.env=([],[])):
 PE X (.Lambda params body scope pos) (qJ3 T pos (X.env.qual++"<lambda>") params body scope clos ((X.mg "__name__").getD .none)):=by(
intro pins s σ H Q I hZ
obtain⟨ps,c',hT,ht,hnf,q⟩:=hZ
have hP:s.heap.get? T=some (tabObj ps):=I.hok T _ hT
have hgs:s.heap.Ns mainGlobals X.mg:=I.ok.mod.glob.keeps I.bk
obtain⟨bm,ob,b1,b2,b3,b4,b5,b6⟩:=B
have b3':=I.bk _ _ b3
have hbP:bm≠T:=λz=>by rw[z,hP]at b3';cases b3';cases b4
have hbG:bm≠mainGlobals:=λz=>by obtain⟨o,es,ep,e,hd,_⟩:=hgs;rw[z,e]at b3';cases b3';rw[hd]at b6;cases b6
refine kla_eval hdef (kla_makeFunctionHit (clos:=clos) hcl I.ok.glob hgs hcode (a0 I.kIn hcd) hP ht hnf ⟨bm,ob,b1,b2,hbG,hbP,b3',b4,b5,b6⟩ λctv h' tk hx sz=>?_)
have trk:∀b u,s.heap.get? b=some u→∀o,(h'.push o).get? b=some u:=λb u e o=>hU _ (hx b u e)
have nF:H h'.objs.size=none:=I.hok.fresh sz
refine⟨.ref h'.objs.size,_,?_,rfl,q _ ctv nF⟩
refine I.un (t':=tk) ⟨λb o e n _ _=>trk b o e _,λb o e n _ _=>⟨o.slots,trk b o e _⟩,λb o e n _=>?_,λb o e _=>⟨o,trk b o e _⟩,λb xs e=>?_,λb o u e=>?_,λb qs e=>?_⟩ λb u e=>?_
·rw[qC (mK (mU (kP e) sz))];exact n
·rw[qC (qG e nF)];exact e
·rw[qC (qG e nF)];exact e
·exact⟨#[],by rw[qC (qG e nF),e];simp⟩
by_cases z3:b=h'.objs.size
·subst z3;rw[qI]at e;cases e;exact qEG (mD _ rfl)
rw[qC z3]at e
refine(I.hok b u e).stay (λd v hd r=>trk d v r _) (λd r=>?_) λd xs r=>?_
·rw[qC (qG r nF)];exact r
rw[qC (qG r nF)];exact r)
noncomputable def qKL(T:Addr)(pos:Pos)(qual:Str)(params:Arguments)(body:Expr)(scope:Scope)(clos:List (Str×Addr))(pm:Value):TE:=λσ H Q=>∃ps,H T=some (.tbl ps)∧TriplesOk ps.toList∧((codeAmong pos ps.toList=none∧∀(f c':Addr) (ctv:Value) (H':Hp),H f=none→H' f=some (fnO f (kla_fn "<lambda>" qual params body scope clos pm (.ref c') ctv))→H' c'=some (cdO c' qual)→H' T=some (.tbl (ps++#[rawInt pos.line,rawInt pos.col,.ref c']))→(∀b o,b≠T→H b=some o→H' b=some o)→Q (.ref f) H')∨∃c',codeAmong pos ps.toList=some (.ref c')∧∀(f:Addr) (ctv:Value) (H':Hp),H f=none→H' f=some (fnO f (kla_fn "<lambda>" qual params body scope clos pm (.ref c') ctv))→Same H H'→Q (.ref f) H')
theorem qBL{X:Cx}{c T:Addr}{params:Arguments}{body:Expr}{scope:Scope}{pos:Pos}{clos:List (Str×Addr)}(hcode:X.env.code=.ref c)(hcd:codeHdIn X.K c T=true)(B:BmIn X.base X.mg)(hcl:closureFor scope X.env=pure clos)(hdef:defaultsOf params X.env=([],[])):
 PE X (.Lambda params body scope pos) (qKL T pos (X.env.qual++"<lambda>") params body scope clos ((X.mg "__name__").getD .none)):=λpins s σ H Q I ⟨ps,hT,ht,h⟩=>by(
rcases h with⟨hn,q⟩|⟨c',hn,q⟩
·exact qG7 hcode hcd B hcl hdef pins s σ H Q I ⟨ps,hT,ht,hn,λf c' ctv nf nc fc=>q f c' ctv _ nf qI (by rw[qC fc.symm];exact qI) (by rw[qC (qG hT nf),qC (qG hT nc)];exact qI) λb o nb e=>by rw[qC (qG e nf),qC (qG e nc),qC nb];exact e⟩
exact qEK hcode hcd B hcl hdef pins s σ H Q I ⟨ps,c',hT,ht,hn,λf ctv nf=>q f ctv _ nf qI (Same.upd nf)⟩)
theorem qBM{X:Cx}{CX:CXT}{k:Nat}{f:Addr}{fd:FuncData}{ps:List Str}{sp:Heap→Sp}{dvs:List V}{ds:List Value}{E:XK}{pins:List (Addr×Obj)}{σ:St}{H:Hp}{s:Shared}{Q:VK}{us:List Value}{vs:List V}(ix:List (Nat×Str))
 (hix:∀p∈ix,X.N[p.1]?=some p.2∧X.env.scope.names.lookup p.2=some .cell∧X.fn p.2=true)
 (F:∀base',(∀b o,X.base.get? b=some o→base'.get? b=some o)→q0Z X.env.cells σ base' ix→FnOk X.prog X.w X.K X.mg base' CX k f fd ps (sp base')) (hr:Room k X.A) (hb:jO X.K fd ps ds) (hd:Vals dvs ds) (hx:q05 CX X E)
 (I:Inv X pins σ H s) (r:Vals vs us) (h:∀base',(∀b o,X.base.get? b=some o→base'.get? b=some o)→q0Z X.env.cells σ base' ix→sp base' (vs++dvs) H Q E):wpAny (model X.prog X.w) X.A (call (.ref f) us) (EP X pins σ Q) X.xe s:=by(
have r2:Vals (vs++dvs) (us++ds):=r.append hd
obtain⟨e0,up,cel⟩:=I.env0C (ix.filterMap λp=>X.env.cells.lookup p.2) (λc hc=>by obtain⟨p,hp,e⟩:=wN.mp hc;exact⟨p.2,(hix p hp).2.2,e⟩)
have cv:q0Z X.env.cells σ (hidT s.heap (uW X.base (ix.filterMap λp=>X.env.cells.lookup p.2))) ix:=λp hp v hv=>by
 obtain⟨h1,h2,h3⟩:=hix p hp;obtain⟨m,_,hl⟩:=I.loc;obtain⟨u,ru,lk⟩:=hl p.1 p.2 v h1 hv (.inr (.inl h2));rcases lk with⟨z,_⟩|⟨_,c,hc,o,ho,hd⟩
 ·have z:X.env.scope.names.lookup p.2=some .local:=z;rw[h2]at z;cases z
 exact⟨c,u,hc,ru,o,cel c (wN.mpr ⟨p,hp,hc⟩) o ho,hd⟩
have q:=h _ up cv
have hl:(us++ds).length=ps.length:=by rw[←r2.length];exact(F _ up cv).len _ _ _ _ q
refine cJ (wO ((F _ up cv).run X.A X.stack s H ⟨us,[]⟩ (us++ds) (vs++dvs) Q E hr e0 (hb s us I.kIn hl) r2 q) λr s' hq=>?_)
cases r with
|error e=>exact hx pins σ H s e s' I hq
|ok fl=>
 cases fl with
 |ret u=>exact I.after hq
 |next=>exact False.elim hq
 |brk=>exact False.elim hq
 |cont=>exact False.elim hq)
section
variable{X:Cx}{pins:List (Addr×Obj)}{σ:St}{H:Hp}{s:Shared}
theorem qCQ{P:PySem.Fin→Shared→Prop}{EE:Value→Shared→Prop}{a f:Addr}{n:Nat}{vs:List Value}{us:List V}(I:Inv X pins σ H s)
 (ho:s.heap.get? a=some (seqObj "list" vs.toArray n)) (fa:FpOk X pins H a) (ha:X.s₀.heap.objs.size≤a) (rv:Vals us vs) (h64:us.length<64)
 (Pv:Nat→List V→Hp→Prop) (h0:Pv 0 [] H) (hs:∀i x zs H' pins' s' u,us[i]?=some x→RelV x u→Pv i zs H'→Inv { X with A:=X.A.in1.in1,xe:=λ_ _=>False } pins' σ H' s'→wpAny (model X.prog X.w) X.A.in1.in1 (call (.ref f) [u]) (EP { X with A:=X.A.in1.in1,xe:=λ_ _=>False } pins' σ (λz H''=>Pv (i+1) (zs++[z]) H'')) (λ_ _=>False) s')
 (hd:∀zs H',H' a=none→zs.length=us.length→Pv us.length zs H'→∃kk m,Paired (TupI X.K H') zs kk∧(∀k∈kk,k.length=m)∧0<m∧∀q:List Nat,q.Perm (List.range us.length)→(q.map λi=>kk.getD i []).Pairwise (λa b=>lx b a=false)→∀s',Inv X pins σ (upd H' a (.lst (q.map λi=>us.getD i .non))) s'→P (.done (.ret .none)) s'):
 wpAny (model X.prog X.w) X.A.in1.in1 (ksk_tree a (.ref f) false) P EE s:=by(
have hal:a<s.heap.objs.size:=kP ho
have hl:=rv.length
obtain⟨e1,g1⟩:∃e1,(s.heap.update a (Obj.mapSeq λ_=>(#[]:Array Value))).get? a=some (seqObj "list" #[] e1):=⟨_,wU ho λ_=>#[]⟩
unfold ksk_tree
refine hG (aL ho rfl (hG (wY ho rfl (hG (sZ g1 rfl ?_)) (by rw[mB,gJ];lia) (mM _))))
refine hG (wpAny_newTuple (hG (wZ (gG ?_) (mM _))) (by show vs.length≤_;rw[gJ];lia))
have hks:((s.heap.update a (Obj.mapSeq λ_=>(#[]:Array Value))).push (seqObj "tuple" vs.toArray 0)).objs.size=s.heap.objs.size+1:=by rw[lF,nQ]
obtain⟨kS,eks⟩:∃kS:Addr,kS=((s.heap.update a (Obj.mapSeq λ_=>(#[]:Array Value))).push (seqObj "tuple" vs.toArray 0)).objs.size:=⟨_,rfl⟩
have ksz:s.heap.objs.size≤kS:=by rw[eks,hks];exact g4 _
have ne:kS≠a:=rM (mU hal ksz)
show wpAny (model X.prog X.w) X.A.in1.in1 (ksk_rest a (.ref f) false vs.toArray e1 (.ref ((s.heap.update a (Obj.mapSeq λ_=>(#[]:Array Value))).push (seqObj "tuple" vs.toArray 0)).objs.size)) P EE { s with heap:=((s.heap.update a (Obj.mapSeq λ_=>(#[]:Array Value))).push (seqObj "tuple" vs.toArray 0)).push (seqObj "list" #[] 0) }
rw[←eks]
have gk0:(((s.heap.update a (Obj.mapSeq λ_=>(#[]:Array Value))).push (seqObj "tuple" vs.toArray 0)).push (seqObj "list" #[] 0)).get? kS=some (seqObj "list" #[] 0):=by rw[eks];exact mD _ rfl
have ga0:=hU (seqObj "list" #[] 0) (hU (seqObj "tuple" vs.toArray 0) g1)
have I0:Inv X pins σ H { s with heap:=((s.heap.update a (Obj.mapSeq λ_=>(#[]:Array Value))).push (seqObj "tuple" vs.toArray 0)).push (seqObj "list" #[] 0),toks:=s.toks }:=I.turnedN (fp:=[a]) (λb o hb' e=>hU _ (hU _ ((kY _ _ (λz=>hb' (kD.mpr z.symm))).trans e))) (λb hb'=>by rw[kD.mp hb'];exact fa)
have fk0:FpOk X pins H kS:=I.fpOk ksz (I.hok.fresh ksz)
have fp:∀{H':Hp} {b:Addr},FpOk X pins H b→H' b=none→FpOk X pins H' b:=λf e=>⟨e,f.2⟩
unfold ksk_rest
refine hG (bQ ?_)
first
 |rw[List.forIn_toArray]
 |(rw[←Array.forIn_toList];simp only[List.toList_toArray])
refine hG (ksk_fold (I:=λi s'=>∃H' zs ks e,Inv X pins σ H' s'∧s'.heap.get? a=some (seqObj "list" #[] e1)∧s'.heap.get? kS=some (seqObj "list" (List.toArray ks) e)∧Vals zs ks∧zs.length=i∧Pv i zs H'∧H' a=none∧H' kS=none) vs 0 _ ⟨H,[],[],0,I0,ga0,gk0,.nil,rfl,h0,fa.1,fk0.1⟩ (λj x s' hx hJ=>?_) λs' hJ=>?_)
·obtain⟨H',zs,ks,e,I1,ga,gk,rz,lz,pv,na,nk⟩:=hJ;rw[lJ]at lz pv ⊢;have hj:j<vs.length:=(kB.mp hx).1;obtain⟨y,ey,ry⟩:=rv.atN (j:=j) hj;obtain rfl:vs[j]=x:=(kB.mp hx).2;have I2:=(I1.near (A':=X.A.in1.in1) rfl rfl λ_ _=>False).pinned (fp:=[a,kS]) (λb hb'=>by
  simp only[kM,gX,cW]at hb';rcases hb' with rfl|rfl
  ·exact fp fa na
  ·exact fp fk0 nk) (λb hb'=>by
  simp only[kM,gX,cW]at hb';rcases hb' with rfl|rfl
  ·exact⟨_,ga,λv z=>by cases z⟩
  exact⟨_,gk,λv z=>by cases z⟩)
 refine hG (nJ (gY (hs j y zs H' _ _ _ ey ry pv I2) (λu s'' hq=>?_) λ_ _ z=>z.elim));obtain⟨z,H'',I3,ru,q⟩:=hq;have pa:=I3.pin (a,seqObj "list" #[] e1) (kQ _ (kQ _ (yC (by simp) ga)));have pk:=I3.pin (kS,seqObj "list" (List.toArray ks) e) (kQ _ (kQ _ (yC (by simp) gk)));have lk:=rz.length;have ea:(List.toArray ks).push u=List.toArray (ks++[u]):=by simp
 obtain⟨c2,g2⟩:∃c2,(s''.heap.update kS (Obj.mapSeq (·.push u))).get? kS=some (seqObj "list" (List.toArray (ks++[u])) c2):=⟨_,by rw[←ea];exact wU pk.1 (·.push u)⟩;try dsimp only
 refine hG (wY pk.1 rfl ?_ (by rw[mB,gJ];lia) (mF (c7 (Array.size_push ..)) (by rw[mB,gJ];lia)));have I4:Inv X pins σ H'' s'':=(I3.unpinned).near (A':=X.A) rfl rfl X.xe;have I5:Inv X pins σ H'' { s'' with heap:=s''.heap.update kS (Obj.mapSeq (·.push u)),toks:=s''.toks }:=I4.turnedN (fp:=[kS]) (λb o hb' e=>(kY _ _ (λz=>hb' (kD.mpr z.symm))).trans e) (λb hb'=>by rw[kD.mp hb'];exact fp fk0 pk.2.1);exact kL ⟨rfl,H'',zs++[z],ks++[u],c2,I5,(kY _ _ ne).trans pa.1,g2,rz.append (.cons ru .nil),by rw[kZ,lz];rfl,q,pa.2.1,pk.2.1⟩
obtain⟨H',zs,ks,e,I1,ga,gk,rz,lz,pv,na,nk⟩:=hJ
rw[lJ,←hl]at lz pv
obtain⟨kk,m,hti,hw,hm,fin⟩:=hd zs H' na lz pv
try dsimp only
refine hG (aL gk rfl ?_)
exact qFZ I1 (fp fa na) (fp fk0 nk) ha ne ga gk rz rv lz h64 hti hw hm fin)
end
noncomputable def oneQ(R:V→Hp→Prop):List V→Hp→Prop
| [v],H=>R v H
|_,_=>False
theorem qBN{R:V→Hp→Prop}:∀{xs:List V} {H:Hp},oneQ R xs H→∃v,xs=[v]∧R v H
| [v],_,h=>⟨v,rfl,h⟩
| [],_,h=>h.elim
|_::_::_,_,h=>h.elim
noncomputable def tSL(P:Program)(w:World)(K:PySem.W.Frag)(mg:Str→Option Value)(base:Heap)(cells:List (Str×Addr))(ix:List (Nat×Str))(k:Nat)(x:Str)(tl:TE)(ta:TA):TE:=λσ H Q=>ta σ H λvs H1=>tl σ H1 λfv H2=>∃(f:Addr) (fd:FuncData) (sp:Heap→Sp),fv=.ref f∧(∀base',(∀b o,base.get? b=some o→base'.get? b=some o)→q0Z cells σ base' ix→FnOk P w K mg base' CX0 k f fd [x] (sp base'))∧jO K fd [x] []∧∃(l:Addr) (us:List V) (Pv:Nat→List V→Hp→Prop),vs=[.ref l]∧SqL K H2 l us∧us.length<64∧Pv 0 [] H2∧(∀base' i x zs H',q0Z cells σ base' ix→us[i]?=some x→Pv i zs H'→sp base' [x] H' (λz H''=>Pv (i+1) (zs++[z]) H'') E0)∧∀zs H',zs.length=us.length→Pv us.length zs H'→∃kk m,Paired (TupI K H') zs kk∧(∀k∈kk,k.length=m)∧0<m∧∀q:List Nat,q.Perm (List.range us.length)→(q.map λi=>kk.getD i []).Pairwise (λa b=>lx b a=false)→NewO H' (.lst (q.map λi=>us.getD i .non)) Q
theorem qAJ{X:Cx}{k:Nat}{x:Str}{e le:Expr}{tl:TE}{ta:TA}{p kp pos:Pos}(ix:List (Nat×Str))(hix:∀p∈ix,X.N[p.1]?=some p.2∧X.env.scope.names.lookup p.2=some .cell∧X.fn p.2=true)(hr:Room (k+2) X.A)(hg:Gl X "sorted")(hm:X.mg "sorted"=none)(hl:PE X le tl)(ha:PA X [e] ta)
 (he:starEach [e] X.env=[(false,eval e X.env)]:=by rfl) (hse:starEach ([]:List Expr) X.env=[]:=by rfl):
 PE X (.Call (.Name "sorted" p) [e] [⟨some "key",le,kp⟩] pos) (tSL X.prog X.w X.K X.mg X.base X.env.cells ix k x tl ta):=by(
intro pins s σ H Q I h
refine dE (q0R I hg hm (u:=.builtin "sorted") (by kernel_rfl) ?_ (by decide) (by decide))
refine a7 (thn (ha pos pins s σ H _ I h) λus s1 ⟨vs,H1,I1,r1,q1⟩=>?_) (by rw[he,hse];rfl) (by rw[he];rfl)
have pk:PK X [⟨some "key",le,kp⟩] (q6Q tl tNil):=q7E hl qA5
refine thn (pk pos pins s1 σ H1 (oneQ _) I1 q1) λws s2 hZ=>?_
obtain⟨xs,H2,I2,r2,q2⟩:=hZ
obtain⟨v,rfl,f,fd,sp,rfl,F,hb,q2⟩:=qBN q2
obtain⟨w,rfl,rw⟩:=zQ r2
obtain rfl:w=Value.ref f:=rw
obtain⟨l,us',Pv,ev,hq,h64,p0,hs,hd⟩:=q2
subst ev
obtain⟨u,rfl,ru⟩:=zQ r1
obtain rfl:u=Value.ref l:=ru
obtain⟨its,rv,pl,hz⟩:=I2.list hq
have hlen:=rv.length
show wpAny (model X.prog X.w) X.A (call (.builtin "sorted") [.ref l] [(Str.ofString "key",.ref f)]) _ _ _
refine call_function_entry_kw aZ aN aO (ksk_s1 _ _) ?_
unfold Builtin.«sorted»
refine hG (m:=checkCount "sorted" 1 1 _) (kL (hG (collect_list pl.isList (hG (wZ ?_ (by rw[gJ];show its.length≤_;lia))))))
have hsz:((s2.heap.push (seqObj "list" #[] 0)).update s2.heap.objs.size (Obj.mapSeq (· ++its.toArray))).objs.size=s2.heap.objs.size+1:=by rw[nQ,lF]
have g:(((s2.heap.push (seqObj "list" #[] 0)).update s2.heap.objs.size (Obj.mapSeq (· ++its.toArray))).push (seqObj "list" its.toArray 0)).get? (s2.heap.objs.size+1)=some (seqObj "list" its.toArray 0):=by rw[←hsz];exact mD _ rfl
show wpAny _ _ _ _ _ { s2 with heap:=((s2.heap.push (seqObj "list" #[] 0)).update s2.heap.objs.size (Obj.mapSeq (· ++its.toArray))).push (seqObj "list" its.toArray 0) }
rw[hsz]
have I3:Inv X pins σ H2 { s2 with heap:=((s2.heap.push (seqObj "list" #[] 0)).update s2.heap.objs.size (Obj.mapSeq (· ++its.toArray))).push (seqObj "list" its.toArray 0),toks:=s2.toks }:=I2.kept (t':=s2.toks) λb o e=>hU _ ((kY _ _ (rM (kP e))).trans (hU _ e))
refine hG (gG (wpAny_call_entry_kw xD ⟨_,g,rfl⟩ lM ?_ (ksk_l1 _ _)))
rw[ksk_t1]
have fr:s2.heap.objs.size≤s2.heap.objs.size+1:=g4 _
refine qCQ I3 g (I2.fpOk fr (I2.hok.fresh fr)) (mF I2.sz fr) rv h64 Pv p0 (λi x zs H' pins' s' u hx rx pv I'=>qBM (X:={ X with A:=X.A.in1.in1,xe:=λ_ _=>False }) (dvs:=[]) (ds:=[]) (E:=E0) ix hix F hr.in1.in1 hb .nil qK I' (.cons rx .nil) (λbase' up cv=>hs base' i x zs H' cv hx pv)) λzs H' na lz pv=>?_
obtain⟨kk,m,a1,a2,a3,a4⟩:=hd zs H' lz pv
refine⟨kk,m,a1,a2,a3,λq b1 b2 s' I'=>⟨_,rfl,kL ⟨_,rfl,.ref _,_,I',rfl,(a4 q b1 b2).at _ na⟩⟩⟩)
end L2
namespace W1
open PySem L2
structure QM where
P:Nat
B:Nat
nx:Int
V:Mp
lv:List Int
fi:List Int
bo:List Int
namespace QM
structure Ok(m:QM):Prop where
p1:1≤m.P
p2:m.P≤16
b2:m.B≤16
ll:m.lv.length=m.B
lf:m.fi.length=m.B
lo:m.bo.length=m.B
nd:(m.V.map (·.1)).Nodup
nm:∀q∈m.V,0≤q.1∧q.1≤64
blk:∀q∈m.V,∃b:Nat,b<m.B∧q.2 / (m.P:Int)=(b:Int)
wr:∀b,b<m.B→∃f:Nat,m.fi.getD b 0=(f:Int)∧f≤m.P
variable{m:QM}
theorem Ok.lenV(h:m.Ok):m.V.length≤65:=by
 have:=qHD (l:=m.V.map (·.1)) (m:=(List.range 65).map λi:Nat=>(i:Int)) h.nd λx hx=>by obtain⟨q,hq,rfl⟩:=mE.mp hx;have:=h.nm q hq;exact mE.mpr ⟨q.1.toNat,mQ.mpr (by lia),by lia⟩
 rw[h9,h9,gD]at this;exact this
noncomputable def forget(m:QM)(n:Int):QM:={ m with V:=jF m.V n,lv:=BM.lvF m.P m.V m.lv n }
theorem find_V{n:Int}:(∃p,(n,p)∈m.V∧m.V.find? (λq=>decide (q.1=n))=some (n,p))∨((∀q∈m.V,q.1≠n)∧m.V.find? (λq=>decide (q.1=n))=none):=by(
cases e:m.V.find? (λq=>decide (q.1=n))with
|none=>refine .inr ⟨λq hq z=>?_,rfl⟩;have:=wS.mp e q hq;exact this (hV z)
|some q=>
 have h1:q.1=n:=by have:=rH e;simpa using this
 have h2:=rT e;refine .inl ⟨q.2,by rw[←h1];exact h2,by rw[←h1]⟩)
theorem lvF_len{n:Int}:(BM.lvF m.P m.V m.lv n).length=m.lv.length:=by(
unfold BM.lvF
split
·rw[gL]
rfl)
theorem Ok.forget(h:m.Ok)(n:Int):(m.forget n).Ok:={ h with ll:=by show(BM.lvF m.P m.V m.lv n).length=m.B;rw[lvF_len];exact h.ll,nd:=q5G h.nd,nm:=λq hq=>h.nm q (jH.mp hq).1,blk:=λq hq=>h.blk q (jH.mp hq).1 }
noncomputable def put(m:QM)(b f:Nat)(n:Int):QM:={ m with V:=jF m.V n++[(n,((b*m.P+f:Nat):Int))],lv:=(BM.lvF m.P m.V m.lv n).set b ((BM.lvF m.P m.V m.lv n).getD b 0+1),bo:=if m.fi.getD b 0=0 then m.bo.set b m.nx else m.bo,fi:=m.fi.set b (m.fi.getD b 0+1),nx:=m.nx+1 }
theorem Ok.put(h:m.Ok){b f:Nat}{n:Int}(hb:b<m.B)(hf:f<m.P)(ef:m.fi.getD b 0=(f:Int))(n0:0≤n)(n1:n≤64):(m.put b f n).Ok where
p1:=h.p1
p2:=h.p2
b2:=h.b2
ll:=by show(List.set _ _ _).length=m.B;rw[gL,lvF_len];exact h.ll
lf:=by show(List.set _ _ _).length=m.B;rw[gL];exact h.lf
lo:=by
 show(if m.fi.getD b 0=0 then m.bo.set b m.nx else m.bo).length=m.B;split
 ·rw[gL];exact h.lo
 exact h.lo
nd:=by
 show((jF m.V n++[(n,((b*m.P+f:Nat):Int))]).map (·.1)).Nodup;rw[mW];refine cG.mpr ⟨q5G h.nd,by simp,λa ha c hc=>?_⟩;obtain⟨q,hq,rfl⟩:=mE.mp ha;have hc:c=n:=by simpa using hc
 rw[hc];exact(jH.mp hq).2
nm:=λq hq=>by
 rcases gH.mp hq with hq|hq
 ·exact h.nm q (jH.mp hq).1
 rw[kD.mp hq];exact⟨n0,n1⟩
blk:=λq hq=>by
 rcases gH.mp hq with hq|hq
 ·exact h.blk q (jH.mp hq).1
 rw[kD.mp hq];refine⟨b,hb,?_⟩;show((b*m.P+f:Nat):Int) / (m.P:Int)=_;rw[←dG,yA hf]
wr:=λc hc=>by
 show ∃g:Nat,(m.fi.set b (m.fi.getD b 0+1)).getD c 0=(g:Int)∧g≤m.P;rw[jD];split
 ·exact⟨f+1,by rw[ef];rfl,hf⟩
 exact h.wr c hc
end QM
noncomputable def vn(b:Nat):V:=.int (b:Int)
noncomputable def yW(B:Nat)(br:List Bool):List Nat:=(List.range B).filter λb=>!(br.getD b false)
noncomputable def yM(B:Nat)(br:List Bool)(fi:List Int):List Nat:=(yW B br).filter λb=>decide (fi.getD b 0=0)
noncomputable def keyN(cl:List Int)(b:Nat):List Int:=[cl.getD b 0,(b:Int)]
structure FreeIs(B:Nat)(br:List Bool)(cl fi:List Int)(l:List Nat):Prop where
pm:l.Perm (yM B br fi)
so:(l.map (keyN cl)).Pairwise λa b=>lx b a=false
theorem qGA{cl:List Int}{a b:Nat}(h:keyN cl a=keyN cl b):a=b:=by(
unfold keyN at h
injection h with _ h
injection h with h _
lia)
theorem zT{B:Nat}{br:List Bool}{b:Nat}:b∈yW B br↔b<B∧br.getD b false=false:=by unfold yW;rw[mP,mQ,r9]
theorem q76{B:Nat}{br:List Bool}{fi:List Int}{b:Nat}:b∈yM B br fi↔(b<B∧br.getD b false=false)∧fi.getD b 0=0:=by unfold yM;rw[mP,zT,kW]
theorem q10{B:Nat}{br:List Bool}:(yW B br).length≤B:=mF (mH _ _) (by rw[gD];exact kN _)
theorem qCR{B:Nat}{br:List Bool}{fi:List Int}:(yM B br fi).length≤B:=mF (mH _ _) q10
theorem FreeIs.mem{B:Nat}{br:List Bool}{cl fi:List Int}{l:List Nat}(h:FreeIs B br cl fi l){b:Nat}(hb:b∈l):b<B∧br.getD b false=false∧fi.getD b 0=0:=by have:=q76.mp (h.pm.mem_iff.mp hb);exact⟨this.1.1,this.1.2,this.2⟩
noncomputable def jT(P:Nat)(fi:List Int)(b:Nat):Bool:=decide (0<fi.getD b 0)&&decide (fi.getD b 0<(P:Int))
noncomputable def jJ(B P:Nat)(br:List Bool)(fi:List Int):Option Nat:=(yW B br).find? (jT P fi)
theorem q09{B P:Nat}{br:List Bool}{fi:List Int}{b:Nat}(h:jJ B P br fi=some b):b<B∧br.getD b false=false∧0<fi.getD b 0∧fi.getD b 0<(P:Int):=by(
have h1:=zT.mp (rT h)
have h2:=rH h
unfold jT at h2
rw[mR,kW,kW]at h2
exact⟨h1.1,h1.2,h2.1,h2.2⟩)
noncomputable def q0N(B P:Nat)(br:List Bool)(fi:List Int)(l:List Nat):Option Nat:=match jJ B P br fi with
|some b=>some b
|none=>l.head?
theorem q9D{B P:Nat}{br:List Bool}{cl fi:List Int}{l:List Nat}(hl:FreeIs B br cl fi l)(hP:1≤P){b:Nat}(h:q0N B P br fi l=some b):b<B∧br.getD b false=false∧0≤fi.getD b 0∧fi.getD b 0<(P:Int):=by(
unfold q0N at h
split at h
·rename_i b' e;cases h;have:=q09 e;exact⟨this.1,this.2.1,by lia,this.2.2.2⟩
cases l with
|nil=>cases h
|cons c r=>cases h;have:=hl.mem kX;exact⟨this.1,this.2.1,by lia,by lia⟩)
noncomputable def pgV(P:Nat)(fi:List Int):Option Nat→V
|none=>.non
|some b=>.int ((b:Int)*(P:Int)+fi.getD b 0)
noncomputable def oV:Option Nat→V
|none=>.non
|some b=>.int (b:Int)
theorem q5H{α β:Type}{L:List α}{f:α→β}{d:β}{e:α}:∀{q:List Nat},(∀i∈q,i<L.length)→(q.map λi=>(L.map f).getD i d)=(q.map λi=>L.getD i e).map f
| [],_=>rfl
|i::q,h=>by have hi:=h i kX;rw[mJ,mJ,mJ,q5H (q:=q) λj hj=>h j (kC _ hj)];congr 1;rw[kJ,kJ,mG,hX hi];rfl
theorem qAK{α:Type}{L:List α}{e:α}{q:List Nat}(h:q.Perm (List.range L.length)):(q.map λi=>L.getD i e).Perm L:=by(
have:=h.map λi=>L.getD i e
refine this.trans ?_
have eq:(List.range L.length).map (λi=>L.getD i e)=L:=by refine wI (by simp) λi h1 h2=>?_;rw[pO,sP,kJ,hX h2];rfl
rw[eq])
theorem qGB{B:Nat}{br:List Bool}{cl fi:List Int}{q:List Nat}(h:q.Perm (List.range (yM B br fi).length))(so:(q.map λi=>((yM B br fi).map (keyN cl)).getD i []).Pairwise λa b=>lx b a=false):FreeIs B br cl fi (q.map λi=>(yM B br fi).getD i 0):=by(
have hin:∀i∈q,i<(yM B br fi).length:=λi hi=>mQ.mp (h.mem_iff.mp hi)
refine⟨qAK h,?_⟩
rw[q5H (e:=0) hin]at so
exact so)
theorem q77{α β:Type}{L:List α}{f:α→β}{i:Nat}{x:α}(h:L[i]?=some x):(L.take (i+1)).map f=(L.take i).map f++[f x]:=by(
have hi:=(kB.mp h).1
obtain rfl:L[i]=x:=(kB.mp h).2
rw[←mL hi,mW]
rfl)
theorem qGC{a b:List Int}(h:lx a b=true):lx b a=false:=by(
cases z:lx b a with
|false=>rfl
|true=>have:=zS a b a h z;rw[q2H]at this;cases this)
theorem qHF{a b c:List Int}(h1:lx b a=false)(h2:lx c b=false):lx c a=false:=by(
cases z:lx c a with
|false=>rfl
|true=>
 cases y:lx a b with
 |true=>have:=zS c a b z y;rw[h2]at this;cases this
 |false=>have e:=q3J a b y h1;rw[e]at z;rw[h2]at z;cases z)
theorem FreeIs.ex(B:Nat)(br:List Bool)(cl fi:List Int):∃l,FreeIs B br cl fi l:=by(
refine⟨(yM B br fi).mergeSort λa b=>!(lx (keyN cl b) (keyN cl a)),xO _ _,?_⟩
have:=nY (le:=λa b=>!(lx (keyN cl b) (keyN cl a))) (λa b c h1 h2=>by
 rw[r9]at h1 h2 ⊢;exact qHF h1 h2) (λa b=>by
 cases z:lx (keyN cl b) (keyN cl a)with
 |false=>rfl
 |true=>rw[qGC z];rfl) (yM B br fi)
rw[gZ]
exact this.imp λh=>by rw[r9]at h;exact h)
theorem rep8{α:Type}{n i:Nat}{y:α}:(List.replicate n y).getD i y=y:=by rw[kJ,wH];split<;>rfl
end W1
namespace W1
noncomputable def orB:List Nat→Nat→Nat
| [],b=>b
|s::r,b=>orB r (b|||2 ^ s)
end W1
namespace W1
open PySem L2
theorem yB{B:Nat}:yW B (List.replicate B false)=List.range B:=by(
unfold yW
refine wF.mpr λb _=>?_
rw[rep8]
rfl)
end W1
namespace L2
open PySem PySem.Spec PyProof.Rows
structure ClM(K:PySem.W.Frag)(W:Addr)(m:Str)(f:Addr):Prop where
rd:PySem.W.readsIn K W (.type "type")=true
fd:PySem.W.findCls K (.ref W) (.type "type") m=some (.val (.ref f))
ga:PySem.W.specialIn K (.ref W) "__getattribute__"=some (some (.builtin "type.__getattribute__"))
kp:PySem.W.keepIn K (.ref f)=true
noncomputable def gLst(K:PySem.W.Frag)(n:Nat)(t:TGs):TG:=λv σ H Q=>∃a xs,v=.ref a∧SqL K H a xs∧xs.length=n∧t xs σ H Q
theorem qJ4{X:Cx}{pos:Pos}{es:List Expr}{k:Nat}{t:TGs}{n:Nat}(hc:X.calm=true)(h:PGs X es t)
 (hn:(assignEach es X.env).length=n:=by rfl) (hst:(assignEach es X.env).findIdx? (·.1)=none:=by rfl):PG X (.Tuple es k pos) (gLst X.K n t):=by(
intro pins s σ H v u Q I r hw
obtain⟨a,xs,e1,hq,hl,hw⟩:=hw
subst e1
cases r
obtain⟨its,rv,p,hz⟩:=I.list hq
rw[PyProof.Rows.assign_Tuple]
refine hG (pQ ?_)
unfold unpack
rw[show(assignEach es X.env).length=its.toArray.size by simp[hn,←hl,rv.length],hst]
refine hG (gG (PySem.W.kun_itemsOf (I.ok.hd hc) p.isList λh' hx=>?_))
have I1:Inv X pins σ H { s with heap:=h' }:=I.kept (t':=s.toks) λb o e=>hx b o (mK (kP e)) e
exact h pins _ σ H xs _ Q I1 (by simpa using rv) hw)
end L2
namespace W1
open PySem L2
noncomputable def rdy(ie:Int)(l:List Nat)(p:Option Nat):Bool:=decide ((l.length:Int)-(1+ie)>0)||(decide ((l.length:Int)-(1+ie)=0)&&p.isSome)
noncomputable abbrev tyL(m:CM)(q:QM)(b:Nat):List V:=[.int (b:Int),.int (q.lv.getD b 0),.int (m.cl.getD b 0),.int (q.bo.getD b 0)]
noncomputable def spcN(ie:Int)(l:List Nat)(P:Nat)(fi:List Int)(p:Option Nat):Int:=if 1+ie≤(l.length:Int)then(P:Int)else match p with|none=>0|some b=>(P:Int)-fi.getD b 0
noncomputable def jQ(B P:Nat)(br:List Bool)(fi:List Int):List Nat:=(yW B br).filter λb=>decide (fi.getD b 0=(P:Int))
noncomputable def optN(ie:Int)(m:CM)(q:QM)(l:List Nat):List Nat:=((jQ q.B q.P m.br q.fi).filter λb=>decide (q.lv.getD b 0≤spcN ie l q.P q.fi (jJ q.B q.P m.br q.fi))).filter λb=>decide (q.lv.getD b 0<(q.P:Int))
noncomputable def qEL(q:QM)(r:Int×Nat×Int):QM:={ q with nx:=r.1 }.put (r.2.1 / q.P) (r.2.1%q.P) r.2.2
structure Fits(q:QM)(r:Int×Nat×Int):Prop where
b:r.2.1 / q.P<q.B
f:q.fi.getD (r.2.1 / q.P) 0=((r.2.1%q.P:Nat):Int)
s:q.nx≤r.1
n0:0≤r.2.2
n1:r.2.2≤64
section
variable{q q0:QM}{r:Int×Nat×Int}{R:List (Int×Nat×Int)}
theorem Fits.ok(h:Fits q r)(ok:q.Ok):(qEL q r).Ok:=by have okn:QM.Ok { q with nx:=r.1 }:={ ok with };exact okn.put h.b (Nat.mod_lt _ ok.p1) h.f h.n0 h.n1
structure QS(q:QM):Prop where
ok:q.Ok
lv:∀b,b<q.B→q.lv.getD b 0=(cntB q.P q.V b:Nat)
theorem qGD(h:QS q)(n:Int){b:Nat}(hb:b<q.B):(BM.lvF q.P q.V q.lv n).getD b 0=(cntB q.P (jF q.V n) b:Nat):=by(
unfold BM.lvF
rcases QM.find_V (m:=q) (n:=n)with⟨p,hp,e⟩|⟨no,e⟩
·rw[e];obtain⟨c,hc,ec⟩:=h.ok.blk _ hp;have ec:p / (q.P:Int)=(c:Int):=ec;have cd:=qEA (P:=q.P) (b:=b) h.ok.nd hp;show(q.lv.set (p / (q.P:Int)).toNat (q.lv.getD (p / (q.P:Int)).toNat 0-1)).getD b 0=_;rw[ec,mI,jD];rw[ec]at cd;have e1:=h.lv b hb;by_cases z:c=b
 ·subst z;rw[kI rfl]at cd;rw[kI ⟨rfl,by rw[h.ok.ll];exact hb⟩,e1];lia
 rw[kF (by lia)]at cd;rw[kF (λy=>z y.1),e1];lia
rw[e,h.lv b hb,show jF q.V n=q.V from wF.mpr λy hy=>hV (no y hy)])
theorem Fits.qs(h:Fits q r)(qs:QS q):QS (qEL q r):=by(
refine⟨h.ok qs.ok,λb hb=>?_⟩
have hb:b<q.B:=hb
have lc:=qGD qs r.2.2 hb
show((BM.lvF q.P q.V q.lv r.2.2).set (r.2.1 / q.P) ((BM.lvF q.P q.V q.lv r.2.2).getD (r.2.1 / q.P) 0+1)).getD b 0=((cntB q.P (jF q.V r.2.2++[(r.2.2,((r.2.1 / q.P*q.P+r.2.1%q.P:Nat):Int))]) b:Nat):Int)
have ep:r.2.1 / q.P*q.P+r.2.1%q.P=r.2.1:=by rw[wQ];exact Nat.div_add_mod _ _
have ea:cntB q.P (jF q.V r.2.2++[(r.2.2,(r.2.1:Int))]) b=cntB q.P (jF q.V r.2.2) b+(if r.2.1 / q.P=b then 1 else 0):=by
 unfold cntB;rw[List.countP_append,List.countP_singleton,←dG];by_cases z:r.2.1 / q.P=b
 ·rw[kI z,z,hV rfl];rfl
 rw[kF z,kE (by lia)];rfl
rw[ep,ea,jD]
by_cases z:r.2.1 / q.P=b
·rw[kI z,kI ⟨z,by rw[QM.lvF_len,qs.ok.ll];lia⟩,z,lc];lia
rw[kF z,kF (λy=>z y.1),lc]
lia)
end
noncomputable def OneP(B P:Nat)(fi:List Int):Prop:=∀b c,b<B→c<B→jT P fi b=true→jT P fi c=true→b=c
noncomputable def clr1(P:Nat)(fi:List Int)(b:Nat):Nat:=P-(fi.getD b 0).toNat
noncomputable def rm(B P:Nat)(fi:List Int):Nat:=((List.range B).map (clr1 P fi)).sum
theorem qBO{L:List Nat}{f g:Nat→Nat}:(L.map λb=>f b+g b).sum=(L.map f).sum+(L.map g).sum:=by(
induction L with
|nil=>rfl
|cons x L ih=>rw[mJ,mJ,mJ,d9,d9,d9,ih];lia)
theorem zU{L:List Nat}{f g:Nat→Nat}(h:∀b∈L,f b=g b):(L.map f).sum=(L.map g).sum:=by rw[wE h]
theorem qJ5{L:List Nat}{p:Nat→Bool}{c:Nat}:(L.map λb=>if p b=true then c else 0).sum=(L.filter p).length*c:=by(
induction L with
|nil=>rw[List.filter_nil];simp
|cons x L ih=>
 rw[mJ,d9,ih,gA];by_cases h:p x=true
 ·rw[kI h,kI h,mC,cP];lia
 rw[kF h,kF h];lia)
theorem qBP{L:List Nat}{p:Nat→Bool}{h:Nat→Nat}(nd:L.Nodup)(one:∀a∈L,∀b∈L,p a=true→p b=true→a=b):(L.map λb=>if p b=true then h b else 0).sum=match L.find? p with|some b=>h b|none=>0:=by(
induction L with
|nil=>rfl
|cons x L ih=>
 obtain⟨n1,n2⟩:=mY.mp nd;rw[mJ,d9,dR];by_cases hx:p x=true
 ·rw[hx,kI rfl];have:(L.map λb=>if p b=true then h b else 0).sum=(L.map λ_=>0).sum:=zU λb hb=>by rw[kF];intro z;exact n1 (by rw[one x (by simp) b (kC _ hb) hx z];exact hb)
  rw[this];have z:(L.map λ_=>0).sum=0:=by
   clear this ih nd one n1 n2;induction L with
   |nil=>rfl
   |cons y L ih=>rw[mJ,d9,ih]
  rw[z];rfl
 rw[kF hx];rw[Bool.not_eq_true]at hx;rw[hx];rw[lJ];exact ih n2 λa ha b hb=>one a (kC _ ha) b (kC _ hb))
section
variable{B P:Nat}{fi cl:List Int}{l:List Nat}
noncomputable abbrev noB(B:Nat):List Bool:=List.replicate B false
theorem qKM(on:OneP B P fi)(wr:∀b,b<B→∃f:Nat,fi.getD b 0=(f:Int)∧f≤P)(p1:1≤P)(hl:FreeIs B (noB B) cl fi l):
 rm B P fi=l.length*P+(match jJ B P (noB B) fi with|some b=>P-(fi.getD b 0).toNat|none=>0):=by(
have h1:l.length=((List.range B).filter λb=>decide (fi.getD b 0=0)).length:=by rw[hl.pm.length_eq];unfold yM;rw[yB]
unfold rm jJ
rw[yB,h1,←qJ5,←qBP (p:=jT P fi) (h:=λb=>P-(fi.getD b 0).toNat) nZ (λa ha b hb=>on a b (mQ.mp ha) (mQ.mp hb)),←qBO]
refine zU λb hb=>?_
obtain⟨f,ef,hf⟩:=wr b (mQ.mp hb)
unfold clr1 jT
rw[ef,mI]
by_cases z:f=0
·subst z;simp
by_cases y:f<P
·rw[kF (by simp;lia),hV (by lia),hV (by lia)];simp
rw[kF (by simp;lia),kE (show ¬(f:Int)<(P:Int) by lia)]
simp
lia)
theorem q9E{b:Nat}(h:jJ B P (noB B) fi=some b):b<B∧0<fi.getD b 0∧fi.getD b 0<(P:Int):=by have:=q09 h;exact⟨this.1,this.2.2⟩
theorem q11(on:OneP B P fi)(wr:∀b,b<B→∃f:Nat,fi.getD b 0=(f:Int)∧f≤P)(p1:1≤P)(hl:FreeIs B (noB B) cl fi l):
 (jJ B P (noB B) fi=none∧rm B P fi=l.length*P)∨∃b e,jJ B P (noB B) fi=some b∧1≤e∧e<P∧rm B P fi=l.length*P+e∧fi.getD b 0+(e:Int)=(P:Int):=by(
have h:=qKM on wr p1 hl
cases hp:jJ B P (noB B) fi with
|none=>rw[hp]at h;exact .inl ⟨rfl,h⟩
|some b=>rw[hp]at h;obtain⟨a,c,d⟩:=q9E hp;exact .inr ⟨b,P-(fi.getD b 0).toNat,rfl,by lia,by lia,h,by lia⟩)
theorem qGE{ie:Nat}(on:OneP B P fi)(wr:∀b,b<B→∃f:Nat,fi.getD b 0=(f:Int)∧f≤P)(p1:1≤P)(hl:FreeIs B (noB B) cl fi l):
 rdy (ie:Int) l (jJ B P (noB B) fi)=decide ((1+ie)*P<rm B P fi):=by(
have key:∀e,e<P→((1+ie)*P<l.length*P+e↔(1+ie<l.length∨(1+ie=l.length∧0<e))):=λe he=>by
 rcases Nat.lt_trichotomy (1+ie) l.length with h|h|h
 ·have:=g5 P (show 1+ie+1≤l.length from h);rw[cP]at this;exact⟨λ_=>.inl h,λ_=>by lia⟩
 ·rw[h];exact⟨λz=>.inr ⟨rfl,by lia⟩,λz=>by lia⟩
 have:=g5 P (show l.length+1≤1+ie from h);rw[cP]at this;exact⟨λz=>by lia,λz=>by lia⟩
unfold rdy
rcases q11 on wr p1 hl with⟨h1,h2⟩|⟨b,e,h1,e1,e2,h2,_⟩
·rw[h1,h2];have k:=key 0 (by lia);rw[Nat.add_zero]at k;by_cases z:(1+ie)*P<l.length*P
 ·rw[hV z,hV (show(l.length:Int)-(1+(ie:Int))>0 by rcases k.mp z with h|h<;>lia)];rfl
 rw[kE z,kE (show ¬(l.length:Int)-(1+(ie:Int))>0 by intro y;exact z (k.mpr (.inl (by lia))))];simp
rw[h1,h2]
have k:=key e e2
by_cases z:(1+ie)*P<l.length*P+e
·rw[hV z];rcases k.mp z with h|h
 ·rw[hV (show(l.length:Int)-(1+(ie:Int))>0 by lia)];rfl
 rw[hV (show(l.length:Int)-(1+(ie:Int))=0 by lia)];simp
rw[kE z,kE (show ¬(l.length:Int)-(1+(ie:Int))>0 by intro y;exact z (k.mpr (.inl (by lia)))),kE (show ¬(l.length:Int)-(1+(ie:Int))=0 by intro y;exact z (k.mpr (.inr ⟨by lia,by lia⟩)))]
rfl)
theorem q78(on:OneP B P fi)(wr:∀b,b<B→∃f:Nat,fi.getD b 0=(f:Int)∧f≤P)(p1:1≤P)(hl:FreeIs B (noB B) cl fi l)(h:0<rm B P fi):∃b,q0N B P (noB B) fi l=some b∧((jJ B P (noB B) fi=some b)∨(jJ B P (noB B) fi=none∧fi.getD b 0=0)):=by(
unfold q0N
rcases q11 on wr p1 hl with⟨h1,h2⟩|⟨b,e,h1,_⟩
·rw[h1];cases l with
 |nil=>rw[h2]at h;simp at h
 |cons x l=>exact⟨x,rfl,.inr ⟨rfl,(hl.mem (by simp)).2.2⟩⟩
rw[h1]
exact⟨b,rfl,.inl rfl⟩)
theorem qGF{L:List Nat}{f g:Nat→Nat}{b:Nat}(nd:L.Nodup)(hb:b∈L)(h:∀c∈L,c≠b→f c=g c):(L.map f).sum+g b=(L.map g).sum+f b:=by(
induction L with
|nil=>exact absurd hb (by simp)
|cons x L ih=>
 obtain⟨n1,n2⟩:=mY.mp nd;rw[mJ,mJ,d9,d9];rcases kM.mp hb with rfl|hb
 ·rw[zU (L:=L) (f:=f) (g:=g) λc hc=>h c (kC _ hc) λz=>n1 (by rw[←z];exact hc)];lia
 have:=ih n2 hb λc hc=>h c (kC _ hc);have e:=h x (by simp) λz=>n1 (by rw[z];exact hb);lia)
theorem qEM{b:Nat}{v:Int}(hb:b<B)(lf:fi.length=B):rm B P (fi.set b v)+(P-(fi.getD b 0).toNat)=rm B P fi+(P-v.toNat):=by(
have:=qGF (L:=List.range B) (f:=clr1 P (fi.set b v)) (g:=clr1 P fi) (b:=b) nZ (mQ.mpr hb) λc _ hc=>by unfold clr1;rw[jD,kF (λz=>hc z.1.symm)]
unfold rm
have e:clr1 P (fi.set b v) b=P-v.toNat:=by unfold clr1;rw[jD,kI ⟨rfl,by lia⟩]
rw[e]at this
exact this)
theorem qJ6{b f:Nat}(hb:b<B)(lf:fi.length=B)(ef:fi.getD b 0=(f:Int))(hf:f<P):rm B P (fi.set b (fi.getD b 0+1))+1=rm B P fi:=by(
have:=qEM (P:=P) (v:=fi.getD b 0+1) hb lf
rw[ef]at this ⊢
have e1:((f:Int)).toNat=f:=mI f
have e2:((f:Int)+1).toNat=f+1:=by lia
rw[e1,e2]at this
lia)
theorem qGG{b:Nat}(hb:b<B)(lf:fi.length=B)(ef:fi.getD b 0=(P:Int)):rm B P (fi.set b 0)=rm B P fi+P:=by(
have:=qEM (P:=P) (v:=0) hb lf
rw[ef]at this
have e1:((P:Int)).toNat=P:=mI P
rw[e1]at this
simpa using this)
theorem qGH{b:Nat}(on:OneP B P fi)(hb:b<B)(lf:fi.length=B)(h:(jJ B P (noB B) fi=some b)∨(jJ B P (noB B) fi=none∧fi.getD b 0=0)):OneP B P (fi.set b (fi.getD b 0+1)):=by(
have other:∀c,c<B→c≠b→jT P (fi.set b (fi.getD b 0+1)) c=true→False:=λc hc nc hp=>by
 have hp':jT P fi c=true:=by unfold jT at hp ⊢;rw[jD,kF (λz=>nc z.1.symm)]at hp;exact hp
 rcases h with h|⟨h,_⟩
 ·have h2:jT P fi b=true:=rH h;exact nc (on c b hc hb hp' h2)
 have:=wS.mp h c (by rw[yB];exact mQ.mpr hc);exact this hp'
intro c d hc hd pc pd
by_cases e1:c=b
·by_cases e2:d=b
 ·rw[e1,e2]
 exact(other d hd e2 pd).elim
exact(other c hc e1 pc).elim)
theorem qEN{b:Nat}(on:OneP B P fi):OneP B P (fi.set b 0):=by(
have old:∀c,c<B→jT P (fi.set b 0) c=true→jT P fi c=true:=λc hc hp=>by
 unfold jT at hp ⊢;rw[jD]at hp;split at hp
 ·simp at hp
 exact hp
exact λc d hc hd pc pd=>on c d hc hd (old c hc pc) (old d hd pd))
theorem qGI{V:Mp}:∀{L:List Nat},L.Nodup→(L.map (cntB P V)).sum≤V.length:=by(
induction V with
|nil=>
 intro L _;have:(L.map (cntB P [])).sum=(L.map λ_=>0).sum:=zU λb _=>rfl;rw[this];clear this;induction L with
 |nil=>exact kN _
 |cons x L ih=>rename_i h;rw[mJ,d9];have:=ih (mY.mp h).2;lia
|cons x V ih=>
 intro L nd;have e:(L.map (cntB P (x::V))).sum=(L.map (cntB P V)).sum+(L.map λb=>if(λb:Nat=>decide (x.2 / (P:Int)=(b:Int))) b=true then 1 else 0).sum:=by rw[←qBO];refine zU λb _=>?_;unfold cntB;rw[pN]
 rw[e,qBP (h:=λ_=>1) nd λa _ b _ ha hb=>by have h1:=mV ha;have h2:=mV hb;lia];have:=ih nd;rw[mC];cases L.find? (λb:Nat=>decide (x.2 / (P:Int)=(b:Int)))with
 |none=>show _ +0≤_;lia
 |some b=>show _ +1≤_;lia)
theorem qEO{L:List Nat}{f:Nat→Nat}{k:Nat}(h:∀b∈L,k≤f b):L.length*k≤(L.map f).sum:=by(
induction L with
|nil=>simp
|cons x L ih=>rw[mC,mJ,d9,cP];have:=ih λb hb=>h b (kC _ hb);have:=h x (by simp);lia)
theorem q9F(on:OneP B P fi)(wr:∀b,b<B→∃f:Nat,fi.getD b 0=(f:Int)∧f≤P)(p1:1≤P)(hl:FreeIs B (noB B) cl fi l)(hp:jJ B P (noB B) fi=none):(jQ B P (noB B) fi).length+l.length=B:=by(
have h1:l.length=((List.range B).filter λb=>decide (fi.getD b 0=0)).length:=by rw[hl.pm.length_eq];unfold yM;rw[yB]
have h2:jQ B P (noB B) fi=(List.range B).filter λb=>!decide (fi.getD b 0=0):=by
 unfold jQ;rw[yB];refine pG λb hb=>?_;obtain⟨f,ef,hf⟩:=wr b (mQ.mp hb);have np:=wS.mp hp b (by rw[yB];exact hb);unfold jT at np;rw[ef]at np ⊢;by_cases z:f=0
 ·subst z;rw[hV (show((0:Nat):Int)=0 from rfl),kE (by lia)];rfl
 rw[kE (show ¬(f:Int)=0 by lia)];by_cases y:f<P
 ·exact(np (by rw[hV (show(0:Int)<(f:Int) by lia),hV (show(f:Int)<(P:Int) by lia)];rfl)).elim
 exact hV (by lia)
rw[h1,h2]
have e:∀{L:List Nat} {p:Nat→Bool},(L.filter λb=>!p b).length+(L.filter p).length=L.length:=by
 intro L p;induction L with
 |nil=>rfl
 |cons x L ih=>rw[gA,gA];cases p x<;>simp<;>lia
have:=e (L:=List.range B) (p:=λb=>decide (fi.getD b 0=0))
rw[gD]at this
exact this)
end
section
variable{q:QM}{m:CM}{l:List Nat}
theorem qEP{b f:Nat}{n:Int}(hf:f<q.P):qEL q (q.nx,b*q.P+f,n)=q.put b f n:=by show({ q with nx:=q.nx }:QM).put ((b*q.P+f) / q.P) ((b*q.P+f)%q.P) n=_;rw[yA hf,wQ,pZ,pP hf]
theorem QS.put{b f:Nat}{n:Int}(h:QS q)(hb:b<q.B)(hf:f<q.P)(ef:q.fi.getD b 0=(f:Int))(n0:0≤n)(n1:n≤64):QS (q.put b f n):=by(
have ft:Fits q (q.nx,b*q.P+f,n):=by
 refine⟨?_,?_,gQ _,n0,n1⟩
 ·show(b*q.P+f) / q.P<q.B;rw[yA hf];exact hb
 show q.fi.getD ((b*q.P+f) / q.P) 0=(((b*q.P+f)%q.P:Nat):Int);rw[yA hf,ef,wQ,pZ,pP hf]
have:=ft.qs h
rw[qEP hf]at this
exact this)
theorem uE{b f:Nat}{n:Int}{x:Int×Int}:x∈(q.put b f n).V↔x=(n,((b*q.P+f:Nat):Int))∨(x∈q.V∧x.1≠n):=by show x∈jF q.V n++[(n,((b*q.P+f:Nat):Int))]↔_;rw[gH,jH,kD];exact⟨λh=>h.symm,λh=>h.symm⟩
noncomputable def QM.emptied(q:QM)(b:Nat):QM:={ q with fi:=q.fi.set b 0,bo:=q.bo.set b 0 }
theorem QS.emptied(h:QS q)(b:Nat):QS (q.emptied b):=by(
refine⟨{ h.ok with lf:=by show(q.fi.set b 0).length=q.B;rw[gL];exact h.ok.lf,lo:=by show(q.bo.set b 0).length=q.B;rw[gL];exact h.ok.lo,wr:=λc hc=>?_ },h.lv⟩
show ∃f:Nat,(q.fi.set b 0).getD c 0=(f:Int)∧f≤q.P
rw[jD]
split
·exact⟨0,rfl,mM _⟩
exact h.ok.wr c hc)
noncomputable def tlOf(m:CM)(q:QM)(b:Nat):Tl:=⟨(b:Int),q.lv.getD b 0,m.cl.getD b 0,q.bo.getD b 0⟩
theorem qEQ{f:Tl→Int}{ts:List Tl}(h:ts≠[]):∃T∈ts,pk f ts=T.b∧∀o∈ts,f T≤f o:=by obtain⟨i,hi,hu,hn⟩:=q56 f ts h;exact⟨ts[i],m7 hi,qHC hi hu hn,λo ho=>by have:=q4K.mp hu o ho;lia⟩
theorem qER{ie:Nat}(h:QS q)(on:OneP q.B q.P q.fi)(br:m.br=noB q.B)(hl:FreeIs q.B (noB q.B) m.cl q.fi l)(hr:rm q.B q.P q.fi=(1+ie)*q.P)(hv:q.V.length<(q.B-(1+ie))*q.P):
 optN (ie:Int) m q l≠[]∧∀b∈optN (ie:Int) m q l,(∀c∈optN (ie:Int) m q l,q.lv.getD b 0≤q.lv.getD c 0)→cntB q.P q.V b*(q.B-(1+ie))≤q.V.length:=by(
have p1:=h.ok.p1
have ll:jJ q.B q.P (noB q.B) q.fi=none∧l.length=1+ie:=by
 rcases q11 on h.ok.wr p1 hl with⟨h1,h2⟩|⟨b,e,h1,e1,e2,h2,_⟩
 ·refine⟨h1,?_⟩;rw[hr]at h2;exact(sQ (by lia) h2).symm
 exfalso;rw[hr]at h2;have k:(1+ie)*q.P%q.P=e:=by rw[h2,wQ,pZ,pP e2]
 rw[aW]at k;lia
have fl:=q9F on h.ok.wr p1 hl ll.1
have flC:(jQ q.B q.P (noB q.B) q.fi).length=q.B-(1+ie):=by lia
have hsp:spcN (ie:Int) l q.P q.fi (jJ q.B q.P (noB q.B) q.fi)=(q.P:Int):=by unfold spcN;rw[kI (by lia)]
have ndF:(jQ q.B q.P (noB q.B) q.fi).Nodup:=by unfold jQ;rw[yB];exact g7 _ nZ
have hB:∀b∈jQ q.B q.P (noB q.B) q.fi,b<q.B:=λb hb=>by unfold jQ at hb;rw[yB]at hb;exact mQ.mp (mP.mp hb).1
have memo:∀b,b∈optN (ie:Int) m q l↔b∈jQ q.B q.P (noB q.B) q.fi∧cntB q.P q.V b<q.P:=λb=>by
 unfold optN;rw[br,hsp,mP,mP,kW,kW];constructor
 ·rintro⟨⟨a,_⟩,c⟩
  rw[h.lv b (hB b a)]at c;exact⟨a,by lia⟩
 rintro⟨a,c⟩
 rw[h.lv b (hB b a)];exact⟨⟨a,by lia⟩,by lia⟩
have cs:=qGI (P:=q.P) (V:=q.V) ndF
constructor
·intro z;have:(jQ q.B q.P (noB q.B) q.fi).length*q.P≤((jQ q.B q.P (noB q.B) q.fi).map (cntB q.P q.V)).sum:=qEO λb hb=>by refine rU λy=>?_;have:b∈optN (ie:Int) m q l:=(memo b).mpr ⟨hb,by lia⟩;rw[z]at this;cases this
 rw[flC]at this;lia
intro b hb hmin
obtain⟨bF,bP⟩:=(memo b).mp hb
have:(jQ q.B q.P (noB q.B) q.fi).length*cntB q.P q.V b≤((jQ q.B q.P (noB q.B) q.fi).map (cntB q.P q.V)).sum:=qEO λc hc=>by
 by_cases y:cntB q.P q.V c<q.P
 ·have:=hmin c ((memo c).mpr ⟨hc,y⟩);rw[h.lv b (hB b bF),h.lv c (hB c hc)]at this;lia
 lia
rw[flC,wQ]at this
lia)
end
theorem qJ7{V:Mp}(nd:(V.map (·.1)).Nodup):V.length≤((V.map (·.1)).filter λn=>decide (n≠64)).length+1:=by(
have e:∀{L:List Int},L.Nodup→L.length≤(L.filter λn=>decide (n≠64)).length+1:=by
 intro L;induction L with
 |nil=>intro _;exact mM _
 |cons y L ih=>
  intro nd;obtain⟨n1,n2⟩:=mY.mp nd;rw[gA];by_cases z:y=64
  ·rw[kF (by simp[z])];have:L.filter (λn=>decide (n≠64))=L:=wF.mpr λw hw=>hV λe=>n1 (by rw[z,←e];exact hw);rw[this];exact kN _
  rw[kI (hV z),mC,mC];have:=ih n2;lia
have:=e nd
rw[h9]at this
exact this)
inductive Rl where
|rk (f:Int→Int→Tl→Int)
|win (m:Int)
|fol (row:List Int) (u:Nat)
noncomputable def Rl.Ok:Rl→Prop
| .win m=>1≤m
|_=>True
noncomputable def leL(k:Tl→List Int)(a b:Tl):Bool:=!lx (k b) (k a)
noncomputable def winC(m:Int)(ts:List Tl):List Tl:=((ts.mergeSort (leL λT=>[T.bo,T.b])).take m.toNat).mergeSort (leL Tl.ns)
theorem qGJ{m:Int}{ts:List Tl}:∀o∈winC m ts,o∈ts:=λo ho=>sR.mp (pU (sR.mp ho))
theorem qGK{m:Int}{ts:List Tl}(m1:1≤m)(h:ts≠[]):winC m ts≠[]:=λz=>by(
have:=rK List.length z
unfold winC at this
rw[lW,mZ,lW,rZ]at this
have:=xP.mpr h
omega)
noncomputable def fo(row:List Int)(u:Nat)(ts:List Tl):Int:=match row[u]? with
|some n=>if n∈ts.map Tl.b then n else(ts.map Tl.b).headD 0
|none=>(ts.map Tl.b).headD 0
noncomputable def Rl.ch:Rl→Int→Int→List Tl→Int×Rl
| .rk f,pg,nw,ts=>(pk (f pg nw) ts,.rk f)
| .win m,_,_,ts=>(pk Tl.lv (winC m ts),.win m)
| .fol row u,_,_,ts=>(fo row u ts,.fol row (min (u+1) row.length))
noncomputable def minF(cl:List Int):List Nat→Option Nat
| []=>none
|b::L=>match minF cl L with
 |none=>some b
 |some c=>if cl.getD c 0<cl.getD b 0 then some c else some b
noncomputable def spF(q:QM)(cl:List Int):Nat:=match(List.range q.B).find? (jT q.P q.fi)with
|some b=>b
|none=>(minF cl ((List.range q.B).filter λb=>decide (q.fi.getD b 0=0))).getD 0
section
variable{B P:Nat}{q:QM}{m:CM}{cl fi:List Int}{l:List Nat}
theorem q1Z:∀{L:List Nat},L.Pairwise (· < ·)→(minF cl L=none→L=[])∧∀b,minF cl L=some b→b∈L∧∀c∈L,lx (keyN cl c) (keyN cl b)=false
| [],_=>⟨λ_=>rfl,λb h=>by cases h⟩
|a::L,pw=>by
 obtain⟨p1,p2⟩:=gU.mp pw;obtain⟨h1,h2⟩:=q1Z p2;unfold minF;cases z:minF cl L with
 |none=>
  have:=h1 z;subst this;refine⟨λy=>(by cases y),λb h=>?_⟩;injection h with h
  subst h;exact⟨by simp,λc hc=>by rw[kD.mp hc];exact q2H _⟩
 |some c=>
  obtain⟨g1,g2⟩:=h2 c z;have hac:=p1 c g1;dsimp only;by_cases y:cl.getD c 0<cl.getD a 0
  ·rw[kI y];refine⟨λw=>(by cases w),λb h=>?_⟩;injection h with h
   subst h;refine⟨kC _ g1,λd hd=>?_⟩;rcases kM.mp hd with e|e
   ·subst e;unfold keyN lx;rw[kF (by omega)];exact kE (by omega)
   exact g2 d e
  rw[kF y];refine⟨λw=>(by cases w),λb h=>?_⟩;injection h with h
  subst h;refine⟨by simp,λd hd=>?_⟩;rcases kM.mp hd with e|e
  ·subst e;exact q2H _
  refine qHF (b:=keyN cl c) ?_ (g2 d e);unfold keyN lx;by_cases w:cl.getD c 0=cl.getD a 0
  ·rw[kI w];unfold lx;rw[kF (by omega)];exact kE (by omega)
  rw[kF w];exact kE (by omega)
theorem qCS(hl:FreeIs B (noB B) cl fi l):l.head?=minF cl ((List.range B).filter λb=>decide (fi.getD b 0=0)):=by(
have pm:=hl.pm
unfold yM at pm
rw[yB]at pm
have pw:((List.range B).filter λb=>decide (fi.getD b 0=0)).Pairwise (· < ·):=g7 _ dM
obtain⟨h1,h2⟩:=q1Z (cl:=cl) pw
cases l with
|nil=>rw[xR.mp pm];rfl
|cons a r=>
 cases z:minF cl ((List.range B).filter λb=>decide (fi.getD b 0=0))with
 |none=>rw[h1 z]at pm;have:=pm.length_eq;cases this
 |some b=>
  obtain⟨g1,g2⟩:=h2 b z;have so:=hl.so;rw[mJ]at so;have so:=(gU.mp so).1;have hb:=pm.mem_iff.mpr g1;have e:a=b:=by
   rcases kM.mp hb with e|e
   ·exact e.symm
   exact qGA (q3J _ _ (g2 a (pm.mem_iff.mp (by simp))) (so _ (mE.mpr ⟨b,e,rfl⟩)))
  rw[e];rfl)
theorem qJ8(on:OneP q.B q.P q.fi)(wr:∀b,b<q.B→∃f:Nat,q.fi.getD b 0=(f:Int)∧f≤q.P)(p1:1≤q.P)(hl:FreeIs q.B (noB q.B) cl q.fi l)(h:0<rm q.B q.P q.fi):q0N q.B q.P (noB q.B) q.fi l=some (spF q cl):=by(
obtain⟨b,hb,_⟩:=q78 on wr p1 hl h
rw[hb]
unfold q0N jJ at hb
unfold spF
rw[yB]at hb
cases z:(List.range q.B).find? (jT q.P q.fi)with
|some c=>rw[z]at hb;exact hb.symm
|none=>rw[z]at hb;rw[←qCS hl];have hb:l.head?=some b:=hb;rw[hb];rfl)
noncomputable def lvP(P b:Nat)(V:Mp):List (List Int):=(List.range P).filterMap λf=>(V.find? λy=>decide (y.2=((b*P+f:Nat):Int))).map λy=>[y.2,y.1]
theorem q36{P b:Nat}{V:Mp}(hP:1≤P)(pd:(V.map (·.2)).Nodup){k:List Int}:k∈lvP P b V↔∃y∈V,y.2 / (P:Int)=(b:Int)∧k=[y.2,y.1]:=by(
unfold lvP
rw[wN]
constructor
·rintro⟨f,hf,e⟩
 have hf:=mQ.mp hf;cases z:V.find? λy=>decide (y.2=((b*P+f:Nat):Int))with
 |none=>rw[z]at e;cases e
 |some y=>
  rw[z]at e;have e1:=rT z;have e2:y.2=((b*P+f:Nat):Int):=by simpa using rH z
  refine⟨y,e1,?_,(kU e).symm⟩;rw[e2,←dG,yA hf]
rintro⟨y,hy,hb,rfl⟩
have h0:0≤y.2:=by refine rU λz=>?_;have:=Int.ediv_neg_of_neg_of_pos (a:=y.2) (b:=(P:Int)) (by omega) (by omega);omega
have e:=Int.mul_ediv_add_emod y.2 (P:Int)
have m0:=a9 y.2 (show(P:Int)≠0 by omega)
have m1:=xZ y.2 (show(0:Int)<(P:Int) by omega)
refine⟨(y.2%(P:Int)).toNat,mQ.mpr (by omega),?_⟩
have ey:y.2=((b*P+(y.2%(P:Int)).toNat:Nat):Int):=by rw[bJ,dS,←hb,Int.mul_comm];omega
cases z:V.find? λw=>decide (w.2=((b*P+(y.2%(P:Int)).toNat:Nat):Int))with
|none=>exact absurd (hV ey) (wS.mp z y hy)
|some w=>
 have e1:=rT z;have e2:w.2=((b*P+(y.2%(P:Int)).toNat:Nat):Int):=by simpa using rH z
 have:w=y:=by
  clear z;induction V with
  |nil=>cases e1
  |cons v V ih=>
   rw[mJ]at pd;obtain⟨n1,n2⟩:=mY.mp pd;rcases kM.mp e1 with a|a<;>rcases kM.mp hy with c|c
   ·rw[a,c]
   ·exact(n1 (by rw[←a,e2,←ey];exact mE.mpr ⟨y,c,rfl⟩)).elim
   ·exact(n1 (by rw[←c,ey,←e2];exact mE.mpr ⟨w,a,rfl⟩)).elim
   exact ih n2 c a
 rw[this];rfl)
theorem qAL{P b:Nat}{V:Mp}:(lvP P b V).Pairwise λa c=>lx c a=false∧a≠c:=by(
unfold lvP
refine List.pairwise_filterMap.mpr (dM.imp fun {f g} hfg k hk k' hk'=>?_)
cases z:V.find? λy=>decide (y.2=((b*P+f:Nat):Int))with
|none=>rw[z]at hk;cases hk
|some y=>
 cases z':V.find? λy=>decide (y.2=((b*P+g:Nat):Int))with
 |none=>rw[z']at hk';cases hk'
 |some y'=>
  rw[z]at hk;rw[z']at hk';have e2:y.2=((b*P+f:Nat):Int):=by simpa using rH z
  have e3:y'.2=((b*P+g:Nat):Int):=by simpa using rH z'
  obtain rfl:[y.2,y.1]=k:=kU hk;obtain rfl:[y'.2,y'.1]=k':=kU hk';refine⟨?_,λw=>?_⟩
  ·unfold lx;rw[kF (by omega)];exact kE (by omega)
  injection w with w _
  omega)
theorem qGL{P b:Nat}{V:Mp}{rs:List (List Int)}(hP:1≤P)(pd:(V.map (·.2)).Nodup)(nd:rs.Nodup)(mm:∀k,k∈rs↔∃n p,k=[p,n]∧(n,p)∈V∧p / (P:Int)=(b:Int))(so:rs.Pairwise λa b=>lx b a=false):rs=lvP P b V:=by(
refine qEC (q1Y nd (qAL.imp λz=>z.2) λk=>?_) so (qAL.imp λz=>z.1)
rw[mm,q36 hP pd]
constructor
·rintro⟨n,p,rfl,h1,h2⟩
 exact⟨(n,p),h1,h2,rfl⟩
rintro⟨y,h1,h2,rfl⟩
exact⟨y.1,y.2,rfl,h1,h2⟩)
end
structure XS where
q:QM
cl:List Int
pg:Nat→Option (Int×Int)
lf:Option Int
rc:List (Str×Int×Bool)
structure Tm where
ie:Nat
sp:Int
ev:Bool
noncomputable def mnL:List Int→Option Int
| []=>none
|a::l=>match mnL l with
 |none=>some a
 |some m=>some (if a≤m then a else m)
theorem q7R:∀{l:List Int},l≠[]→∃m,mnL l=some m∧m∈l∧∀a∈l,m≤a
| [],h=>absurd rfl h
| [a],_=>⟨a,rfl,by simp,λb hb=>by rw[kD.mp hb];exact gQ _⟩
|a::b::l,_=>by
 obtain⟨m,e,h1,h2⟩:=q7R (l:=b::l) (by simp);unfold mnL;rw[e];by_cases z:a≤m
 ·refine⟨a,by dsimp only;rw[kI z],by simp,λc hc=>?_⟩;rcases kM.mp hc with e|hc
  ·rw[e];exact gQ _
  exact sD z (h2 c hc)
 refine⟨m,by dsimp only;rw[kF z],kC _ h1,λc hc=>?_⟩;rcases kM.mp hc with e|hc
 ·rw[e];lia
 exact h2 c hc
namespace XS
variable(s:XS)
noncomputable def pb:Nat:=spF s.q s.cl
noncomputable def pf:Nat:=(s.q.fi.getD s.pb 0).toNat
noncomputable def np:Nat:=s.pb*s.q.P+s.pf
noncomputable def put(n v:Int):XS:=⟨s.q.put s.pb s.pf n,s.cl,λi=>if i=s.np then some (s.q.nx*128+n,v)else s.pg i,s.lf.map (· - 1),s.rc++[(Str.ofString "put",(s.np:Int),true)]⟩
noncomputable def wip(b:Nat):XS:=⟨s.q.emptied b,s.cl.set b (s.cl.getD b 0+1),λi=>if i / s.q.P=b then none else s.pg i,s.lf.map (· - 1),s.rc++[(Str.ofString "wipe",(b:Int),true)]⟩
noncomputable def rmX:Nat:=rm s.q.B s.q.P s.q.fi
noncomputable def hl:List Int:=((s.q.V.map (·.1)).filter λn=>decide (n≠64)).mergeSort λa b=>decide (a≤b)
noncomputable def bits(ns:List Int):Int:=((orB (ns.map Int.toNat) 0:Nat):Int)
noncomputable def val(p n:Int):Int:=if n=64 then bits s.hl else((s.pg p.toNat).getD (0,0)).2
noncomputable def mvs:List (List Int)→XS→XS×Option (List (List Int))
| [],s=>(s,some [])
|k::r,s=>if s.lf=some 0 then(s,none)else
 match mvs r (s.put (k.getD 1 0) (s.val (k.getD 0 0) (k.getD 1 0)))with
 |(s',none)=>(s',none)
 |(s',some ms)=>(s',some ([k.getD 1 0,k.getD 0 0,(s.np:Int)]::ms))
noncomputable def spc(k:Tm):Int:=if(1+k.ie)*s.q.P≤s.rmX then(s.q.P:Int)else(s.rmX:Int)-(k.ie*s.q.P:Nat)
noncomputable def ful(k:Tm):List Nat:=(List.range s.q.B).filter λb=>decide (s.q.fi.getD b 0=(s.q.P:Int))&&decide (s.q.lv.getD b 0≤s.spc k)
noncomputable def ded(k:Tm):List Nat:=(s.ful k).filter λb=>decide (s.q.lv.getD b 0<(s.q.P:Int))
noncomputable def lst:Int:=(mnL s.cl).getD 0
noncomputable def clb(k:Tm)(L:List Nat):List Nat:=L.filter λb=>decide (s.cl.getD b 0<s.lst+k.sp)
noncomputable def opt(k:Tm):List Nat:=if k.ev then s.clb k (s.ded k)else s.ded k
noncomputable def tl(b:Nat):Tl:=⟨(b:Int),s.q.lv.getD b 0,s.cl.getD b 0,s.q.bo.getD b 0⟩
noncomputable def ots(k:Tm):List Tl:=(s.opt k).map s.tl
noncomputable def chg(k:Tm):Option Nat:=minF s.cl (s.clb k (s.ful k))
noncomputable def rd(k:Tm):Bool:=decide ((1+k.ie)*s.q.P<s.rmX)
noncomputable def tk(k:Tm)(g:Rl):Option (Str×Nat×Rl):=if s.opt k=[]then(if k.ev then(s.chg k).map λb=>("even",b,g)else none)
 else some ("rule",(g.ch (s.q.P:Int) s.q.nx (s.ots k)).1.toNat,(g.ch (s.q.P:Int) s.q.nx (s.ots k)).2)
end XS
inductive Rf where
|dark|room
structure Pa where
why:Str
ts:List Tl
b:Nat
mv:List (List Int)
structure Sx where
s:XS
g:Rl
ps:List Pa
namespace Sx
noncomputable def room(k:Tm)(X:Sx):Sx×Except Rf Pa:=match X.s.tk k X.g with
|none=>(X,.error .room)
|some (y,b,g)=>match XS.mvs (lvP X.s.q.P b X.s.q.V) X.s with
 |(s,none)=>(⟨s,g,X.ps⟩,.error .dark)
 |(s,some ms)=>if s.lf=some 0 then(⟨s,g,X.ps⟩,.error .dark)else(⟨s.wip b,g,X.ps++[⟨y,X.s.ots k,b,ms⟩]⟩,.ok ⟨y,X.s.ots k,b,ms⟩)
noncomputable def rooms(k:Tm):Nat→Sx→Option (Sx×Except Rf Unit)
|0,X=>if X.s.rd k then some (X,.ok ())else none
|i+1,X=>if X.s.rd k then some (X,.ok ())else match X.room k with
 |(Y,.error e)=>some (Y,.error e)
 |(Y,.ok _)=>rooms k i Y
noncomputable def ask(k:Tm)(i:Nat)(X:Sx)(n v:Int):Option (Sx×Except Rf Nat):=match X.rooms k i with
|none=>none
|some (Y,.error e)=>some (Y,.error e)
|some (Y,.ok _)=>if Y.s.lf=some 0 then some (Y,.error .dark)else some (⟨Y.s.put n v,Y.g,Y.ps⟩,.ok Y.s.np)
end Sx
structure WX(k:Tm)(s:XS):Prop where
qs:QS s.q
on:OneP s.q.B s.q.P s.q.fi
lc:s.cl.length=s.q.B
cr:∀b f:Nat,b<s.q.B→s.q.fi.getD b 0≤(f:Int)→f<s.q.P→s.pg (b*s.q.P+f)=none
vl:∀y∈s.q.V,∃b f:Nat,∃v:Int×Int,b<s.q.B∧f<s.q.P∧y.2=((b*s.q.P+f:Nat):Int)∧(f:Int)<s.q.fi.getD b 0∧s.pg (b*s.q.P+f)=some v
pd:(s.q.V.map (·.2)).Nodup
c0:∀b,0≤s.cl.getD b 0∧s.cl.getD b 0≤(s.rc.length:Int)
bo:∀b,0≤s.q.bo.getD b 0∧s.q.bo.getD b 0<s.q.nx
nx:1≤s.q.nx
sl:k.ie*s.q.P≤s.rmX
l6:s.q.V.length<60
l0:∀i,s.lf=some i→0≤i
theorem q7S{P b f c g:Nat}(hf:f<P)(hg:g<P)(e:b*P+f=c*P+g):b=c∧f=g:=by(
have h1:=yA (b:=b) hf
have h2:=yA (b:=c) hg
rw[e,h2]at h1
subst h1
exact⟨rfl,by lia⟩)
theorem q37{V:Mp}{n:Int}(nd:(V.map (·.1)).Nodup):(jF V n).length≤V.length∧∀p,(n,p)∈V→(jF V n).length+1=V.length:=by(
refine⟨mH _ _,λp h=>?_⟩
induction V with
|nil=>exact absurd h (by simp)
|cons y V ih=>
 rw[mJ]at nd;obtain⟨n1,n2⟩:=mY.mp nd;unfold jF;rw[gA];rcases kM.mp h with e|h
 ·subst e;rw[kF (by simp),mC];have:V.filter (λq=>decide (q.1≠n))=V:=wF.mpr λz hz=>hV λe=>n1 (mE.mpr ⟨z,hz,e⟩);rw[this]
 have ne:y.1≠n:=λe=>n1 (mE.mpr ⟨_,h,e.symm⟩);rw[kI (hV ne),mC,mC];have:=ih n2 h;unfold jF at this;lia)
section
variable{k:Tm}{s:XS}
theorem WX.spot(h:WX k s)(hr:0<s.rmX):s.pb<s.q.B∧s.pf<s.q.P∧s.q.fi.getD s.pb 0=(s.pf:Int)∧((jJ s.q.B s.q.P (noB s.q.B) s.q.fi=some s.pb)∨(jJ s.q.B s.q.P (noB s.q.B) s.q.fi=none∧s.q.fi.getD s.pb 0=0))∧∀l,FreeIs s.q.B (noB s.q.B) s.cl s.q.fi l→q0N s.q.B s.q.P (noB s.q.B) s.q.fi l=some s.pb:=by(
have p1:=h.qs.ok.p1
have sp:∀l,FreeIs s.q.B (noB s.q.B) s.cl s.q.fi l→q0N s.q.B s.q.P (noB s.q.B) s.q.fi l=some s.pb:=λl hl=>qJ8 h.on h.qs.ok.wr p1 hl hr
obtain⟨l,hl⟩:=FreeIs.ex s.q.B (noB s.q.B) s.cl s.q.fi
have hsp:=sp l hl
obtain⟨b,hb,hc⟩:=q78 h.on h.qs.ok.wr p1 hl hr
rw[hsp]at hb
obtain rfl:=kU hb
obtain⟨hB,_,f0,f1⟩:=q9D hl p1 hsp
have:(s.pf:Int)=s.q.fi.getD s.pb 0:=by unfold XS.pf;lia
exact⟨hB,by lia,this.symm,hc,sp⟩)
theorem qAM{b f:Nat}{n:Int}{q:QM}(lf:q.fi.length=q.B)(hb:b<q.B)(ef:q.fi.getD b 0=(f:Int))(c:Nat):(q.put b f n).fi.getD c 0=if b=c then(f:Int)+1 else q.fi.getD c 0:=by(
show(q.fi.set b (q.fi.getD b 0+1)).getD c 0=_
rw[ef,jD,lf]
by_cases e:b=c
·rw[kI ⟨e,hb⟩,kI e]
rw[kF (λz=>e z.1),kF e])
theorem WX.put(h:WX k s){n v:Int}(hr:k.ie*s.q.P<s.rmX)(n0:0≤n)(n1:n≤64)(hl:(∃p,(n,p)∈s.q.V)∨s.q.V.length<59)(dk:s.lf≠some 0):WX k (s.put n v)∧(s.put n v).rmX+1=s.rmX:=by(
obtain⟨hb,hf,ef,sp,_⟩:=h.spot (by lia)
have okq:=h.qs.ok
have gfi:∀c,(s.put n v).q.fi.getD c 0=if s.pb=c then(s.pf:Int)+1 else s.q.fi.getD c 0:=qAM okq.lf hb ef
have rm1:(s.put n v).rmX+1=s.rmX:=qJ6 hb okq.lf ef hf
refine⟨⟨h.qs.put hb hf ef n0 n1,qGH h.on hb okq.lf sp,h.lc,λc g hc hg hgP=>?_,λy hy=>?_,?_,λc=>?_,λc=>?_,?_,?_,?_,λi e=>?_⟩,rm1⟩
·have hgP:g<s.q.P:=hgP;rw[gfi]at hg;show(if c*s.q.P+g=s.np then some (s.q.nx*128+n,v)else s.pg (c*s.q.P+g))=none;by_cases e:s.pb=c
 ·subst e;rw[kI rfl]at hg;rw[kF (by unfold XS.np;lia)];exact h.cr _ g hc (by lia) hgP
 rw[kF e]at hg;rw[kF (λ(z:c*s.q.P+g=s.np)=>e (q7S hgP hf z).1.symm)];exact h.cr c g hc hg hgP
·rcases uE.mp hy with e|⟨hy,hne⟩
 ·rw[e];refine⟨s.pb,s.pf,_,hb,hf,rfl,?_,kI rfl⟩;rw[gfi,kI rfl];lia
 obtain⟨c,g,w,a1,a2,a3,a4,a5⟩:=h.vl y hy;refine⟨c,g,w,a1,a2,a3,?_,?_⟩
 ·rw[gfi];by_cases e:s.pb=c
  ·subst e;rw[kI rfl];lia
  rw[kF e];exact a4
 show(if c*s.q.P+g=s.np then some (s.q.nx*128+n,v)else s.pg (c*s.q.P+g))=some w;rw[kF (λ(z:c*s.q.P+g=s.np)=>?_)]
 ·exact a5
 obtain⟨e1,e2⟩:=q7S a2 hf z;rw[e1,ef]at a4;lia
·show((jF s.q.V n++[(n,((s.pb*s.q.P+s.pf:Nat):Int))]).map (·.2)).Nodup;rw[mW];refine cG.mpr ⟨?_,by simp,λa ha c hc=>?_⟩
 ·exact lY (List.Sublist.map _ xN) h.pd
 obtain⟨y,hy,rfl⟩:=mE.mp ha;have hc:c=((s.pb*s.q.P+s.pf:Nat):Int):=by simpa using hc
 rw[hc];intro z;obtain⟨c',g,w,a1,a2,a3,a4,a5⟩:=h.vl y (jH.mp hy).1;rw[a3]at z;obtain⟨e1,e2⟩:=q7S a2 hf (by exact Int.ofNat.inj z);rw[e1,ef]at a4;lia
·show 0≤s.cl.getD c 0∧s.cl.getD c 0≤((s.rc++[_]).length:Int);have:=h.c0 c;rw[kZ,gF];lia
·show 0≤(if s.q.fi.getD s.pb 0=0 then s.q.bo.set s.pb s.q.nx else s.q.bo).getD c 0∧(if s.q.fi.getD s.pb 0=0 then s.q.bo.set s.pb s.q.nx else s.q.bo).getD c 0<s.q.nx+1;have:=h.bo c;have:=h.nx;split
 ·rw[jD];split<;>lia
 lia
·show 1≤s.q.nx+1;have:=h.nx;lia
·show k.ie*s.q.P≤(s.put n v).rmX;lia
·show(jF s.q.V n++[_]).length<60;rw[kZ,gF];obtain⟨d1,d2⟩:=q37 (V:=s.q.V) (n:=n) okq.nd;have:=h.l6;rcases hl with⟨p,hp⟩|hl
 ·have:=d2 p hp;lia
 lia
have e:s.lf.map (· - 1)=some i:=e
cases z:s.lf with
|none=>rw[z]at e;cases e
|some j=>rw[z]at e;have e:j-1=i:=kU e;have:=h.l0 j z;have:j≠0:=λy=>dk (by rw[z,y]);lia)
theorem WX.wip(h:WX k s){b:Nat}(hb:b<s.q.B)(ef:s.q.fi.getD b 0=(s.q.P:Int))(nl:∀y∈s.q.V,¬y.2 / (s.q.P:Int)=(b:Int))(dk:s.lf≠some 0):WX k (s.wip b)∧(s.wip b).rmX=s.rmX+s.q.P:=by(
have okq:=h.qs.ok
have rm1:(s.wip b).rmX=s.rmX+s.q.P:=qGG hb okq.lf ef
have gfi:∀c,(s.wip b).q.fi.getD c 0=if b=c then 0 else s.q.fi.getD c 0:=λc=>by
 show(s.q.fi.set b 0).getD c 0=_;rw[jD,okq.lf];by_cases e:b=c
 ·rw[kI ⟨e,hb⟩,kI e]
 rw[kF (λz=>e z.1),kF e]
refine⟨⟨h.qs.emptied b,qEN h.on,?_,λc g hc hg hgP=>?_,λy hy=>?_,h.pd,λc=>?_,λc=>?_,h.nx,?_,h.l6,λi e=>?_⟩,rm1⟩
·show(s.cl.set _ _).length=_;rw[gL];exact h.lc
·show(if(c*s.q.P+g) / s.q.P=b then none else s.pg (c*s.q.P+g))=none;have hgP:g<s.q.P:=hgP;rw[yA hgP];by_cases e:c=b
 ·rw[kI e]
 rw[kF e];rw[gfi,kF (λz=>e z.symm)]at hg;exact h.cr c g hc hg hgP
·obtain⟨c,g,w,a1,a2,a3,a4,a5⟩:=h.vl y hy;have cb:c≠b:=λz=>nl _ hy (by rw[a3,←dG,yA a2,z]);refine⟨c,g,w,a1,a2,a3,?_,?_⟩
 ·rw[gfi,kF (λz=>cb z.symm)];exact a4
 show(if(c*s.q.P+g) / s.q.P=b then none else s.pg (c*s.q.P+g))=_;rw[yA a2,kF cb];exact a5
·show 0≤(s.cl.set b (s.cl.getD b 0+1)).getD c 0∧(s.cl.set b (s.cl.getD b 0+1)).getD c 0≤((s.rc++[_]).length:Int);have h1:=h.c0 c;have h2:=h.c0 b;rw[kZ,gF,jD];split<;>lia
·show 0≤(s.q.bo.set b 0).getD c 0∧(s.q.bo.set b 0).getD c 0<s.q.nx;have h1:=h.bo c;have h2:=h.nx;rw[jD];split<;>lia
·show k.ie*s.q.P≤(s.wip b).rmX;have:=h.sl;lia
have e:s.lf.map (· - 1)=some i:=e
cases z:s.lf with
|none=>rw[z]at e;cases e
|some j=>rw[z]at e;have e:j-1=i:=kU e;have:=h.l0 j z;have:j≠0:=λy=>dk (by rw[z,y]);lia)
end
theorem qES{V:Mp}{n p p':Int}(nd:(V.map (·.1)).Nodup)(h:(n,p)∈V)(h':(n,p')∈V):p=p':=by(
induction V with
|nil=>exact absurd h (by simp)
|cons y V ih=>
 rw[mJ]at nd;obtain⟨n1,n2⟩:=mY.mp nd;rcases kM.mp h with e|h<;>rcases kM.mp h' with e'|h'
 ·rw[←e]at e';injection e' with _ e'
  exact e'.symm
 ·exact(n1 (mE.mpr ⟨_,h',by rw[←e]⟩)).elim
 ·exact(n1 (mE.mpr ⟨_,h,by rw[←e']⟩)).elim
 exact ih n2 h h')
theorem q5I{P b:Nat}{V:Mp}:(lvP P b V).Nodup:=qAL.imp λz=>z.2
theorem q38{q:QM}{b:Nat}(h:QS q)(pd:(q.V.map (·.2)).Nodup)(hb:b<q.B):((lvP q.P b q.V).length:Int)=q.lv.getD b 0:=by(
rw[h.lv b hb]
have nd:=h.ok.nd
have:(lvP q.P b q.V).Perm ((q.V.filter λy=>decide (y.2 / (q.P:Int)=(b:Int))).map λy=>[y.2,y.1]):=q1Y q5I (gZ.mpr (((gZ.mp nd).imp fun {a c} hne z=>hne (by
 injection z with _ z
 injection z with z _)).filter _)) λk=>by
 rw[q36 h.ok.p1 pd,mE];constructor
 ·rintro⟨y,h1,h2,rfl⟩
  exact⟨y,mP.mpr ⟨h1,hV h2⟩,rfl⟩
 rintro⟨y,hy,rfl⟩
 obtain⟨a1,a2⟩:=mP.mp hy;exact⟨y,a1,mV a2,rfl⟩
rw[this.length_eq,h9]
unfold cntB
rw[wW])
structure MvI(k:Tm)(s0:XS)(b:Nat)(rs:List (List Int))(i:Nat)(s:XS)(ms:List (List Int)):Prop where
w:WX k s
e:XS.mvs rs s0=(match XS.mvs (rs.drop i) s with|(s',none)=>(s',none)|(s',some m)=>(s',some (ms++m)))
l:ms.length=i
rc:s.rc.length=s0.rc.length+i
rm:s.rmX+i=s0.rmX
eB:s.q.B=s0.q.B
eP:s.q.P=s0.q.P
ec:s.cl=s0.cl
fb:s.q.fi.getD b 0=(s0.q.P:Int)
fm:∀c,s0.q.fi.getD c 0≤s.q.fi.getD c 0∧(s0.q.fi.getD c 0=(s0.q.P:Int)→s.q.fi.getD c 0=(s0.q.P:Int))
nm:∀n,(∃p,(n,p)∈s.q.V)↔∃p,(n,p)∈s0.q.V
dr:∀kk∈rs.drop i,∃n p,kk=[p,n]∧(n,p)∈s.q.V∧p / (s0.q.P:Int)=(b:Int)
dl:∀y∈s.q.V,y.2 / (s0.q.P:Int)=(b:Int)→[y.2,y.1]∈rs.drop i
lV:s.q.V.length=s0.q.V.length
section
variable{k:Tm}{s0 s:XS}{b i:Nat}{ms:List (List Int)}
theorem MvI.zero(w:WX k s0)(fb:s0.q.fi.getD b 0=(s0.q.P:Int)):MvI k s0 b (lvP s0.q.P b s0.q.V) 0 s0 []:=by(
refine⟨w,?_,rfl,rfl,rfl,rfl,rfl,rfl,fb,λc=>⟨gQ _,λz=>z⟩,λn=>eN,λkk hk=>?_,λy hy hb=>(q36 w.qs.ok.p1 w.pd).mpr ⟨y,hy,hb,rfl⟩,rfl⟩
·rw[bO];cases XS.mvs (lvP s0.q.P b s0.q.V) s0 with
 |mk s' o=>cases o<;>rfl
obtain⟨y,hy,hb,rfl⟩:=(q36 w.qs.ok.p1 w.pd).mp hk
exact⟨y.1,y.2,rfl,hy,hb⟩)
variable{rs:List (List Int)}
theorem MvI.at(h:MvI k s0 b rs i s ms)(hi:i<rs.length):∃n p,rs[i]=[p,n]∧(n,p)∈s.q.V∧0≤n∧n≤64:=by obtain⟨n,p,e1,e2,_⟩:=h.dr rs[i] (by rw[dU hi];exact kX);have:=h.w.qs.ok.nm _ e2;exact⟨n,p,e1,e2,this.1,this.2⟩
theorem MvI.dark(h:MvI k s0 b rs i s ms)(hi:i<rs.length)(dk:s.lf=some 0):XS.mvs rs s0=(s,none):=by rw[h.e,dU hi];unfold XS.mvs;rw[kI dk]
theorem MvI.fin(h:MvI k s0 b rs i s ms)(hi:i=rs.length):XS.mvs rs s0=(s,some ms)∧∀y∈s.q.V,¬y.2 / (s.q.P:Int)=(b:Int):=by(
subst hi
refine⟨?_,λy hy z=>?_⟩
·rw[h.e,aX];show(s,some (ms++[]))=_;rw[dQ]
have:=h.dl y hy (by rw[←h.eP];exact z)
rw[aX]at this
cases this)
theorem MvI.step(h:MvI k s0 b rs i s ms)(nd:rs.Nodup)(hi:i<rs.length)(hr:k.ie*s0.q.P+rs.length≤s0.rmX)(dk:s.lf≠some 0){n p:Int}(er:rs[i]=[p,n]):
 MvI k s0 b rs (i+1) (s.put n (s.val p n)) (ms++[[n,p,(s.np:Int)]]):=by(
have dre:rs.drop i=[p,n]::rs.drop (i+1):=by rw[dU hi,er]
obtain⟨n',p',e0,hnp,hpb⟩:=h.dr [p,n] (by rw[dre];simp)
obtain⟨rfl,rfl⟩:p=p'∧n=n':=by
 injection e0 with e1 e0
 injection e0 with e2 _
 exact⟨e1,e2⟩
have nb:=h.w.qs.ok.nm _ hnp
have rmE:=h.rm
have hP:=h.eP
have slk:k.ie*s.q.P<s.rmX:=by rw[hP];lia
obtain⟨w',rm'⟩:=h.w.put (n:=n) (v:=s.val p n) slk nb.1 nb.2 (.inl ⟨p,hnp⟩) dk
obtain⟨hb,hf,ef,_,_⟩:=h.w.spot (by lia)
have gfi:∀c,(s.put n (s.val p n)).q.fi.getD c 0=if s.pb=c then(s.pf:Int)+1 else s.q.fi.getD c 0:=qAM h.w.qs.ok.lf hb ef
have cb:s.pb≠b:=λz=>by rw[z,h.fb,←hP]at ef;lia
have newp:((s.np:Nat):Int) / (s0.q.P:Int)=(s.pb:Int):=by rw[←hP];unfold XS.np;rw[←dG,yA hf]
refine⟨w',?_,?_,?_,by lia,h.eB,h.eP,h.ec,?_,λc=>?_,λm=>?_,λkq hkq=>?_,λy hy hyb=>?_,?_⟩
·rw[h.e,dre];rw[XS.mvs,kF dk];show(match(match XS.mvs (rs.drop (i+1)) (s.put n (s.val p n))with|(s',none)=>(s',none)|(s',some m)=>(s',some ([n,p,(s.np:Int)]::m)))with|(s',none)=>(s',none)|(s',some m)=>(s',some (ms++m)))=_;cases XS.mvs (rs.drop (i+1)) (s.put n (s.val p n))with
 |mk s' o=>
  cases o with
  |none=>rfl
  |some m=>show(s',some (ms++([n,p,(s.np:Int)]::m)))=(s',some ((ms++[[n,p,(s.np:Int)]])++m));rw[r6];rfl
·rw[kZ,h.l];rfl
·show(s.rc++[_]).length=_;rw[kZ,h.rc];rfl
·rw[gfi,kF cb];exact h.fb
·obtain⟨m1,m2⟩:=h.fm c;rw[gfi];by_cases e:s.pb=c
 ·subst e;rw[kI rfl];refine⟨by lia,λz=>?_⟩;have:=m2 z;rw[ef,←hP]at this;lia
 rw[kF e];exact⟨m1,m2⟩
·rw[←h.nm m];constructor
 ·rintro⟨p1,h1⟩
  rcases uE.mp h1 with e|⟨h1,_⟩
  ·cases e;exact⟨p,hnp⟩
  exact⟨p1,h1⟩
 rintro⟨p1,h1⟩
 by_cases e:m=n
 ·exact⟨_,uE.mpr (.inl (by rw[e]))⟩
 exact⟨p1,uE.mpr (.inr ⟨h1,e⟩)⟩
·have hkq':kq∈rs.drop i:=by rw[dre];exact kC _ hkq
 obtain⟨n',p',rfl,h',hb'⟩:=h.dr kq hkq';refine⟨n',p',rfl,uE.mpr (.inr ⟨h',λe=>?_⟩),hb'⟩;have e:n'=n:=e;subst e;have:=qES h.w.qs.ok.nd h' hnp;subst this;have nn:=nd;rw[←cA i rs,dre]at nn;have:=(cG.mp nn).2.1;exact(mY.mp this).1 hkq
·rcases uE.mp hy with e|⟨hy,hne⟩
 ·rw[e]at hyb;have hyb:((s.np:Nat):Int) / (s0.q.P:Int)=(b:Int):=hyb;rw[newp]at hyb;exact(cb (by lia)).elim
 have:=h.dl y hy hyb;rw[dre]at this;rcases kM.mp this with e|e
 ·injection e with _ e
  injection e with e _
  exact(hne e).elim
 exact e
show(jF s.q.V n++[_]).length=_
rw[kZ,gF,(q37 (V:=s.q.V) (n:=n) h.w.qs.ok.nd).2 p hnp]
exact h.lV)
structure Mvd(k:Tm)(s0:XS)(b:Nat)(s:XS)(n:Nat):Prop where
w:WX k s
rc:s.rc.length=s0.rc.length+n
rm:s.rmX+n=s0.rmX
eB:s.q.B=s0.q.B
eP:s.q.P=s0.q.P
ec:s.cl=s0.cl
fb:s.q.fi.getD b 0=(s0.q.P:Int)
fm:∀c,s0.q.fi.getD c 0≤s.q.fi.getD c 0∧(s0.q.fi.getD c 0=(s0.q.P:Int)→s.q.fi.getD c 0=(s0.q.P:Int))
nm:∀n,(∃p,(n,p)∈s.q.V)↔∃p,(n,p)∈s0.q.V
lV:s.q.V.length=s0.q.V.length
lb:b<s0.q.B→s.q.lv.getD b 0+n=(lvP s0.q.P b s0.q.V).length
theorem MvI.mvd(h:MvI k s0 b (lvP s0.q.P b s0.q.V) i s ms)(hi:i≤(lvP s0.q.P b s0.q.V).length):Mvd k s0 b s i:=by(
refine⟨h.w,h.rc,h.rm,h.eB,h.eP,h.ec,h.fb,h.fm,h.nm,h.lV,λhb=>?_⟩
rw[←q38 h.w.qs h.w.pd (by rw[h.eB];exact hb)]
have:(lvP s.q.P b s.q.V).Perm ((lvP s0.q.P b s0.q.V).drop i):=q1Y q5I (lY (List.drop_sublist _ _) q5I) λk=>by
 rw[q36 h.w.qs.ok.p1 h.w.pd,h.eP];constructor
 ·rintro⟨y,h1,h2,rfl⟩
  exact h.dl y h1 h2
 intro hk;obtain⟨n,p,rfl,h1,h2⟩:=h.dr k hk;exact⟨_,h1,h2,rfl⟩
rw[this.length_eq,rP]
lia)
end
section
variable{k:Tm}{s:XS}{l:List Nat}{m:CM}
theorem qJ9(h:WX k s)(hl:FreeIs s.q.B (noB s.q.B) s.cl s.q.fi l):spcN (k.ie:Int) l s.q.P s.q.fi (jJ s.q.B s.q.P (noB s.q.B) s.q.fi)=s.spc k:=by(
have p1:=h.qs.ok.p1
have sl:=h.sl
unfold spcN XS.spc
unfold XS.rmX at sl ⊢
rcases q11 h.on h.qs.ok.wr p1 hl with⟨h1,h2⟩|⟨b,e,h1,e1,e2,h2,e3⟩
·rw[h2]at sl;rw[h1,h2];by_cases z:1+k.ie≤l.length
 ·rw[kI (by lia),kI (g5 _ z)]
 have le:l.length=k.ie:=by
  have:¬l.length<k.ie:=λy=>by have:=g5 s.q.P (show l.length+1≤k.ie by lia);rw[dA,rD]at this;lia
  lia
 rw[kF (by lia),kF (by rw[le,dA,rD];lia),le];show(0:Int)=_;lia
rw[h2]at sl
rw[h1,h2]
by_cases z:1+k.ie≤l.length
·have:=g5 s.q.P z;rw[kI (by lia),kI (by lia)]
have le:l.length=k.ie:=by
 have:¬l.length<k.ie:=λy=>by have:=g5 s.q.P (show l.length+1≤k.ie by lia);rw[dA,rD]at this;lia
 lia
rw[kF (by lia),kF (by rw[le,dA,rD];lia),le]
show(s.q.P:Int)-s.q.fi.getD b 0=_
lia)
theorem qET(h:WX k s)(hl:FreeIs s.q.B (noB s.q.B) s.cl s.q.fi l):((jQ s.q.B s.q.P (noB s.q.B) s.q.fi).filter λb=>decide (s.q.lv.getD b 0≤spcN (k.ie:Int) l s.q.P s.q.fi (jJ s.q.B s.q.P (noB s.q.B) s.q.fi)))=s.ful k:=by(
unfold jQ XS.ful
rw[yB,qJ9 h hl,List.filter_filter]
refine pG λb _=>?_
rw[Bool.and_comm])
theorem qEU(h:WX k s)(br:m.br=noB s.q.B)(hl:FreeIs s.q.B (noB s.q.B) s.cl s.q.fi l):optN (k.ie:Int) m s.q l=s.ded k:=by unfold optN XS.ded;rw[br,qET h hl]
theorem qHG(e:m.cl=s.cl):tlOf m s.q=s.tl:=by funext b;unfold tlOf XS.tl;rw[e]
theorem qJA(h:WX k s)(hl:FreeIs s.q.B (noB s.q.B) s.cl s.q.fi l):rdy (k.ie:Int) l (jJ s.q.B s.q.P (noB s.q.B) s.q.fi)=s.rd k:=qGE h.on h.qs.ok.wr h.qs.ok.p1 hl
structure Full(k:Tm)(s:XS)(c:Nat):Prop where
b:c<s.q.B
f:s.q.fi.getD c 0=(s.q.P:Int)
l:s.q.lv.getD c 0≤s.spc k
theorem q4M{b:Nat}:b∈s.ful k↔Full k s b:=by unfold XS.ful;rw[mP,mQ,mR,kW,kW];exact⟨λ⟨a,b,c⟩=>⟨a,b,c⟩,λh=>⟨h.b,h.f,h.l⟩⟩
theorem q20{b:Nat}:b∈s.ded k↔Full k s b∧s.q.lv.getD b 0<(s.q.P:Int):=by unfold XS.ded;rw[mP,q4M,kW]
theorem uT{b:Nat}:b∈s.opt k↔(Full k s b∧s.q.lv.getD b 0<(s.q.P:Int))∧(k.ev=true→s.cl.getD b 0<s.lst+k.sp):=by(
unfold XS.opt XS.clb
cases k.ev with
|false=>rw[kF (by decide),q20];exact⟨λh=>⟨h,λz=>by cases z⟩,λh=>h.1⟩
|true=>rw[kI rfl,mP,q20,kW];exact⟨λh=>⟨h.1,λ_=>h.2⟩,λh=>⟨h.1,h.2 rfl⟩⟩)
theorem Full.sp(h:WX k s){b:Nat}(f:Full k s b):k.ie*s.q.P+(lvP s.q.P b s.q.V).length≤s.rmX:=by(
have e:=q38 h.qs h.pd f.b
have l:=f.l
have sl:=h.sl
have lb:=h.qs.lv b f.b
have cn:(lvP s.q.P b s.q.V).length≤s.q.P:=by unfold lvP;refine mF (rA _ _) ?_;rw[gD];exact kN _
unfold XS.spc at l
split at l
·rename_i z;rw[dA,rD]at z;lia
lia)
theorem qGM{L:List Nat}:∀a∈L.map s.tl,∀c∈L.map s.tl,a.b=c.b→a=c:=λa ha c hc e=>by(
obtain⟨x,_,rfl⟩:=mE.mp ha
obtain⟨y,_,rfl⟩:=mE.mp hc
have e:(x:Int)=(y:Int):=e
rw[show x=y by lia])
theorem qEV(h:WX k s){b:Nat}(hb:b<s.q.B):0≤s.q.lv.getD b 0∧s.q.lv.getD b 0≤(s.q.P:Int):=by
 have e:=q38 h.qs h.pd hb;have cn:(lvP s.q.P b s.q.V).length≤s.q.P:=by unfold lvP;refine mF (rA _ _) ?_;rw[gD];exact kN _
 lia
theorem qKN(h:WX k s)(rc:s.rc.length<1000000){b:Nat}(hb:b<s.q.B):(s.tl b).Ok (s.q.P:Int) s.q.nx:=by(
have b2:=h.qs.ok.b2
have c:=h.c0 b
have d:=h.bo b
have e:=qEV h hb
refine⟨?_,?_,e.1,e.2,c.1,?_,d.1,d.2⟩
·show(0:Int)≤(b:Int);lia
·show(b:Int)<16;lia
show s.cl.getD b 0<10 ^ 30
have:(1000000:Int)<10 ^ 30:=by decide
lia)
theorem qJB(h:WX k s):(s.opt k).length≤16:=by(
have b2:=h.qs.ok.b2
have:(s.ded k).length≤16:=by unfold XS.ded XS.ful;refine mF (mH _ _) (mF (mH _ _) ?_);rw[gD];exact b2
unfold XS.opt XS.clb
split
·exact mF (mH _ _) this
exact this)
end
structure Kp(s s':XS):Prop where
eB:s'.q.B=s.q.B
eP:s'.q.P=s.q.P
nm:∀n,(∃p,(n,p)∈s'.q.V)↔∃p,(n,p)∈s.q.V
lV:s'.q.V.length=s.q.V.length
theorem Kp.refl{s:XS}:Kp s s:=⟨rfl,rfl,λ_=>eN,rfl⟩
theorem Kp.trans{a b c:XS}(h:Kp a b)(g:Kp b c):Kp a c:=⟨g.eB.trans h.eB,g.eP.trans h.eP,λn=>(g.nm n).trans (h.nm n),g.lV.trans h.lV⟩
section
variable{k:Tm}{s:XS}{b:Nat}
theorem q7T{P b:Nat}{V:Mp}:(lvP P b V).length≤P:=by(
unfold lvP
refine mF (rA _ _) ?_
rw[gD]
exact kN _)
theorem q4N(R:XS→List (List Int)→Prop)(w:WX k s)(f:Full k s b)(r0:R s [])(rs:∀s' ms n p,WX k s'→Kp s s'→s'.cl=s.cl→s'.q.fi.getD b 0=(s.q.P:Int)→(n,p)∈s'.q.V→p / (s.q.P:Int)=(b:Int)→k.ie*s'.q.P<s'.rmX→s'.lf≠some 0→R s' ms→R (s'.put n (s'.val p n)) (ms++[[n,p,(s'.np:Int)]])):∃s' n ms,Mvd k s b s' n∧ms.length=n∧R s' ms∧((XS.mvs (lvP s.q.P b s.q.V) s=(s',none)∧n<(lvP s.q.P b s.q.V).length∧s'.lf=some 0)∨(XS.mvs (lvP s.q.P b s.q.V) s=(s',some ms)∧n=(lvP s.q.P b s.q.V).length∧∀y∈s'.q.V,¬y.2 / (s'.q.P:Int)=(b:Int))):=by(
have sp:=f.sp w
have key:∀d i,i+d=(lvP s.q.P b s.q.V).length→∀s' ms,MvI k s b (lvP s.q.P b s.q.V) i s' ms→R s' ms→∃s' n ms,Mvd k s b s' n∧ms.length=n∧R s' ms∧((XS.mvs (lvP s.q.P b s.q.V) s=(s',none)∧n<(lvP s.q.P b s.q.V).length∧s'.lf=some 0)∨(XS.mvs (lvP s.q.P b s.q.V) s=(s',some ms)∧n=(lvP s.q.P b s.q.V).length∧∀y∈s'.q.V,¬y.2 / (s'.q.P:Int)=(b:Int))):=by
 intro d;induction d with
 |zero=>intro i hi s' ms mi hR;obtain⟨e,nl⟩:=mi.fin (by lia);exact⟨s',i,ms,mi.mvd (by lia),mi.l,hR,.inr ⟨e,by lia,nl⟩⟩
 |succ d ih=>
  intro i hi s' ms mi hR;have hi':i<(lvP s.q.P b s.q.V).length:=by lia
  by_cases dk:s'.lf=some 0
  ·exact⟨s',i,ms,mi.mvd (by lia),mi.l,hR,.inl ⟨mi.dark hi' dk,hi',dk⟩⟩
  obtain⟨n,p,er,hnp,_⟩:=mi.at hi';have rme:=mi.rm;obtain⟨n',p',e0,_,hpb⟩:=mi.dr [p,n] (by rw[dU hi',er];exact kX);have e1:p=p':=by injection e0
  refine ih (i+1) (by lia) _ _ (mi.step q5I hi' sp dk er) (rs s' ms n p mi.w ⟨mi.eB,mi.eP,mi.nm,mi.lV⟩ mi.ec mi.fb hnp (by rw[e1];exact hpb) (by rw[mi.eP];lia) dk hR)
exact key _ 0 (lJ _) s [] (MvI.zero w f.f) r0)
end
theorem qEW{g:Rl}{pg nw:Int}{ts:List Tl}(ok:g.Ok)(h:ts≠[]):(g.ch pg nw ts).1∈ts.map Tl.b:=by(
cases g with
|rk f=>obtain⟨A,hA,e,_⟩:=qEQ (f:=f pg nw) h;show pk (f pg nw) ts∈_;rw[e];exact mE.mpr ⟨A,hA,rfl⟩
|win m=>obtain⟨A,hA,e,_⟩:=qEQ (f:=Tl.lv) (qGK ok h);show pk Tl.lv (winC m ts)∈_;rw[e];exact mE.mpr ⟨A,qGJ A hA,rfl⟩
|fol row u=>
 have h0:(ts.map Tl.b).headD 0∈ts.map Tl.b:=by
  cases ts with
  |nil=>exact absurd rfl h
  |cons a r=>simp
 show fo row u ts∈_;unfold fo;split
 ·split
  ·assumption
  exact h0
 exact h0)
theorem qKO{g:Rl}{pg nw:Int}{ts:List Tl}(ok:g.Ok):(g.ch pg nw ts).2.Ok:=by(
cases g with
|rk f=>trivial
|win m=>exact ok
|fol row u=>trivial)
section
variable{k:Tm}{s:XS}{g g':Rl}{y:Str}{b:Nat}
theorem q12(ok:g.Ok)(h:s.tk k g=some (y,b,g')):(y=Str.ofString "rule"∧b∈s.opt k∧(b:Int)=(g.ch (s.q.P:Int) s.q.nx (s.ots k)).1∧g'=(g.ch (s.q.P:Int) s.q.nx (s.ots k)).2)∨(y=Str.ofString "even"∧k.ev=true∧s.opt k=[]∧g'=g∧s.chg k=some b∧b∈s.clb k (s.ful k)∧∀c∈s.clb k (s.ful k),s.cl.getD b 0≤s.cl.getD c 0):=by(
unfold XS.tk at h
split at h
·rename_i e0;split at h
 ·rename_i ev;cases z:s.chg k with
  |none=>rw[z]at h;cases h
  |some c=>
   rw[z]at h;cases h;have pw:(s.clb k (s.ful k)).Pairwise (· < ·):=by unfold XS.clb XS.ful;exact g7 _ (g7 _ dM)
   obtain⟨m1,m2⟩:=(q1Z (cl:=s.cl) pw).2 b z;refine .inr ⟨rfl,ev,e0,rfl,rfl,m1,λc hc=>?_⟩;have:=m2 c hc;unfold keyN lx at this;by_cases q:s.cl.getD c 0=s.cl.getD b 0
   ·lia
   rw[kF q]at this;have:=dZ this;lia
 cases h
rename_i ne
have ne':s.ots k≠[]:=λz=>ne (p9.mp z)
have cm:=qEW (pg:=(s.q.P:Int)) (nw:=s.q.nx) ok ne'
injection h with h
injection h with h1 h
injection h with h h2
obtain⟨c,hc,e⟩:=mE.mp cm
obtain⟨c',hc',rfl⟩:=mE.mp hc
have e:(c':Int)=(g.ch (s.q.P:Int) s.q.nx (s.ots k)).1:=e
rw[←e,mI]at h
subst h
exact .inl ⟨h1.symm,hc',e,h2.symm⟩)
theorem q21(ok:g.Ok)(h:s.tk k g=some (y,b,g')):Full k s b:=by(
rcases q12 ok h with⟨_,h1,_⟩|⟨_,_,_,_,_,h1,_⟩
·exact(uT.mp h1).1.1
unfold XS.clb at h1
exact q4M.mp (mP.mp h1).1)
theorem qEX(ok:g.Ok)(h:s.tk k g=some (y,b,g')):g'.Ok:=by(
rcases q12 ok h with⟨_,_,_,e⟩|⟨_,_,_,e,_⟩
·rw[e];exact qKO ok
rw[e];exact ok)
end
section
variable{k:Tm}{X Y:Sx}
inductive RoomR(k:Tm)(X:Sx):Sx×Except Rf Pa→Prop
|no:X.s.tk k X.g=none→RoomR k X (X,.error .room)
|dark {y b g' s' n}:X.s.tk k X.g=some (y,b,g')→Mvd k X.s b s' n→n≤(lvP X.s.q.P b X.s.q.V).length→s'.lf=some 0→RoomR k X (⟨s',g',X.ps⟩,.error .dark)
|ok {y b g' s' ms}:X.s.tk k X.g=some (y,b,g')→XS.mvs (lvP X.s.q.P b X.s.q.V) X.s=(s',some ms)→Mvd k X.s b s' (lvP X.s.q.P b X.s.q.V).length→ms.length=(lvP X.s.q.P b X.s.q.V).length→s'.lf≠some 0→WX k (s'.wip b)→(s'.wip b).rmX=s'.rmX+X.s.q.P→RoomR k X (⟨s'.wip b,g',X.ps++[⟨y,X.s.ots k,b,ms⟩]⟩,.ok ⟨y,X.s.ots k,b,ms⟩)
theorem q9G(w:WX k X.s)(ok:X.g.Ok):RoomR k X (X.room k):=by(
unfold Sx.room
cases htk:X.s.tk k X.g with
|none=>exact .no htk
|some ybg=>
 obtain⟨y,b,g'⟩:=ybg;have f:=q21 ok htk;obtain⟨s',n,ms,md,lm,_,h|h⟩:=q4N (λ_ _=>True) w f trivial (λ_ _ _ _ _ _ _ _ _ _ _ _ _=>trivial)
 ·obtain⟨e,hn,dk⟩:=h;dsimp only;rw[e];exact .dark htk md (by lia) dk
 obtain⟨e,hn,nl⟩:=h;dsimp only;rw[e];dsimp only;subst hn;by_cases dk:s'.lf=some 0
 ·rw[kI dk];exact .dark htk md (kN _) dk
 rw[kF dk];obtain⟨w',rm'⟩:=md.w.wip (b:=b) (by rw[md.eB];exact f.b) (by rw[md.eP];exact md.fb) nl dk;exact .ok htk e md lm dk w' (by rw[rm',md.eP]))
theorem qEY{p:Pa}(w:WX k X.s)(ok:X.g.Ok)(h:X.room k=(Y,.ok p)):Y.s.rc.length≤X.s.rc.length+17∧Y.ps.length=X.ps.length+1:=by(
have r:=q9G w ok
rw[h]at r
have l16:∀b,(lvP X.s.q.P b X.s.q.V).length≤X.s.q.P:=λb=>q7T
have p2:=w.qs.ok.p2
cases r with
|@ok y b g' s' ms htk e md lm dk w' rm'=>have:=l16 b;refine⟨?_,kZ⟩;show(_++[_]).length≤_;rw[kZ,md.rc,gF];lia)
theorem Mvd.kp{s s':XS}{b n:Nat}(h:Mvd k s b s' n):Kp s s':=⟨h.eB,h.eP,h.nm,h.lV⟩
theorem q4O{r:Except Rf Pa}(w:WX k X.s)(ok:X.g.Ok)(h:X.room k=(Y,r)):WX k Y.s∧Y.g.Ok∧Kp X.s Y.s∧Y.s.rc.length≤X.s.rc.length+17∧Y.ps.length≤X.ps.length+1:=by(
have rr:=q9G w ok
rw[h]at rr
have l16:∀b,(lvP X.s.q.P b X.s.q.V).length≤X.s.q.P:=λb=>q7T
have p2:=w.qs.ok.p2
cases rr with
|no htk=>exact⟨w,ok,Kp.refl,by lia,by lia⟩
|@dark y b g' s' n htk md hn dk=>have:=l16 b;refine⟨md.w,qEX ok htk,md.kp,?_,g4 _⟩;show s'.rc.length≤_;rw[md.rc];lia
|@ok y b g' s' ms htk e md lm dk w' rm'=>
 have:=l16 b;refine⟨w',qEX ok htk,md.kp.trans ⟨rfl,rfl,λ_=>eN,rfl⟩,?_,?_⟩
 ·show(_++[_]).length≤_;rw[kZ,md.rc,gF];lia
 show(_++[_]).length≤_;rw[kZ];exact kN _)
theorem q22:∀{i:Nat} {X Y:Sx} {r:Except Rf Unit},WX k X.s→X.g.Ok→X.rooms k i=some (Y,r)→WX k Y.s∧Y.g.Ok∧Kp X.s Y.s∧Y.s.rc.length≤X.s.rc.length+17*i∧Y.ps.length≤X.ps.length+i∧(r=.ok ()→Y.s.rd k=true)
|0,X,Y,r,w,ok,h=>by
 unfold Sx.rooms at h;split at h
 ·rename_i z;cases h;exact⟨w,ok,Kp.refl,kN _,kN _,λ_=>z⟩
 cases h
|i+1,X,Y,r,w,ok,h=>by
 unfold Sx.rooms at h;split at h
 ·rename_i z;cases h;exact⟨w,ok,Kp.refl,nO _ _,nO _ _,λ_=>z⟩
 cases e:X.room k with
 |mk W o=>
  rw[e]at h;obtain⟨a1,a2,a3,a4,a5⟩:=q4O w ok e;cases o with
  |error x=>cases h;exact⟨a1,a2,a3,by lia,by lia,λz=>by cases z⟩
  |ok p=>obtain⟨b1,b2,b3,b4,b5,b6⟩:=q22 a1 a2 h;exact⟨b1,b2,a3.trans b3,by lia,by lia,b6⟩
end
noncomputable def Hv(s:XS)(n v:Int):Prop:=∃p mk,(n,p)∈s.q.V∧s.pg p.toNat=some (mk,v)
noncomputable def putR(m:List Int):Str×Int×Bool:=(Str.ofString "put",m.getD 2 0,true)
section
variable{k:Tm}{s s':XS}{n m v u:Int}{b:Nat}
theorem Hv.put(w:WX k s)(hr:0<s.rmX)(ne:m≠n)(h:Hv s m u):Hv (s.put n v) m u:=by(
obtain⟨p,mk,hp,e⟩:=h
obtain⟨c,g,x,a1,a2,a3,a4,a5⟩:=w.vl _ hp
obtain⟨hb,hf,ef,_⟩:=w.spot hr
have a3:p=_:=a3
refine⟨p,mk,uE.mpr (.inr ⟨hp,ne⟩),?_⟩
show(if p.toNat=s.np then _ else s.pg p.toNat)=_
rw[kF]
·exact e
rw[a3,mI]
intro z
obtain⟨e1,e2⟩:=q7S a2 hf z
rw[e1,ef]at a4
lia)
theorem Hv.new:Hv (s.put n v) n v:=⟨(s.np:Int),_,uE.mpr (.inl rfl),by
 show(if((s.np:Nat):Int).toNat=s.np then _ else _)=_;rw[mI,kI rfl]⟩
theorem Hv.wip(w:WX k s)(nl:∀y∈s.q.V,¬y.2 / (s.q.P:Int)=(b:Int))(h:Hv s m u):Hv (s.wip b) m u:=by(
obtain⟨p,mk,hp,e⟩:=h
obtain⟨c,g,x,a1,a2,a3,a4,a5⟩:=w.vl _ hp
have a3:p=_:=a3
refine⟨p,mk,hp,?_⟩
show(if p.toNat / s.q.P=b then none else s.pg p.toNat)=_
rw[kF]
·exact e
have:=nl _ hp
rw[a3,mI,yA a2]
rw[show((m,p).2:Int)=p from rfl,a3,←dG,yA a2]at this
intro z
exact this (by rw[z]))
theorem Hv.val(w:WX k s){p:Int}(hp:(n,p)∈s.q.V)(n6:n≠64)(h:Hv s n u):s.val p n=u:=by(
obtain⟨p',mk,hp',e⟩:=h
rw[qES w.qs.ok.nd hp hp']
unfold XS.val
rw[kF n6,e]
rfl)
theorem q7U(w:WX k s){c:Nat}(hc:c<s.q.B):s.lst≤s.cl.getD c 0:=by(
have hc':c<s.cl.length:=by rw[w.lc];exact hc
obtain⟨m,e,h1,h2⟩:=q7R (l:=s.cl) (λz=>by rw[z]at hc';cases hc')
unfold XS.lst
rw[e,kJ,hX hc']
exact h2 _ (m7 _))
theorem qEZ(w:WX k s)(hb:0<s.q.B):∃c,c<s.q.B∧s.cl.getD c 0=s.lst:=by(
have hb':0<s.cl.length:=by rw[w.lc];exact hb
obtain⟨m,e,h1,h2⟩:=q7R (l:=s.cl) (λz=>by rw[z]at hb';cases hb')
obtain⟨c,hc,ec⟩:=wD h1
refine⟨c,by rw[←w.lc];exact hc,?_⟩
unfold XS.lst
rw[e,kJ,hX hc,ec])
theorem qF0(w:WX k s)(hr:0<s.rmX)(z:s.q.fi.getD s.pb 0=0){c:Nat}(hc:c<s.q.B)(fc:s.q.fi.getD c 0=0):s.cl.getD s.pb 0≤s.cl.getD c 0:=by(
have e:s.pb=spF s.q s.cl:=rfl
unfold spF at e
cases q:(List.range s.q.B).find? (jT s.q.P s.q.fi)with
|some d=>rw[q]at e;have h2:=rH q;unfold jT at h2;rw[mR,kW]at h2;rw[show s.pb=d from e]at z;lia
|none=>
 rw[q]at e;have pw:((List.range s.q.B).filter λb=>decide (s.q.fi.getD b 0=0)).Pairwise (· < ·):=g7 _ dM;have hm:c∈(List.range s.q.B).filter λb=>decide (s.q.fi.getD b 0=0):=mP.mpr ⟨mQ.mpr hc,hV fc⟩;obtain⟨h1,h2⟩:=q1Z (cl:=s.cl) pw;cases y:minF s.cl ((List.range s.q.B).filter λb=>decide (s.q.fi.getD b 0=0))with
 |none=>rw[h1 y]at hm;cases hm
 |some d=>
  rw[y]at e;have e:s.pb=d:=e;have:=(h2 d y).2 c hm;rw[e];unfold keyN lx at this;by_cases x:s.cl.getD c 0=s.cl.getD d 0
  ·lia
  rw[kF x]at this;have:=dZ this;lia)
structure Ix(k:Tm)(s:XS):Prop where
w:WX k s
sh:s.q.V.length<(s.q.B-(1+k.ie))*s.q.P
s1:1≤k.sp
gp:k.ev=true→∀b c,b<s.q.B→c<s.q.B→s.cl.getD b 0≤s.cl.getD c 0+k.sp
e2:k.ev=true→∀d c,d<s.q.B→c<s.q.B→s.q.fi.getD d 0≠0→s.q.fi.getD c 0=0→s.cl.getD d 0<s.cl.getD c 0+k.sp
noncomputable def Wt(k:Tm)(s:XS):Prop:=s.rmX<(1+k.ie)*s.q.P→∃b,b<s.q.B∧s.q.fi.getD b 0=(s.q.P:Int)∧s.q.lv.getD b 0<(s.q.P:Int)∧s.q.lv.getD b 0+((1+k.ie)*s.q.P:Nat)≤(s.rmX:Int)+(s.q.P:Int)∧(k.ev=true→s.cl.getD b 0<s.lst+k.sp)
theorem Ix.put(x:Ix k s)(hr:k.ie*s.q.P<s.rmX)(w':WX k (s.put n v))(hs:(s.put n v).q.V.length<(s.q.B-(1+k.ie))*s.q.P):Ix k (s.put n v):=by(
obtain⟨hb,hf,ef,_⟩:=x.w.spot (by lia)
have s1:=x.s1
have gfi:∀c,(s.put n v).q.fi.getD c 0=if s.pb=c then(s.pf:Int)+1 else s.q.fi.getD c 0:=qAM x.w.qs.ok.lf hb ef
refine⟨w',hs,x.s1,x.gp,λev d c hd hc fd fc=>?_⟩
rw[gfi]at fd fc
have hc:c<s.q.B:=hc
have hd:d<s.q.B:=hd
show s.cl.getD d 0<s.cl.getD c 0+k.sp
by_cases c1:s.pb=c
·rw[kI c1]at fc;lia
rw[kF c1]at fc
by_cases d1:s.pb=d
·subst d1;by_cases z:s.q.fi.getD s.pb 0=0
 ·have:=qF0 x.w (by lia) z hc fc;lia
 exact x.e2 ev _ _ hd hc z fc
rw[kF d1]at fd
exact x.e2 ev _ _ hd hc fd fc)
theorem Ix.wip(x:Ix k s)(hb:b<s.q.B)(w':WX k (s.wip b))(cb:k.ev=true→s.cl.getD b 0<s.lst+k.sp):Ix k (s.wip b):=by(
have lc:=x.w.lc
have gcl:∀c,(s.wip b).cl.getD c 0=if b=c then s.cl.getD b 0+1 else s.cl.getD c 0:=λc=>by
 show(s.cl.set b (s.cl.getD b 0+1)).getD c 0=_;rw[jD,lc];by_cases e:b=c
 ·rw[kI ⟨e,hb⟩,kI e]
 rw[kF (λz=>e z.1),kF e]
have gfi:∀c,(s.wip b).q.fi.getD c 0=if b=c then 0 else s.q.fi.getD c 0:=λc=>by
 show(s.q.fi.set b 0).getD c 0=_;rw[jD,x.w.qs.ok.lf];by_cases e:b=c
 ·rw[kI ⟨e,hb⟩,kI e]
 rw[kF (λz=>e z.1),kF e]
refine⟨w',x.sh,x.s1,λev c d hc hd=>?_,λev d c hd hc fd fc=>?_⟩
·have hc:c<s.q.B:=hc;have hd:d<s.q.B:=hd;rw[gcl,gcl];have:=cb ev;have:=x.gp ev c d hc hd;have:=x.gp ev c b hc hb;have:=q7U x.w hd;have:=x.s1;split<;>split<;>lia
have hc:c<s.q.B:=hc
have hd:d<s.q.B:=hd
rw[gfi]at fd fc
rw[gcl,gcl]
by_cases d1:b=d
·rw[kI d1]at fd;exact absurd rfl fd
rw[kF d1]at fd ⊢
by_cases c1:b=c
·rw[kI c1];have:=x.gp ev d b hd hb;lia
rw[kF c1]at fc ⊢
exact x.e2 ev d c hd hc fd fc)
end
section
variable{k:Tm}{X Y:Sx}
structure RmX(k:Tm)(X Y:Sx):Prop where
x:Ix k Y.s
wt:Wt k Y.s
ok:Y.g.Ok
kp:Kp X.s Y.s
hv:∀m u,m≠64→Hv X.s m u→Hv Y.s m u
theorem q7V{r:Except Rf Pa}(x:Ix k X.s)(wt:Wt k X.s)(ok:X.g.Ok)(h:X.room k=(Y,r)):RmX k X Y∧(match r with
 | .ok p=>Y.ps=X.ps++[p]∧Y.s.rc=X.s.rc++p.mv.map putR++[(Str.ofString "wipe",(p.b:Int),true)]∧(1+k.ie)*X.s.q.P≤Y.s.rmX∧Y.s.rmX+p.mv.length=X.s.rmX+X.s.q.P∧(∃g',X.s.tk k X.g=some (p.why,p.b,g'))∧p.mv.length=(lvP X.s.q.P p.b X.s.q.V).length∧p.ts=X.s.ots k∧(∃s',XS.mvs (lvP X.s.q.P p.b X.s.q.V) X.s=(s',some p.mv)∧Y.s=s'.wip p.b∧Mvd k X.s p.b s' p.mv.length)
 | .error .dark=>Y.s.lf=some 0∧Y.ps=X.ps∧∃ms,Y.s.rc=X.s.rc++List.map putR ms
 | .error .room=>Y=X∧X.s.tk k X.g=none):=by(
unfold Sx.room at h
cases htk:X.s.tk k X.g with
|none=>rw[htk]at h;cases h;exact⟨⟨x,wt,ok,Kp.refl,λ_ _ _ z=>z⟩,rfl,rfl⟩
|some ybg=>
 obtain⟨y,b,g'⟩:=ybg;rw[htk]at h;dsimp only at h;have f:=q21 ok htk;have g'ok:=qEX ok htk;have spc:=f.l;have lvb:=q38 x.w.qs x.w.pd f.b;have sl:=x.w.sl;have clb:k.ev=true→X.s.cl.getD b 0<X.s.lst+k.sp:=λev=>by
  rcases q12 ok htk with⟨_,h1,_⟩|⟨_,_,_,_,_,h1,_⟩
  ·exact(uT.mp h1).2 ev
  unfold XS.clb at h1;exact mV (mP.mp h1).2
 obtain⟨s',n,ms,md,lm,⟨xi,hv,rcE⟩,hh⟩:=q4N (λs' ms=>Ix k s'∧(∀m u,m≠64→Hv X.s m u→Hv s' m u)∧s'.rc=X.s.rc++ms.map putR) x.w f ⟨x,λ_ _ _ z=>z,by simp⟩ (λs' ms n p w' kp ec fb hnp hpb hr dk ⟨xi,hv,rcE⟩=>by
  have nb:=w'.qs.ok.nm _ hnp;obtain⟨w2,_⟩:=w'.put (v:=s'.val p n) hr nb.1 nb.2 (.inl ⟨p,hnp⟩) dk;refine⟨xi.put hr w2 ?_,λm u m6 hm=>?_,?_⟩
  ·show(jF s'.q.V n++[_]).length< _;rw[kZ,gF,(q37 (V:=s'.q.V) (n:=n) w'.qs.ok.nd).2 p hnp];exact xi.sh
  ·have:=hv m u m6 hm;by_cases e:m=n
   ·subst e;have z:=Hv.new (s:=s') (n:=m) (v:=s'.val p m);rw[this.val w' hnp m6]at z ⊢;exact z
   exact this.put w' (by lia) e
  show s'.rc++[_]=_;rw[rcE,mW,r6];rfl)
 have kp:Kp X.s s':=⟨md.eB,md.eP,md.nm,md.lV⟩;have rme:=md.rm;have lbe:=md.lb f.b;have ec:=md.ec;have wt':Wt k s':=λhlt=>by
  rw[md.eP]at hlt;refine⟨b,by rw[md.eB];exact f.b,by rw[md.eP];exact md.fb,?_,?_,λev=>?_⟩
  ·rw[md.eP];by_cases n0:n=0
   ·have:X.s.rmX<(1+k.ie)*X.s.q.P:=by lia
    have lt:X.s.q.lv.getD b 0<(X.s.q.P:Int):=by
     rcases q12 ok htk with⟨_,h1,_⟩|⟨_,_,e0,_⟩
     ·exact(uT.mp h1).1.2
     exfalso;obtain⟨c,c1,c2,c3,c4,c5⟩:=wt this;have:c∈X.s.opt k:=uT.mpr ⟨⟨⟨c1,c2,by unfold XS.spc;rw[kF (by lia)];rw[dA,rD]at c4;lia⟩,c3⟩,c5⟩;rw[e0]at this;cases this
    lia
   have:=q7T (P:=X.s.q.P) (b:=b) (V:=X.s.q.V);lia
  ·rw[md.eP];unfold XS.spc at spc;rw[dA,rD]at *;split at spc<;>lia
  have e1:s'.lst=X.s.lst:=by unfold XS.lst;rw[ec]
  rw[ec,e1];exact clb ev
 rcases hh with⟨e,hn,dk⟩|⟨e,hn,nl⟩
 ·rw[e]at h;cases h;exact⟨⟨xi,wt',g'ok,kp,hv⟩,dk,rfl,ms,rcE⟩
 rw[e]at h;dsimp only at h;by_cases dk:s'.lf=some 0
 ·rw[kI dk]at h;cases h;exact⟨⟨xi,wt',g'ok,kp,hv⟩,dk,rfl,ms,rcE⟩
 rw[kF dk]at h;cases h;obtain⟨w2,rm2⟩:=md.w.wip (b:=b) (by rw[md.eB];exact f.b) (by rw[md.eP];exact md.fb) nl dk;have e1:s'.lst=X.s.lst:=by unfold XS.lst;rw[ec]
 have ge:(1+k.ie)*X.s.q.P≤(s'.wip b).rmX:=by rw[rm2,md.eP];unfold XS.spc at spc;rw[dA,rD]at *;split at spc<;>lia
 refine⟨⟨xi.wip (by rw[md.eB];exact f.b) w2 (λev=>by rw[ec,e1];exact clb ev),λhlt=>?_,g'ok,kp.trans ⟨rfl,rfl,λ_=>eN,rfl⟩,λm u m6 hm=>(hv m u m6 hm).wip md.w nl⟩,rfl,?_,ge,?_,⟨g',rfl⟩,by rw[lm,hn],rfl,s',e,rfl,by rw[lm];exact md⟩
 ·have hlt:(s'.wip b).rmX<(1+k.ie)*s'.q.P:=hlt;rw[md.eP]at hlt;lia
 ·show s'.rc++[_]=_;rw[rcE]
 show(s'.wip b).rmX+ms.length=_;rw[rm2,md.eP,lm];lia)
end
section
variable{k:Tm}{s:XS}
theorem q3O(w:WX k s)(hr:s.rmX=(1+k.ie)*s.q.P):(∀b,b<s.q.B→s.q.fi.getD b 0=0∨s.q.fi.getD b 0=(s.q.P:Int))∧((List.range s.q.B).filter λb=>decide (s.q.fi.getD b 0=(s.q.P:Int))).length=s.q.B-(1+k.ie):=by(
have p1:=w.qs.ok.p1
obtain⟨l,hl⟩:=FreeIs.ex s.q.B (noB s.q.B) s.cl s.q.fi
have ll:jJ s.q.B s.q.P (noB s.q.B) s.q.fi=none∧l.length=1+k.ie:=by
 rcases q11 w.on w.qs.ok.wr p1 hl with⟨h1,h2⟩|⟨b,e,h1,e1,e2,h2,_⟩
 ·refine⟨h1,?_⟩;unfold XS.rmX at hr;rw[hr]at h2;exact(sQ (by lia) h2).symm
 exfalso;unfold XS.rmX at hr;rw[hr]at h2;have k:(1+k.ie)*s.q.P%s.q.P=e:=by rw[h2,wQ,pZ,pP e2]
 rw[aW]at k;lia
have fl:=q9F w.on w.qs.ok.wr p1 hl ll.1
unfold jQ at fl
rw[yB]at fl
refine⟨λb hb=>?_,by lia⟩
have np:=ll.1
unfold jJ at np
rw[yB]at np
have:=wS.mp np b (mQ.mpr hb)
obtain⟨f,ef,hf⟩:=w.qs.ok.wr b hb
unfold jT at this
rw[mR,kW,kW]at this
lia)
theorem vC(x:Ix k s)(hr:s.rmX=(1+k.ie)*s.q.P):s.ded k≠[]:=by(
obtain⟨l,hl⟩:=FreeIs.ex s.q.B (noB s.q.B) s.cl s.q.fi
have m:CM:=⟨0,0,0,[],[],s.cl,[],noB s.q.B,none,[]⟩
have:=(qER (m:=⟨0,0,0,[],[],s.cl,[],noB s.q.B,none,[]⟩) (ie:=k.ie) x.w.qs x.w.on rfl hl hr x.sh).1
rw[qEU x.w rfl hl]at this
exact this)
theorem qF1(wt:Wt k s)(hr:s.rmX<(1+k.ie)*s.q.P):s.opt k≠[]:=λz=>by(
obtain⟨b,b1,b2,b3,b4,b5⟩:=wt hr
have:b∈s.opt k:=uT.mpr ⟨⟨⟨b1,b2,by unfold XS.spc;rw[kF (by lia)];rw[dA,rD]at b4;lia⟩,b3⟩,b5⟩
rw[z]at this
cases this)
theorem q79(x:Ix k s)(hr:s.rmX=(1+k.ie)*s.q.P)(ev:k.ev=true)(e0:s.opt k=[]):(∀c,c<s.q.B→s.q.fi.getD c 0=0→s.lst<s.cl.getD c 0)∧∃b,s.chg k=some b∧b<s.q.B∧s.q.fi.getD b 0=(s.q.P:Int)∧s.cl.getD b 0=s.lst∧s.q.lv.getD b 0=(s.q.P:Int):=by(
have s1:=x.s1
have p1:=x.w.qs.ok.p1
have nop:∀d,Full k s d→s.q.lv.getD d 0<(s.q.P:Int)→s.lst+k.sp≤s.cl.getD d 0:=λd fd ld=>by refine Int.not_lt.mp λz=>?_;have:d∈s.opt k:=uT.mpr ⟨⟨fd,ld⟩,λ_=>z⟩;rw[e0]at this;cases this
have fr:∀c,c<s.q.B→s.q.fi.getD c 0=0→s.lst<s.cl.getD c 0:=λc hc fc=>by obtain⟨d,hd⟩:=rV _ (vC x hr);obtain⟨fd,ld⟩:=q20.mp hd;have h1:=nop d fd ld;have h2:=x.e2 ev d c fd.b hc (by rw[fd.f];lia) fc;lia
refine⟨fr,?_⟩
obtain⟨rp,_⟩:=q3O x.w hr
have hB:0<s.q.B:=by obtain⟨d,hd⟩:=rV _ (vC x hr);have:=(q20.mp hd).1.b;lia
obtain⟨c,hc,ec⟩:=qEZ x.w hB
have fc:s.q.fi.getD c 0=(s.q.P:Int):=by
 rcases rp c hc with z|z
 ·have:=fr c hc z;lia
 exact z
have spc:s.spc k=(s.q.P:Int):=by unfold XS.spc;rw[kI (by lia)]
have hc':c∈s.clb k (s.ful k):=by unfold XS.clb;exact mP.mpr ⟨q4M.mpr ⟨hc,fc,by rw[spc];exact(qEV x.w hc).2⟩,hV (by lia)⟩
have pw:(s.clb k (s.ful k)).Pairwise (· < ·):=by unfold XS.clb XS.ful;exact g7 _ (g7 _ dM)
obtain⟨h1,h2⟩:=q1Z (cl:=s.cl) pw
cases z:s.chg k with
|none=>rw[h1 z]at hc';cases hc'
|some b=>
 obtain⟨m1,m2⟩:=h2 b z;have m1':=m1;unfold XS.clb at m1';obtain⟨fb,_⟩:=mP.mp m1';have fb:=q4M.mp fb;have:=m2 c hc';have le:s.cl.getD b 0≤s.cl.getD c 0:=by
  unfold keyN lx at this;by_cases q:s.cl.getD c 0=s.cl.getD b 0
  ·lia
  rw[kF q]at this;have:=dZ this;lia
 have cb:s.cl.getD b 0=s.lst:=by have:=q7U x.w fb.b;lia
 refine⟨b,rfl,fb.b,fb.f,cb,?_⟩;have:=qEV x.w fb.b;have:¬s.q.lv.getD b 0<(s.q.P:Int):=λy=>by have:=nop b fb y;lia
 lia)
noncomputable def nlc(s:XS):Nat:=((List.range s.q.B).filter λb=>decide (s.q.fi.getD b 0=(s.q.P:Int))&&decide (s.cl.getD b 0=s.lst)).length
noncomputable def need(k:Tm)(s:XS):Nat:=if s.rd k=true then 0 else if s.rmX<(1+k.ie)*s.q.P then 1+(if k.ev=true then s.q.B-(1+k.ie)else 1)else if s.opt k≠[]then 1 else nlc s+1
theorem qAN{α:Type}{p p':α→Bool}:∀{l:List α},(∀x∈l,p' x=true→p x=true)→(∃x∈l,p x=true∧p' x=false)→(l.filter p').length<(l.filter p).length
| [],_,h=>by obtain⟨x,hx,_⟩:=h;cases hx
|a::l,h,g=>by
 have le:(l.filter p').length≤(l.filter p).length:=by
  have:(l.filter p').length≤(l.filter p).length:=by rw[←wW,←wW];exact pJ λx hx=>h x (kC _ hx)
  exact this
 rw[gA,gA];obtain⟨x,hx,h1,h2⟩:=g;rcases kM.mp hx with e|hx
 ·subst e;rw[kI h1,kF (by rw[h2];decide),mC];lia
 have ih:=qAN (λy hy=>h y (kC _ hy)) ⟨x,hx,h1,h2⟩;by_cases z:p' a=true
 ·rw[kI z,kI (h a (by simp) z),mC,mC];lia
 rw[kF z];split
 ·rw[mC];lia
 exact ih
theorem qJC(x:Ix k s)(hr:s.rmX=(1+k.ie)*s.q.P)(ev:k.ev=true)(e0:s.opt k=[]):nlc s+1≤s.q.B-(1+k.ie):=by(
obtain⟨_,fl⟩:=q3O x.w hr
rw[←fl]
obtain⟨d,hd⟩:=rV _ (vC x hr)
obtain⟨fd,ld⟩:=q20.mp hd
refine qAN (λy _ hy=>?_) ⟨d,mQ.mpr fd.b,hV fd.f,?_⟩
·rw[mR]at hy;exact hy.1
have:¬s.cl.getD d 0<s.lst+k.sp:=λz=>by have:d∈s.opt k:=uT.mpr ⟨⟨fd,ld⟩,λ_=>z⟩;rw[e0]at this;cases this
have s1:=x.s1
rw[kE (show ¬s.cl.getD d 0=s.lst by lia),bR])
theorem qBQ(x:Ix k s)(hr:(1+k.ie)*s.q.P≤s.rmX):need k s≤if k.ev=true then s.q.B-(1+k.ie)else 1:=by(
have b1:1≤s.q.B-(1+k.ie):=by have:=x.sh;refine Nat.pos_of_ne_zero λz=>?_;rw[z,Nat.zero_mul]at this;cases this
unfold need
split
·exact mM _
rename_i nr
have e:s.rmX=(1+k.ie)*s.q.P:=by unfold XS.rd at nr;have:=dZ (aJ.mpr nr);lia
rw[kF (by lia)]
split
·split<;>lia
rename_i z
have z:s.opt k=[]:=rU z
cases ev:k.ev with
|true=>rw[kI rfl];exact qJC x e ev z
|false=>exfalso;have:=vC x e;unfold XS.opt at z;rw[ev]at z;exact this z)
end
section
variable{k:Tm}{X Y:Sx}
theorem qGN(x:Ix k X.s)(wt:Wt k X.s)(nr:X.s.rd k=false):∃ybg,X.s.tk k X.g=some ybg:=by(
unfold XS.tk
by_cases z:X.s.opt k=[]
·rw[kI z];have nr':=dZ nr;have e:X.s.rmX=(1+k.ie)*X.s.q.P:=by have:¬X.s.rmX<(1+k.ie)*X.s.q.P:=λy=>qF1 wt y z;lia
 cases ev:k.ev with
 |true=>obtain⟨_,b,hb,_⟩:=q79 x e ev z;rw[kI rfl,hb];exact⟨_,rfl⟩
 |false=>exfalso;have:=vC x e;unfold XS.opt at z;rw[ev]at z;exact this z
rw[kF z]
exact⟨_,rfl⟩)
theorem qGO{p:Pa}(x:Ix k X.s)(wt:Wt k X.s)(ok:X.g.Ok)(nr:X.s.rd k=false)(h:X.room k=(Y,.ok p)):need k Y.s<need k X.s:=by(
obtain⟨rx,hp,_,ge,rmE,⟨g',htk⟩,lm,_,s',emv,eY,md⟩:=q7V x wt ok h
have eP:=rx.kp.eP
have eB:=rx.kp.eB
have fb:=q21 ok htk
have lvb:=q38 x.w.qs x.w.pd fb.b
have nr':=dZ nr
have ge':(1+k.ie)*Y.s.q.P≤Y.s.rmX:=by rw[eP];exact ge
have nl:=qBQ rx.x ge'
rw[eB]at nl
have p1:=x.w.qs.ok.p1
have eX:need k X.s=if X.s.rmX<(1+k.ie)*X.s.q.P then 1+(if k.ev=true then X.s.q.B-(1+k.ie)else 1)else if X.s.opt k≠[]then 1 else nlc X.s+1:=by rw[need,nr,kF (by decide)]
rw[eX]
by_cases lk:X.s.rmX<(1+k.ie)*X.s.q.P
·rw[kI lk];lia
rw[kF lk]
have eR:X.s.rmX=(1+k.ie)*X.s.q.P:=by lia
rcases q12 ok htk with⟨_,h1,_⟩|⟨_,ev,e0,_,hc,h1,_⟩
·have ne:X.s.opt k≠[]:=λz=>by rw[z]at h1;cases h1
 rw[kI ne];have lt:=(uT.mp h1).1.2;have:Y.s.rd k=true:=hV (by rw[eP];lia);rw[need,kI this];decide
rw[kF (λz=>z e0)]
obtain⟨fr,b,hb,b1,b2,b3,b4⟩:=q79 x eR ev e0
rw[hc]at hb
obtain rfl:=kU hb
have rY:Y.s.rmX=(1+k.ie)*Y.s.q.P:=by rw[eP];lia
have nrY:¬Y.s.rd k=true:=λz=>by have:=mV z;lia
rw[need,kF nrY,kF (by lia)]
have bin:p.b∈(List.range X.s.q.B).filter λb=>decide (X.s.q.fi.getD b 0=(X.s.q.P:Int))&&decide (X.s.cl.getD b 0=X.s.lst):=mP.mpr ⟨mQ.mpr b1,by rw[hV b2,hV b3];rfl⟩
have n1:1≤nlc X.s:=pH bin
split
·lia
rename_i z
have z:Y.s.opt k=[]:=rU z
have gcl:∀c,Y.s.cl.getD c 0=if p.b=c then X.s.cl.getD p.b 0+1 else X.s.cl.getD c 0:=λc=>by
 rw[eY];show(s'.cl.set p.b (s'.cl.getD p.b 0+1)).getD c 0=_;rw[md.ec,jD,x.w.lc];by_cases e:p.b=c
 ·rw[kI ⟨e,b1⟩,kI e]
 rw[kF (λz=>e z.1),kF e]
have gfi:∀c,Y.s.q.fi.getD c 0=if p.b=c then 0 else s'.q.fi.getD c 0:=λc=>by
 rw[eY];show(s'.q.fi.set p.b 0).getD c 0=_;rw[jD,md.w.qs.ok.lf,md.eB];by_cases e:p.b=c
 ·rw[kI ⟨e,b1⟩,kI e]
 rw[kF (λz=>e z.1),kF e]
have lle:X.s.lst≤Y.s.lst:=by obtain⟨c,hc,ec⟩:=qEZ rx.x.w (by rw[eB];lia);rw[eB]at hc;rw[←ec,gcl];have:=q7U x.w hc;have:=q7U x.w b1;split<;>lia
have leq:Y.s.lst=X.s.lst:=by
 refine Int.le_antisymm (Int.not_lt.mp λy=>?_) lle;obtain⟨d,hd⟩:=rV _ (vC rx.x rY);obtain⟨fd,ld⟩:=q20.mp hd;have nc:¬Y.s.cl.getD d 0<Y.s.lst+k.sp:=λy=>by have:d∈Y.s.opt k:=uT.mpr ⟨⟨fd,ld⟩,λ_=>y⟩;rw[z]at this;cases this
 have ne:p.b≠d:=λy=>by have:=fd.f;rw[gfi,kI y,eP]at this;lia
 rw[gcl,kF ne]at nc;have hd':=fd.b;rw[eB]at hd';have:=x.gp ev d p.b hd' b1;lia
refine Nat.succ_lt_succ ?_
unfold nlc
rw[eB,eP,leq]
refine qAN (λc hc y=>?_) ⟨p.b,mQ.mpr b1,by rw[hV b2,hV b3];rfl,?_⟩
·have hc:=mQ.mp hc;rw[mR,kW,kW]at y ⊢;obtain⟨y1,y2⟩:=y;have ne:p.b≠c:=λw=>by rw[gfi,kI w]at y1;lia
 rw[gcl,kF ne]at y2;refine⟨?_,y2⟩;rcases(q3O x.w eR).1 c hc with q|q
 ·have:=fr c hc q;lia
 exact q
rw[gfi,kI rfl,kE (by lia)]
rfl)
noncomputable def dOf(p:Pa):List (Str×Int×Bool):=p.mv.map putR++[(Str.ofString "wipe",(p.b:Int),true)]
structure Rms(k:Tm)(X Y:Sx)(qs:List Pa):Prop extends RmX k X Y where
ps:Y.ps=X.ps++qs
ln:qs.length≤need k X.s
theorem q7A:∀{i:Nat} {X:Sx},Ix k X.s→Wt k X.s→X.g.Ok→need k X.s≤i→∃Y ps ms,Rms k X Y ps∧Y.s.rc=X.s.rc++ps.flatMap dOf++ms.map putR∧((X.rooms k i=some (Y,.ok ())∧Y.s.rd k=true∧ms=[])∨(X.rooms k i=some (Y,.error .dark)∧Y.s.lf=some 0))
|i,X,x,wt,ok,hi=>by
 cases rd:X.s.rd k with
 |true=>
  refine⟨X,[],[],⟨⟨x,wt,ok,Kp.refl,λ_ _ _ z=>z⟩,by simp,mM _⟩,by simp,.inl ⟨?_,rd,rfl⟩⟩;cases i with
  |zero=>unfold Sx.rooms;rw[rd,kI rfl]
  |succ i=>unfold Sx.rooms;rw[rd,kI rfl]
 |false=>
  cases i with
  |zero=>
   exfalso;unfold need at hi;rw[rd,kF (by decide)]at hi;split at hi
   ·lia
   split at hi<;>lia
  |succ i=>
   cases e:X.room k with
   |mk W o=>
    obtain⟨rx,hh⟩:=q7V x wt ok e;cases o with
    |error q=>
     cases q with
     |room=>obtain⟨_,h⟩:=hh;obtain⟨ybg,h'⟩:=qGN x wt rd;rw[h]at h';cases h'
     |dark=>obtain⟨dk,eps,ms,erc⟩:=hh;refine⟨W,[],ms,⟨rx,by rw[eps];simp,mM _⟩,by rw[erc];simp,.inr ⟨?_,dk⟩⟩;unfold Sx.rooms;rw[rd,kF (by decide),e]
    |ok p=>
     have lt:=qGO x wt ok rd e;obtain⟨eps,erc,_⟩:=hh;obtain⟨Y,ps,ms,ry,hrc,hr⟩:=q7A (i:=i) rx.x rx.wt rx.ok (by lia);refine⟨Y,p::ps,ms,⟨⟨ry.x,ry.wt,ry.ok,rx.kp.trans ry.kp,λm u m6 z=>ry.hv m u m6 (rx.hv m u m6 z)⟩,?_,?_⟩,?_,?_⟩
     ·rw[ry.ps,eps,r6];rfl
     ·have:=ry.ln;rw[mC];lia
     ·rw[hrc,erc,List.flatMap_cons];simp[dOf]
     have er:X.rooms k (i+1)=W.rooms k i:=by rw[Sx.rooms,rd,kF (by decide),e]
     rw[er];exact hr
end
structure AskO(k:Tm)(i:Nat)(X:Sx)(n v:Int)(Y:Sx)(qs:List Pa)(p:Nat):Prop where
rl:Y.s.rc.length≤X.s.rc.length+17*i+1
x:Ix k Y.s
ge:(1+k.ie)*Y.s.q.P≤Y.s.rmX
ok:Y.g.Ok
ps:Y.ps=X.ps++qs
ln:qs.length≤need k X.s
eB:Y.s.q.B=X.s.q.B
eP:Y.s.q.P=X.s.q.P
nm:∀m,(∃p,(m,p)∈Y.s.q.V)↔m=n∨∃p,(m,p)∈X.s.q.V
hv:∀m u,m≠64→m≠n→Hv X.s m u→Hv Y.s m u
hn:Hv Y.s n v
rc:Y.s.rc=X.s.rc++qs.flatMap dOf++[(Str.ofString "put",(p:Int),true)]
structure AskD(k:Tm)(i:Nat)(X:Sx)(Y:Sx)(qs:List Pa):Prop where
rl:Y.s.rc.length≤X.s.rc.length+17*i+1
x:Ix k Y.s
wt:Wt k Y.s
ok:Y.g.Ok
ps:Y.ps=X.ps++qs
ln:qs.length≤need k X.s
kp:Kp X.s Y.s
hv:∀m u,m≠64→Hv X.s m u→Hv Y.s m u
lf:Y.s.lf=some 0
rc:∃ms,Y.s.rc=X.s.rc++qs.flatMap dOf++List.map putR ms
section
variable{k:Tm}{X:Sx}{n v:Int}
theorem qGP{i:Nat}(x:Ix k X.s)(wt:Wt k X.s)(ok:X.g.Ok)(hi:need k X.s≤i)(n0:0≤n)(n1:n≤64)(hl:(∃p,(n,p)∈X.s.q.V)∨(X.s.q.V.length<59∧X.s.q.V.length+1<(X.s.q.B-(1+k.ie))*X.s.q.P)):(∃Y qs p,X.ask k i n v=some (Y,.ok p)∧AskO k i X n v Y qs p)∨∃Y qs,X.ask k i n v=some (Y,.error .dark)∧AskD k i X Y qs:=by(
obtain⟨Y,ps,ms,r,hrc,⟨hr,rd,e0⟩|⟨hr,dk⟩⟩:=q7A x wt ok hi
·have rl:=(q22 x.w ok hr).2.2.2.1;have rd:=mV rd;unfold Sx.ask;rw[hr];dsimp only;by_cases dk:Y.s.lf=some 0
 ·rw[kI dk];exact .inr ⟨Y,ps,rfl,by lia,r.x,r.wt,r.ok,r.ps,r.ln,r.kp,r.hv,dk,ms,hrc⟩
 rw[kF dk];have rd':=rd;rw[dA,rD]at rd';have hl':(∃p,(n,p)∈Y.s.q.V)∨Y.s.q.V.length<59:=by rw[r.kp.lV];exact hl.imp (λz=>(r.kp.nm n).mpr z) λz=>z.1
 obtain⟨w',rm'⟩:=r.x.w.put (n:=n) (v:=v) (by lia) n0 n1 hl' dk;refine .inl ⟨_,ps,_,rfl,?_,r.x.put (by lia) w' ?_,?_,r.ok,r.ps,r.ln,r.kp.eB,r.kp.eP,λm=>?_,λm u m6 mn z=>(r.hv m u m6 z).put r.x.w (by lia) mn,Hv.new,?_⟩
 ·show(Y.s.rc++[_]).length≤_;rw[kZ,gF];lia
 ·show(jF Y.s.q.V n++[_]).length< _;rw[kZ,gF];obtain⟨d1,d2⟩:=q37 (V:=Y.s.q.V) (n:=n) r.x.w.qs.ok.nd;have lV:=r.kp.lV;rcases hl with z|⟨_,z⟩
  ·obtain⟨p,hp⟩:=(r.kp.nm n).mpr z;rw[d2 p hp];exact r.x.sh
  rw[r.kp.eB,r.kp.eP];lia
 ·show(1+k.ie)*Y.s.q.P≤(Y.s.put n v).rmX;lia
 ·rw[←r.kp.nm m];constructor
  ·rintro⟨p,h⟩
   rcases uE.mp h with e|⟨h,_⟩
   ·cases e;exact .inl rfl
   exact .inr ⟨p,h⟩
  intro z;by_cases e:m=n
  ·exact⟨_,uE.mpr (.inl (by rw[e]))⟩
  rcases z with z|⟨p,h⟩
  ·exact absurd z e
  exact⟨p,uE.mpr (.inr ⟨h,e⟩)⟩
 show Y.s.rc++[_]=_;rw[hrc,e0];simp
have rl:=(q22 x.w ok hr).2.2.2.1
unfold Sx.ask
rw[hr]
exact .inr ⟨Y,ps,rfl,by lia,r.x,r.wt,r.ok,r.ps,r.ln,r.kp,r.hv,dk,ms,hrc⟩)
end
section
variable{k:Tm}{s:XS}
theorem Wt.of(h:(1+k.ie)*s.q.P≤s.rmX):Wt k s:=λz=>by lia
end
noncomputable def newX(B P:Nat):XS:=⟨⟨P,B,1,[],List.replicate B 0,List.replicate B 0,List.replicate B 0⟩,List.replicate B 0,λ_=>none,none,[]⟩
theorem qGQ{k:Tm}{B P:Nat}(b2:B≤16)(p1:1≤P)(p2:P≤16)(hk:1+k.ie<B)(s1:1≤k.sp):Ix k (newX B P)∧(1+k.ie)*P≤(newX B P).rmX:=by(
have r0:∀n i:Nat,(List.replicate n (0:Int)).getD i 0=0:=λn i=>rep8
have rmE:(newX B P).rmX=B*P:=by
 unfold XS.rmX newX rm clr1;dsimp only;have:∀n,((List.range n).map λb=>P-((List.replicate B (0:Int)).getD b 0).toNat).sum=n*P:=λn=>by
  induction n with
  |zero=>simp
  |succ n ih=>rw[lN,mW,bK,ih,cP,x9,r0];simp
 exact this B
have le:(1+k.ie)*P≤B*P:=g5 _ (by lia)
have ok:(newX B P).q.Ok:=by refine⟨p1,p2,b2,gM,gM,gM,by simp[newX],λq hq=>absurd (show q∈([]:Mp)from hq) (by simp),λq hq=>absurd (show q∈([]:Mp)from hq) (by simp),λb hb=>⟨0,r0 _ _,mM _⟩⟩
refine⟨⟨⟨⟨ok,λb hb=>?_⟩,λb c _ _ h1 _=>?_,gM,λ_ _ _ _ _=>rfl,λy hy=>absurd (show y∈([]:Mp)from hy) (by simp),by simp[newX],λb=>?_,λb=>?_,gQ _,?_,?_,λi e=>by cases e⟩,?_,s1,λ_ b c _ _=>?_,λ_ d c _ _ h _=>absurd (r0 _ _) h⟩,?_⟩
·rw[show(newX B P).q.lv=List.replicate B 0 from rfl,r0];rfl
·unfold jT at h1;rw[show(newX B P).q.fi=List.replicate B 0 from rfl,r0]at h1;simp at h1
·rw[show(newX B P).cl=List.replicate B 0 from rfl,r0];exact⟨gQ _,gQ _⟩
·rw[show(newX B P).q.bo=List.replicate B 0 from rfl,r0];exact⟨gQ _,by show(0:Int)<1;decide⟩
·rw[rmE];show k.ie*P≤B*P;exact g5 _ (by lia)
·show 0<60;decide
·show 0<(B-(1+k.ie))*P;exact Nat.mul_pos (by lia) p1
·rw[show(newX B P).cl=List.replicate B 0 from rfl,r0,r0];lia
rw[rmE]
exact le)
structure Kd(k:Tm)(sh:Int)(sr:Nat)(X:Sx)(KD:Mp):Prop where
x:Ix k X.s
wt:Wt k X.s
ok:X.g.Ok
nd:(KD.map (·.1)).Nodup
kb:∀y∈KD,0≤y.1∧y.1<sh
eq:∀n,n≠64→((∃p,(n,p)∈X.s.q.V)↔n∈KD.map (·.1))
hv:∀y∈KD,Hv X.s y.1 y.2
ls:KD.length≤sr
hs:sr+2≤(X.s.q.B-(1+k.ie))*X.s.q.P
s57:sr≤57
h64:sh≤64
section
variable{k:Tm}{sh:Int}{sr:Nat}{X Y:Sx}{KD:Mp}{n v:Int}{i:Nat}{qs:List Pa}{p:Nat}
theorem Kd.pm(h:Kd k sh sr X KD):((X.s.q.V.map (·.1)).filter λn=>decide (n≠64)).Perm (KD.map (·.1)):=by(
refine q1Y (g7 _ h.x.w.qs.ok.nd) h.nd λy=>?_
rw[mP,kW]
constructor
·rintro⟨a,b⟩
 refine(h.eq y b).mp ?_;obtain⟨z,hz,rfl⟩:=mE.mp a;exact⟨z.2,hz⟩
intro hy
have:y≠64:=by obtain⟨z,hz,rfl⟩:=mE.mp hy;have:=h.kb z hz;have:=h.h64;lia
obtain⟨p,hp⟩:=(h.eq y this).mpr hy
exact⟨mE.mpr ⟨_,hp,rfl⟩,this⟩)
theorem Kd.lV(h:Kd k sh sr X KD):X.s.q.V.length≤KD.length+1:=by(
have h1:=qJ7 h.x.w.qs.ok.nd
have h2:=h.pm.length_eq
rw[h9]at h2
lia)
theorem qBR{s:XS}(x:Ix k s):need k s≤17:=by(
have b2:=x.w.qs.ok.b2
by_cases z:(1+k.ie)*s.q.P≤s.rmX
·have:=qBQ x z;split at this<;>lia
unfold need
split
·lia
rw[kI (by lia)]
split<;>lia)
theorem Kd.can(h:Kd k sh sr X KD)(n0:0≤n)(n1:n<sh)(hc:n∈KD.map (·.1)∨KD.length<sr):(∃p,(n,p)∈X.s.q.V)∨(X.s.q.V.length<59∧X.s.q.V.length+1<(X.s.q.B-(1+k.ie))*X.s.q.P):=by(
have:=h.lV
have:=h.hs
have:=h.s57
have:=h.h64
rcases hc with z|z
·exact .inl ((h.eq n (by lia)).mpr z)
exact .inr ⟨by lia,by lia⟩)
theorem Kd.wrote(h:Kd k sh sr X KD)(n0:0≤n)(n1:n<sh)(hc:n∈KD.map (·.1)∨KD.length<sr)(a:AskO k i X n v Y qs p):Kd k sh sr Y (putW KD n v):=by(
have h64:=h.h64
have mp:∀q,q∈putW KD n v↔q=(n,v)∨(q∈KD∧q.1≠n):=λq=>by rw[q9B h.nd,jH]
have mk:∀m,m∈(putW KD n v).map (·.1)↔m=n∨m∈KD.map (·.1):=λm=>by
 rw[mE,mE];constructor
 ·rintro⟨q,hq,rfl⟩
  rcases(mp q).mp hq with e|⟨e,_⟩
  ·rw[e];exact .inl rfl
  exact .inr ⟨q,e,rfl⟩
 intro z;by_cases e:m=n
 ·exact⟨(n,v),(mp _).mpr (.inl rfl),e.symm⟩
 rcases z with z|⟨q,hq,rfl⟩
 ·exact absurd z e
 exact⟨q,(mp _).mpr (.inr ⟨hq,e⟩),rfl⟩
refine⟨a.x,Wt.of a.ge,a.ok,qCM h.nd,λy hy=>?_,λm m6=>?_,λy hy=>?_,?_,by rw[a.eB,a.eP];exact h.hs,h.s57,h64⟩
·rcases(mp y).mp hy with e|⟨e,_⟩
 ·rw[e];exact⟨n0,n1⟩
 exact h.kb y e
·rw[a.nm,mk,h.eq m m6]
·rcases(mp y).mp hy with e|⟨e,en⟩
 ·rw[e];exact a.hn
 have:=h.kb y e;exact a.hv _ _ (by lia) en (h.hv y e)
unfold putW
split
·rw[h9];exact h.ls
rename_i z
rw[kZ,gF]
rcases hc with w|w
·exfalso;obtain⟨q,hq,e⟩:=mE.mp w;exact z (cR.mpr ⟨q,hq,hV e⟩)
lia)
end
end W1
namespace L2
open PySem PySem.Spec PyProof.Rows
section
variable{X:Cx}{k:Nat}{f W:Addr}{fd:FuncData}{ps:List Str}{sp:Sp}{dvs:List V}{ds:List Value}{x m:Str}{p pos apos:Pos}{e:Expr}{es:List Expr}{t:TA}
theorem qJD{CX:CXT}{E:XK}(b:ClM X.K W m f)(F:FnOk X.prog X.w X.K X.mg X.base CX k f fd ps sp)(hr:Room k X.A)(hg:Gl X x)(hm:X.mg x=some (.ref W))(hb:jO X.K fd ps ds)(hd:Vals dvs ds)(hx:q05 CX X E)(ha:PA X (e::es) t)(hdb:(x==("__debug__":Str))=false:=by decide)
 (he:starEach (e::es) X.env=(false,eval e X.env)::starEach es X.env:=by rfl) (hpl:(backTo pos (starEach es X.env)).any (·.1)=false:=by rfl) {pl:Sem Bool}
 (ht:eval (.Call (.Attribute (.Name x p) m apos) (e::es) [] pos) X.env=(do
  let ov←eval (.Name x p) X.env
  standAt apos.atName
  let(f,first)←holding [ov] (getMethod ov m pl)
  callWith pos f first (backTo pos (starEach (e::es) X.env)) (backToKw pos (keywordEach [] X.env))):=by rfl):
 PE X (.Call (.Attribute (.Name x p) m apos) (e::es) [] pos) (qH7 sp dvs E t):=by(
intro pins s σ H Q I h
refine rQ (pl:=pl) (q1T I hg hm ?_ hdb) ht
refine PySem.W.method_cls I.kIn b.ga (PySem.W.cls_value I.kIn b.rd b.fd rfl ?_)
refine wP (first:=[]) (h₀:=X.base) I.ok.mod.kin b.kp (thn (ha pos pins _ σ H _ (I.tok _) h) λus s2 ⟨vs,H2,I2,r,q2⟩=>⟨I2.kIn,?_⟩) he hpl
exact q7D F hr hb hd hx I2 r q2)
end
end L2
namespace W1
open PySem L2
theorem qBS{k:Tm}{X Y:Sx}{r:Except Rf Pa}(R:XS→Prop)(hp:∀s n v,R s→R (s.put n v))(hw:∀s b,R s→R (s.wip b))(w:WX k X.s)(ok:X.g.Ok)(h:X.room k=(Y,r))(c:R X.s):R Y.s:=by(
unfold Sx.room at h
cases htk:X.s.tk k X.g with
|none=>rw[htk]at h;cases h;exact c
|some ybg=>
 obtain⟨y,b,g'⟩:=ybg;rw[htk]at h;dsimp only at h;have f:=q21 ok htk;obtain⟨s',n,ms,md,lm,cs,hh⟩:=q4N (λs' _=>R s') w f c (λs' ms n p _ _ _ _ _ _ _ _ hc=>hp _ _ _ hc);rcases hh with⟨e,_⟩|⟨e,_⟩
 ·rw[e]at h;cases h;exact cs
 rw[e]at h;dsimp only at h;split at h
 ·cases h;exact cs
 cases h;exact hw _ _ cs)
theorem q9H{k:Tm}(R:XS→Prop)(hp:∀s n v,R s→R (s.put n v))(hw:∀s b,R s→R (s.wip b)):∀{i:Nat} {X Y:Sx} {r:Except Rf Unit},WX k X.s→X.g.Ok→X.rooms k i=some (Y,r)→R X.s→R Y.s
|0,X,Y,r,w,ok,h,c=>by
 unfold Sx.rooms at h;split at h
 ·cases h;exact c
 cases h
|i+1,X,Y,r,w,ok,h,c=>by
 unfold Sx.rooms at h;split at h
 ·cases h;exact c
 cases hr:X.room k with
 |mk Z q=>
  rw[hr]at h;obtain⟨w2,ok2,_⟩:=q4O w ok hr;have c2:=qBS R hp hw w ok hr c;cases q with
  |error e=>dsimp only at h;cases h;exact c2
  |ok p=>exact q9H R hp hw w2 ok2 h c2
theorem qJE{k:Tm}{X Y:Sx}{i:Nat}{n v:Int}{r:Except Rf Nat}(R:XS→Prop)(hp:∀s n v,R s→R (s.put n v))(hw:∀s b,R s→R (s.wip b))(w:WX k X.s)(ok:X.g.Ok)(h:X.ask k i n v=some (Y,r))(c:R X.s):R Y.s:=by(
unfold Sx.ask at h
cases hr:X.rooms k i with
|none=>rw[hr]at h;cases h
|some zq=>
 obtain⟨Z,q⟩:=zq;rw[hr]at h;have c2:=q9H R hp hw w ok hr c;cases q with
 |error e=>dsimp only at h;cases h;exact c2
 |ok u=>
  dsimp only at h;split at h
  ·cases h;exact c2
  cases h;exact hp _ _ _ c2)
theorem qBT{k:Tm}{X Y:Sx}{i:Nat}{n v:Int}{r:Except Rf Nat}(w:WX k X.s)(ok:X.g.Ok)(h:X.ask k i n v=some (Y,r))(c:X.s.lf=none):Y.s.lf=none:=qJE (λs=>s.lf=none) (λs n v e=>by show s.lf.map _=none;rw[e];rfl) (λs b e=>by show s.lf.map _=none;rw[e];rfl) w ok h c
section
variable{k:Tm}{sh:Int}{sr:Nat}{X:Sx}{KD:Mp}{j:Nat}{n v:Int}
theorem qJF{i:Nat}{Y:Sx}{p:Nat}(x:Ix k X.s)(rd:X.s.rd k=true)(n0:0≤n)(n1:n≤64)(hl:(∃p,(n,p)∈X.s.q.V)∨X.s.q.V.length<59)(h:X.ask k i n v=some (Y,.ok p)):Y.ps=X.ps∧Y.s.cl=X.s.cl∧Y.s.rmX+1=X.s.rmX:=by(
have e:X.rooms k i=some (X,.ok ()):=by
 cases i with
 |zero=>unfold Sx.rooms;rw[rd,kI rfl]
 |succ i=>unfold Sx.rooms;rw[rd,kI rfl]
unfold Sx.ask at h
rw[e]at h
dsimp only at h
split at h
·cases h
rename_i dk
cases h
have rd:=mV rd
rw[dA,rD]at rd
exact⟨rfl,rfl,(x.w.put (v:=v) (by omega) n0 n1 hl dk).2⟩)
end
theorem qGR{B P:Nat}:(newX B P).rmX=B*P:=by(
unfold XS.rmX newX rm clr1
dsimp only
have:∀n,((List.range n).map λb=>P-((List.replicate B (0:Int)).getD b 0).toNat).sum=n*P:=λn=>by
 induction n with
 |zero=>simp
 |succ n ih=>rw[lN,mW,bK,ih,cP,x9,show(List.replicate B (0:Int)).getD n 0=0 from rep8];simp
exact this B)
noncomputable def Pg8(P B:Nat)(ms:List (List Int)):Prop:=ms.length≤P∧∀m∈ms,∃n p:Int,∃y:Nat,m=[n,p,(y:Int)]∧y / P<B
noncomputable def M8(P B:Nat)(ps:List Pa):Prop:=∀q∈ps,Pg8 P B q.mv
section
variable{k:Tm}{X Y:Sx}
theorem qF2{r:Except Rf Pa}(w:WX k X.s)(ok:X.g.Ok)(h:X.room k=(Y,r))(m:M8 X.s.q.P X.s.q.B X.ps):M8 X.s.q.P X.s.q.B Y.ps:=by(
unfold Sx.room at h
cases htk:X.s.tk k X.g with
|none=>rw[htk]at h;cases h;exact m
|some ybg=>
 obtain⟨y,b,g'⟩:=ybg;rw[htk]at h;dsimp only at h;obtain⟨s',n,ms,md,ln,R,z⟩:=q4N (λ_ ms=>∀m∈ms,∃n p:Int,∃y:Nat,m=[n,p,(y:Int)]∧y / X.s.q.P<X.s.q.B) w (q21 ok htk) (λm hm=>(by cases hm)) (λs' ms n p w' kp _ _ _ _ rm _ R m hm=>by
  rcases gH.mp hm with hm|hm
  ·exact R m hm
  obtain⟨h1,h2,_⟩:=w'.spot (by lia);refine⟨n,p,s'.np,kD.mp hm,?_⟩;unfold XS.np;rw[kp.eP]at h2;rw[kp.eP,yA h2,←kp.eB];exact h1)
 rcases z with⟨e,_⟩|⟨e,el,_⟩
 ·rw[e]at h;cases h;exact m
 rw[e]at h;dsimp only at h;split at h
 ·cases h;exact m
 cases h;intro q hq;rcases gH.mp hq with hq|hq
 ·exact m q hq
 rw[kD.mp hq];refine⟨?_,R⟩;show ms.length≤_;rw[ln,el];exact q7T)
theorem qBU:∀{i:Nat} {X Y:Sx} {r:Except Rf Unit},WX k X.s→X.g.Ok→X.rooms k i=some (Y,r)→M8 X.s.q.P X.s.q.B X.ps→M8 X.s.q.P X.s.q.B Y.ps
|0,X,Y,r,w,ok,h,m=>by
 unfold Sx.rooms at h;split at h
 ·cases h;exact m
 cases h
|i+1,X,Y,r,w,ok,h,m=>by
 unfold Sx.rooms at h;split at h
 ·cases h;exact m
 cases e:X.room k with
 |mk W o=>
  rw[e]at h;have m2:=qF2 w ok e m;obtain⟨w2,ok2,kp,_⟩:=q4O w ok e;cases o with
  |error q=>cases h;exact m2
  |ok p=>have:=qBU w2 ok2 h (by rw[kp.eP,kp.eB];exact m2);rw[kp.eP,kp.eB]at this;exact this
theorem qKP{i:Nat}{n v:Int}{r:Except Rf Nat}(w:WX k X.s)(ok:X.g.Ok)(h:X.ask k i n v=some (Y,r))(m:M8 X.s.q.P X.s.q.B X.ps):M8 X.s.q.P X.s.q.B Y.ps:=by(
unfold Sx.ask at h
cases e:X.rooms k i with
|none=>rw[e]at h;cases h
|some Zr=>
 obtain⟨Z,o⟩:=Zr;rw[e]at h;have m2:=qBU w ok e m;cases o with
 |error q=>cases h;exact m2
 |ok u=>
  dsimp only at h;split at h
  ·cases h;exact m2
  cases h;exact m2)
end
structure Zd(k:Tm)(sh:Int)(sr:Nat)(P B:Nat)(X:Sx)(KD:Mp)(n:Nat):Prop where
d:Kd k sh sr X KD
lf:X.s.lf=none
ge:(1+k.ie)*P≤X.s.rmX
eP:X.s.q.P=P
eB:X.s.q.B=B
m8:M8 P B X.ps
rcn:X.s.rc.length≤300*n
psn:X.ps.length≤20*n
section
variable{k:Tm}{sh:Int}{sr P B:Nat}{X:Sx}{KD:Mp}{j:Nat}{n v:Int}
theorem Zd.ask(h:Zd k sh sr P B X KD j)(n0:0≤n)(n1:n<sh)(hc:n∈KD.map (·.1)∨KD.length<sr):∃Y p,X.ask k 17 n v=some (Y,.ok p)∧Zd k sh sr P B Y (putW KD n v) (j+1):=by(
have h64:=h.d.h64
rcases qGP (n:=n) (v:=v) h.d.x h.d.wt h.d.ok (qBR h.d.x) n0 (by lia) (h.d.can n0 n1 hc)with⟨Y,qs,p,hZ,a⟩|⟨Y,qs,hZ,a⟩
·have m:=qKP h.d.x.w h.d.ok hZ (by rw[h.eP,h.eB];exact h.m8);rw[h.eP,h.eB]at m;have ge:=a.ge;have eP:=a.eP;have rl:=a.rl;have ln:=mF a.ln (qBR h.d.x);have r1:=h.rcn;have r2:=h.psn;rw[eP,h.eP]at ge;refine⟨Y,p,hZ,h.d.wrote n0 n1 hc a,qBT h.d.x.w h.d.ok hZ h.lf,ge,eP.trans h.eP,a.eB.trans h.eB,m,by lia,?_⟩;rw[a.ps,kZ];lia
have:=qBT h.d.x.w h.d.ok hZ h.lf
rw[a.lf]at this
cases this)
theorem Zd.room(h:Zd k sh sr P B X KD j):(X.room k=(X,.error .room))∨∃Y p,X.room k=(Y,.ok p)∧Zd k sh sr P B Y KD (j+1):=by(
cases e:X.room k with
|mk Y r=>
 obtain⟨rx,z⟩:=q7V h.d.x h.d.wt h.d.ok e;have lf:Y.s.lf=none:=qBS (λs=>s.lf=none) (λs n v c=>(by show s.lf.map _=none;rw[c];rfl)) (λs b c=>(by show s.lf.map _=none;rw[c];rfl)) h.d.x.w h.d.ok e h.lf;cases r with
 |error q=>
  cases q with
  |dark=>rw[lf]at z;cases z.1
  |room=>obtain⟨rfl,_⟩:=z;exact .inl rfl
 |ok p=>obtain⟨e1,e2,ge,_,_,lm,_⟩:=z;have m:=qF2 h.d.x.w h.d.ok e (by rw[h.eP,h.eB];exact h.m8);rw[h.eP,h.eB]at m;obtain⟨_,_,_,rl,pl⟩:=q4O h.d.x.w h.d.ok e;have r1:=h.rcn;have r2:=h.psn;have a:=rx;have h64:=h.d.h64;rw[h.eP]at ge;exact .inr ⟨Y,p,rfl,⟨a.x,a.wt,a.ok,h.d.nd,h.d.kb,λm m6=>by rw[a.kp.nm,h.d.eq m m6],λy hy=>a.hv _ _ (by have:=h.d.kb y hy;lia) (h.d.hv y hy),h.d.ls,by rw[a.kp.eB,a.kp.eP];exact h.d.hs,h.d.s57,h64⟩,lf,ge,a.kp.eP.trans h.eP,a.kp.eB.trans h.eB,m,by lia,by lia⟩)
end
noncomputable def tgt(P:Nat)(ms:List (List Int)):List Nat:=ms.map λm=>(m.getD 2 0).toNat / P
noncomputable def chL(P:Nat)(ps:List Pa):List (Nat×List Nat):=(ps.filter λq=>decide (q.why=Str.ofString "even")).map λq=>(q.b,tkL (tgt P q.mv))
theorem qAO{P B:Nat}{ms:List (List Int)}(h:Pg8 P B ms)(p4:P≤4)(b8:B≤8):(tgt P ms).length≤4∧∀y∈tgt P ms,y<8:=by(
unfold tgt
refine⟨by rw[h9];have:=h.1;lia,λy hy=>?_⟩
obtain⟨m,hm,rfl⟩:=mE.mp hy
obtain⟨n,p,y,rfl,lt⟩:=h.2 m hm
show(((y:Nat):Int).toNat) / P<8
rw[mI]
lia)
theorem qAP{P B:Nat}{ms:List (List Int)}(h:Pg8 P B ms)(p4:P≤4)(b8:B≤8):(tkL (tgt P ms)).length≤4:=by have:=qAO h p4 b8;exact mF (qBI this.2) this.1
theorem q9I{P:Nat}{ps:List Pa}{i:Nat}(hi:i<ps.length):chL P (ps.take (i+1))=chL P (ps.take i)++(if ps[i].why=Str.ofString "even" then[(ps[i].b,tkL (tgt P ps[i].mv))]else[]):=by(
unfold chL
rw[←mL hi,g8,mW,gA]
by_cases z:ps[i].why=Str.ofString "even"
·rw[kI (hV z),kI z];rfl
rw[kF (by simpa using z),kF z]
rfl)
theorem qAQ{P:Nat}{ps:List Pa}:(chL P ps).length≤ps.length:=by unfold chL;rw[h9];exact mH _ _
end W1
namespace L2
open PySem PySem.Spec PyProof.Rows
section
variable{prog:Program}{w:World}{A:Around}{E:Value→Shared→Prop}
theorem qBV{s:Shared}{nm:String}{f:Builtin}{us:List Value}{ks:List (Str×Value)}{Q:Value→Shared→Prop}(h1:builtinKind nm=none)(h2:plainId nm=true)(h3:entryFor table nm=some f)(h4:argsOk nm ⟨us,ks⟩)
 (go:wpAny (model prog w) A.in1 (f ⟨us,ks⟩) (λfin s'=>match fin with| .done r=>(match(Except.ok r:Result)with| .ok (.ret v)=>Q v s'| .ok _=>False| .error e=>E e s')| .again c=>c.quiet=true∧codeAny (model prog w) A c (λr s'=>match r with| .ok (.ret v)=>Q v s'| .ok _=>False| .error e=>E e s') s') E s):
 wpAny (model prog w) A (call (.builtin nm) us ks) Q E s:=cJ (cM h2 h3 (by simp only[checkBuiltinCall,h1];unfold argsOk at h4;cases e:Manifest.signature? nm with
 |none=>exact kL go
 |some sg=>rw[e]at h4;replace h4:Bind.checkArgs nm sg ⟨us,ks⟩=pure ():=h4;simp only[h4];exact kL go))
theorem qGS(a d:Value):argsOk "min" ⟨[a],[(Str.ofString "default",d)]⟩:=by unfold argsOk;kernel_rfl
theorem qF3{I B:Addr}{fp wr:List Addr}{n:Nat}{P:Nat→Value→Prop}{St:Nat→Heap→Prop}{R:Result→Shared→Prop}{kw:List (Str×Value)}(val:Nat→Int)(hval:∀i v,P i v→∃t,v=.int (val i) t)
 (W:Walks prog w A.in1 I fp wr n P St) (nB:B∉fp):∀(r j i0:Nat) (s:Shared) (v0:Value) (c:Nat),j+r=n→St j s.heap→P i0 v0→i0<j→(∀i,i<j→val i0≤val i)→s.heap.get? B=some { cls:=.type "list",dict:=none,data:=.seq #[v0,v0] c,slots:=#[] }→(∀i v h' tk,P i v→i<n→(∀i',i'<n→val i≤val i')→(∀b o,b∉wr→b≠B→s.heap.get? b=some o→h'.get? b=some o)→R (.ok (.ret v)) { s with heap:=h',toks:=tk })→codeAny (model prog w) A (.builtin "min.loop" ⟨[.ref I,.none,.ref B],kw⟩) R s:=by(
have wB:B∉wr:=λz=>nB (W.sub _ z)
have nm:(toString "min"++toString ".loop":String)="min.loop":=by decide
intro r
induction r with
|zero=>intro j i0 s v0 c ej st p0 l0 le gB fin;obtain rfl:j=n:=ej;refine dC dN (id ?_);rw[gR m9 _];show wpAny _ A.in1 (seqItems? (.ref B) >>= _) _ (λ_ _=>_) _;refine hG (cN gB rfl ?_);show wpAny _ A.in1 (tryCatch (pyNext (.ref I)) _ >>= _) _ (λ_ _=>_) _;refine hG (dO (W.done s _ _ st λh1 t1 kp=>?_));show wpAny _ A.in1 (updateSeq B (λ_=>#[]) >>= _) _ (λ_ _=>_) _;refine hG ?_;exact wX (kp B _ wB gB) rfl (hG (wL (kL (fin i0 v0 _ t1 p0 l0 le λb o b1 b2 e=>(kY _ _ b2.symm).trans (kp b o b1 e)))))
|succ r ih=>
 intro j i0 s v0 c ej st p0 l0 le gB fin;refine dC dN (id ?_);rw[gR m9 _];show wpAny _ A.in1 (seqItems? (.ref B) >>= _) _ (λ_ _=>_) _;refine hG (cN gB rfl ?_);show wpAny _ A.in1 (tryCatch (pyNext (.ref I)) _ >>= _) _ (λ_ _=>_) _;refine hG (dO (W.item j s _ _ (by omega) st λv1 h1 t1 p1 st1 kp=>?_));have gB1:=kp B _ wB gB;show wpAny _ A.in1 (tryCatch (holding [v1,v1] (richCompare .Lt v1 v0 >>= _)) _ >>= _) _ (λ_ _=>_) _;refine hG (dO (gG (hG (CmpOf.ints_lt val hval j i0 v1 v0 _ _ _ p1 p0 (hG (gG (gP (hG (wL (kL ?_))))))))));dsimp only;by_cases z:val j<val i0
 ·rw[hV z];rw[kI rfl];refine hG (wX gB1 rfl (hG (wL ?_)));rw[nm];refine kL ⟨d7 m9 _,ih (j+1) j _ v1 _ (by omega) (W.frame _ _ _ st1 λb hb o e=>(kY _ _ λy:B=b=>nB (by rw[y];exact hb)).trans e) p1 (by omega) (λi hi=>?_) (gN _ gB1 rfl) λi v h2 t2 a1 a2 a3 a4=>fin i v h2 t2 a1 a2 a3 λb o b1 b2 e=>a4 b o b1 b2 ((kY _ _ b2.symm).trans (kp b o b1 e))⟩;by_cases y:i=j
  ·rw[y];omega
  have:=le i (by omega);omega
 rw[kE z];rw[kF (by decide)];refine hG (wL ?_);rw[nm];refine kL ⟨d7 m9 _,ih (j+1) i0 _ v0 c (by omega) st1 p0 (by omega) (λi hi=>?_) gB1 λi v h2 t2 a1 a2 a3 a4=>fin i v h2 t2 a1 a2 a3 λb o b1 b2 e=>a4 b o b1 b2 (kp b o b1 e)⟩;by_cases y:i=j
 ·rw[y];omega
 exact le i (by omega))
theorem qF4{s:Shared}{l:Addr}{xs:Array (Int×Tok)}{d:Value}{Q:Value→Shared→Prop}(hh:A.handled=none)(hl:s.heap.IsList l (intItems xs))(h0:xs.size=0→∀h' tk,(∀b o,s.heap.get? b=some o→h'.get? b=some o)→Q d { s with heap:=h',toks:=tk })
 (h1':∀i v h' tk,(intItems xs)[i]?=some v→i<xs.size→(∀i',i'<xs.size→numAt xs i≤numAt xs i')→(∀b o,s.heap.get? b=some o→h'.get? b=some o)→Q v { s with heap:=h',toks:=tk }):
 wpAny (model prog w) A (call (.builtin "min") [.ref l] [(Str.ofString "default",d)]) Q E s:=by(
have nm:(toString "min"++toString ".loop":String)="min.loop":=by decide
have zs:(intItems xs).size=xs.size:=by simp[intItems]
refine qBV aY aR aS (qGS _ _) ?_
refine hG (m:=Builtin.Builtins.bindParams "min" ["key","default"] 0 ⟨[],[(Str.ofString "default",d)]⟩) (xG (a:=[none,some d]) rfl ?_)
refine hG (kL (hG (iter_intList hl λs2 e st hfp ne=>?_)))
subst e
refine hG (wZ ?_ (mM _))
rw[nm]
refine kL ⟨d7 m9 _,?_⟩
have W:=lI (prog:=prog) (w:=w) (A:=A.in1) hh s.heap.objs.size l ne (intItems xs)
have gB:=mD (o:={ cls:=.type "list",data:=.seq #[] }) (s.heap.push { cls:=.type "list_iterator",data:=.fields #[.ref l,.int 0 0] }) rfl
have nB:(s.heap.push { cls:=.type "list_iterator",data:=.fields #[.ref l,.int 0 0] }).objs.size∉[s.heap.objs.size,l]:=λz=>d6 _ (hfp _ z)
have old:∀{b:Addr} {o:Obj},s.heap.get? b=some o→b≠s.heap.objs.size∧b≠(s.heap.push { cls:=.type "list_iterator",data:=.fields #[.ref l,.int 0 0] }).objs.size:=fun {b o} e=>⟨mK (kP e),mK (kP (hU _ e))⟩
refine dC dN (id ?_)
rw[gR m9 _]
show wpAny _ A.in1 (seqItems? (.ref (s.heap.push { cls:=.type "list_iterator",data:=.fields #[.ref l,.int 0 0] }).objs.size) >>= _) _ (λ_ _=>_) _
refine hG (cN gB rfl ?_)
show wpAny _ A.in1 (tryCatch (pyNext (.ref s.heap.objs.size)) _ >>= _) _ (λ_ _=>_) _
refine hG (dO ?_)
have st0:=W.frame 0 _ (Heap.push (Heap.push s.heap { cls:=.type "list_iterator",data:=.fields #[.ref l,.int 0 0] }) ({ cls:=.type "list",data:=.seq #[] }:Obj)) st λb _ o e=>hU _ e
have wB:(s.heap.push { cls:=.type "list_iterator",data:=.fields #[.ref l,.int 0 0] }).objs.size∉[s.heap.objs.size]:=λz=>nB (W.sub _ z)
by_cases z:xs.size=0
·refine W.done _ _ _ (by rw[zs,z];exact st0) λh1 t1 kp=>?_;exact hG (bQ (kL (h0 z h1 t1 λb o e=>kp b o (by simpa using(old e).1) (hU _ (hU _ e)))))
refine W.item 0 _ _ _ (by rw[zs];omega) st0 λv1 h1 t1 p1 st1 kp=>?_
have gB1:=kp (s.heap.push { cls:=.type "list_iterator",data:=.fields #[.ref l,.int 0 0] }).objs.size _ wB gB
show wpAny _ A.in1 (updateSeq (s.heap.push { cls:=.type "list_iterator",data:=.fields #[.ref l,.int 0 0] }).objs.size (λ_=>#[v1,v1]) >>= _) _ (λ_ _=>_) _
refine hG (wX gB1 rfl ?_)
rw[nm]
refine kL ⟨d7 m9 _,qF3 (numAt xs) (λ_ _=>intItems_at) W nB (xs.size-1) 1 0 _ v1 _ (by rw[zs];omega) (W.frame _ _ _ st1 λb hb o e=>(kY _ _ λy:(s.heap.push { cls:=.type "list_iterator",data:=.fields #[.ref l,.int 0 0] }).objs.size=b=>nB (by rw[y];exact hb)).trans e) p1 (by omega) (λi hi=>?_) (gN _ gB1 rfl) λi v h2 t2 a1 a2 a3 a4=>?_⟩
·rw[show i=0 by omega];exact gQ _
rw[zs]at a2 a3
exact h1' i v h2 t2 a1 a2 a3 λb o e=>a4 b o (by simpa using(old e).1) (old e).2 ((kY _ _ (old e).2.symm).trans (kp b o (by simpa using(old e).1) (hU _ (hU _ e)))))
end
noncomputable def qKQ(K:PySem.W.Frag)(d:Int)(ta:TA):TE:=λσ H Q=>ta σ H λvs H1=>∃(p:Addr) (ns:List Int),vs=[.ref p]∧SqL K H1 p (ns.map V.int)∧(ns=[]→Q (.int d) H1)∧∀M,M∈ns→(∀a∈ns,M≤a)→Q (.int M) H1
theorem qGT{X:Cx}{e c:Expr}{ta:TA}{p kp pos:Pos}{d:Int}(hc:X.calm=true)(hg:Gl X "min")(hm:X.mg "min"=none)(hd:PE X c (tC (.int d)))(ha:PA X [e] ta)(he:starEach [e] X.env=[(false,eval e X.env)]:=by rfl)(hse:starEach ([]:List Expr) X.env=[]:=by rfl):
 PE X (.Call (.Name "min" p) [e] [⟨some "default",c,kp⟩] pos) (qKQ X.K d ta):=by(
intro pins s σ H Q I h
refine dE (q0R I hg hm (u:=.builtin "min") (by kernel_rfl) ?_ (by decide) (by decide))
refine a7 (thn (ha pos pins s σ H _ I h) λus s1 ⟨vs,H1,I1,r1,q1⟩=>?_) (by rw[he,hse];rfl) (by rw[he];rfl)
have pk:PK X [⟨some "default",c,kp⟩] (q6Q (tC (.int d)) tNil):=q7E hd qA5
refine thn (pk pos pins s1 σ H1 (λxs H2=>xs=[.int d]∧H2=H1) I1 ⟨rfl,rfl⟩) λws s2 hZ=>?_
obtain⟨xs,H2,I2,r2,ex,eH⟩:=hZ
subst ex eH
obtain⟨w,rfl,td,rfl⟩:=zQ r2
obtain⟨l,ns,ev,hq,h0,h1⟩:=q1
subst ev
obtain⟨u,rfl,ru⟩:=zQ r1
obtain rfl:u=Value.ref l:=ru
obtain⟨its,rv,pl,hz⟩:=I2.list hq
have hi:=q4J rv
obtain⟨xs,e⟩:=hi.allInts.items
have hns:ns=xs.toList.map (·.1):=by rw[←hi.numsOf,←nums_intItems,←e]
have hl:=pl.isList
rw[e]at hl
show wpAny (model X.prog X.w) X.A (call (.builtin "min") [.ref l] [(Str.ofString "default",.int d td)]) _ _ _
refine qF4 (I2.ok.hd hc) hl (λz h' tk kp=>⟨.int d,_,I2.kept kp,⟨_,rfl⟩,h0 ?_⟩) (λi v h' tk hv hi le kp=>?_)
·rw[hns,Array.eq_empty_of_size_eq_zero z];rfl
obtain⟨t,rfl⟩:=intItems_at hv
refine⟨.int _,_,I2.kept kp,⟨t,rfl⟩,h1 _ ?_ λa ha=>?_⟩
·rw[hns,numAt_eq];exact getD_mem (by rw[h9,k9];omega)
rw[hns]at ha
obtain⟨j,hj,rfl⟩:=mem_getD ha
rw[h9,k9]at hj
rw[←numAt_eq]
exact le j hj)
end L2
namespace L2
open PySem PySem.W PySem.Spec PyProof.Rows
theorem qGU(a d:Value):argsOk "min" ⟨[a],[(Str.ofString "key",d)]⟩:=by unfold argsOk;kernel_rfl
noncomputable def KeyI(K:PySem.W.Frag)(kf:Nat→List Int)(H:Hp)(zs:List V):Prop:=∀j z,zs[j]?=some z→TupI K H z (kf j)
section
variable{X:Cx}{pins:List (Addr×Obj)}{σ:St}
theorem qGV{A:Around}{H:Hp}{s:Shared}{z1 z2:V}{u1 u2:Value}{k1 k2:List Int}{Q:Value→Shared→Prop}{E:Value→Shared→Prop}(I:Inv X pins σ H s)(hu:A.units+1<cLine)(t1:TupI X.K H z1 k1)(t2:TupI X.K H z2 k2)(r1:RelV z1 u1)(r2:RelV z2 u2)(c:Q (.bool (lx k1 k2)) s):wpAny (model X.prog X.w) A (richCompare .Lt u1 u2) Q E s:=by(
have p1:=q32 I (.cons r1 .nil) (.cons t1 .nil)
have p2:=q32 I (.cons r2 .nil) (.cons t2 .nil)
obtain⟨k1',g1,a1,us1,rfl,q1,i1⟩:=Paired.at (i:=0) p1 rfl
obtain⟨k2',g2,a2,us2,rfl,q2,i2⟩:=Paired.at (i:=0) p2 rfl
cases g1
cases g2
rw[←q98]at c
exact HT.lt_tupInts (items:=us1.toArray) (items2:=us2.toArray) q1 q2 (by simpa using i1) (by simpa using i2) (aI hu) c)
theorem qGW{R:Result→Shared→Prop}{l f I S:Addr}{us:List V}{kf:Nat→List Int}(hc:X.A.handled=none)(hu:X.A.units+64<cLine)(Pv:Nat→List V→Hp→Prop)
 (hq:∀i zs H',Pv i zs H'→SqL X.K H' l us∧zs.length=i∧KeyI X.K kf H' zs) (nl:l≠I) (nS:S≠I) (nlS:l≠S)
 (hI:∀H',H' I=none→FpOk X pins H' I) (hS:∀H',H' S=none→FpOk X pins H' S)
 (hs:∀i x zs H' pins' s' u,us[i]?=some x→RelV x u→Pv i zs H'→Inv { X with A:=X.A.in1,xe:=λ_ _=>False } pins' σ H' s'→wpAny (model X.prog X.w) X.A.in1 (call (.ref f) [u]) (EP { X with A:=X.A.in1,xe:=λ_ _=>False } pins' σ (λz H''=>Pv (i+1) (zs++[z]) H'')) (λ_ _=>False) s')
 (hR:∀i v zs H' s',i<us.length→RelV (us.getD i .non) v→(∀j,j<us.length→lx (kf j) (kf i)=false)→Pv us.length zs H'→Inv X pins σ H' s'→R (.ok (.ret v)) s'):
 ∀(r j i:Nat) (s:Shared) (H:Hp) (zs:List V) (vb kb:Value) (c:Nat),j+r=us.length→i<j→Inv X pins σ H s→Pv j zs H→H I=none→H S=none→s.heap.IsListIter I l j→s.heap.get? S=some (seqObj "list" #[vb,kb] c)→RelV (us.getD i .non) vb→RelV (zs.getD i .non) kb→(∀j',j'<j→lx (kf j') (kf i)=false)→codeAny (model X.prog X.w) X.A (.builtin "min.loop" ⟨[.ref I,.ref f,.ref S],[]⟩) R s:=by(
have nm:(toString "min"++toString ".loop":String)="min.loop":=by decide
intro r
induction r with
|zero=>intro j i s H zs vb kb c ej ij J pv n1 n2 it gS rb rk best;obtain rfl:j=us.length:=ej;obtain⟨sq,lz,ky⟩:=hq _ _ _ pv;obtain⟨its,rv,pl,hz⟩:=J.list sq;have hlen:=rv.length;have W:=lI (prog:=X.prog) (w:=X.w) (A:=X.A.in1) hc I l nl its.toArray;refine dC dN (id ?_);rw[gR m9 _];show wpAny _ X.A.in1 (seqItems? (.ref S) >>= _) _ (λ_ _=>_) _;refine hG (cN gS rfl ?_);show wpAny _ X.A.in1 (tryCatch (pyNext (.ref I)) _ >>= _) _ (λ_ _=>_) _;refine hG (dO (W.done s _ _ ⟨by rw[mB,←hlen];exact it,pl.isList⟩ λh1 t1 kp=>?_));have J1:Inv X pins σ H { s with heap:=h1,toks:=t1 }:=J.turnedN (fp:=[I]) kp (λb hb=>by rw[kD.mp hb];exact hI _ n1);have gS1:=kp S _ (λz=>nS (kD.mp z)) gS;show wpAny _ X.A.in1 (updateSeq S (λ_=>#[]) >>= _) _ (λ_ _=>_) _;refine hG (wX gS1 rfl (hG (wL (kL ?_))));exact hR i vb zs H _ ij rb best pv (J1.turnedN (fp:=[S]) (λb o hb e=>(kY _ _ (λz=>hb (kD.mpr z.symm))).trans e) (λb hb=>by rw[kD.mp hb];exact hS _ n2))
|succ r ih=>
 intro j i s H zs vb kb c ej ij J pv n1 n2 it gS rb rk best;have lt:j<us.length:=by omega
 obtain⟨sq,lz,ky⟩:=hq _ _ _ pv;obtain⟨its,rv,pl,hz⟩:=J.list sq;have hlen:=rv.length;have W:=lI (prog:=X.prog) (w:=X.w) (A:=X.A.in1) hc I l nl its.toArray;refine dC dN (id ?_);rw[gR m9 _];show wpAny _ X.A.in1 (seqItems? (.ref S) >>= _) _ (λ_ _=>_) _;refine hG (cN gS rfl ?_);show wpAny _ X.A.in1 (tryCatch (pyNext (.ref I)) _ >>= _) _ (λ_ _=>_) _;refine hG (dO (W.item j s _ _ (by rw[mB];omega) ⟨it,pl.isList⟩ λv h1 t1 pv1 st1 kp=>?_));have hv:its[j]?=some v:=by simpa using pv1
 obtain⟨x,ex,rx⟩:=rv.atN (j:=j) (by omega);obtain rfl:its[j]=v:=(kB.mp hv).2;have J1:Inv X pins σ H { s with heap:=h1,toks:=t1 }:=J.turnedN (fp:=[I]) kp (λb hb=>by rw[kD.mp hb];exact hI _ n1);have gS1:=kp S _ (λz=>nS (kD.mp z)) gS;obtain⟨oI,gI,hoc,hod⟩:=id st1.1;have J2:=(J1.near (A':=X.A.in1) rfl rfl λ_ _=>False).pinned (fp:=[I,S]) (λb hb'=>by
  simp only[kM,gX,cW]at hb';rcases hb' with rfl|rfl
  ·exact hI _ n1
  ·exact hS _ n2) (λb hb'=>by
  simp only[kM,gX,cW]at hb';rcases hb' with rfl|rfl
  ·exact⟨_,gI,λv z=>by rw[hod]at z;cases z⟩
  exact⟨_,gS1,λv z=>by cases z⟩)
 show wpAny _ X.A.in1 (tryCatch (holding [its[j]] (call (.ref f) [its[j]])) _ >>= _) _ (λ_ _=>_) _;refine hG (dO (gG (gY (hs j x zs H _ _ _ ex rx pv J2) (λu s2 hq2=>?_) λ_ _ z=>z.elim)));obtain⟨z,H2,J3,ru,pv2⟩:=hq2;have pI:=J3.pin (I,oI) (kQ _ (kQ _ (yC (by simp) gI)));have pS:=J3.pin (S,seqObj "list" #[vb,kb] c) (kQ _ (kQ _ (yC (by simp) gS1)));have J4:Inv X pins σ H2 s2:=(J3.unpinned).near (A':=X.A) rfl rfl X.xe;obtain⟨sq2,lz2,ky2⟩:=hq _ _ _ pv2;have kz:TupI X.K H2 z (kf j):=ky2 j z (by rw[dJ (by omega),lz,Nat.sub_self];rfl);have gi:zs[i]?=some (zs.getD i .non):=by rw[kJ,hX (by omega)];rfl
 have ki:TupI X.K H2 (zs.getD i .non) (kf i):=ky2 i _ (by rw[rS (by omega)];exact gi);have it2:s2.heap.IsListIter I l (j+1):=⟨oI,pI.1,hoc,hod⟩;show wpAny _ X.A.in1 (tryCatch (holding [its[j],u] (richCompare .Lt u kb >>= _)) _ >>= _) _ (λ_ _=>_) _;refine hG (dO (gG (hG (qGV J4 (by show X.A.units+1+1<cLine;omega) kz ki ru rk ?_))));refine hG (gG (gP (hG (wL (kL ?_)))));cases e:lx (kf j) (kf i)with
 |true=>
  simp only[if_true];refine hG (wX pS.1 rfl (hG (wL ?_)));rw[nm];obtain⟨c2,g2⟩:∃c2,(s2.heap.update S (Obj.mapSeq λ_=>#[its[j],u])).get? S=some (seqObj "list" #[its[j],u] c2):=⟨_,wU pS.1 λ_=>#[its[j],u]⟩;have J5:Inv X pins σ H2 { s2 with heap:=s2.heap.update S (Obj.mapSeq λ_=>#[its[j],u]),toks:=s2.toks }:=J4.turnedN (fp:=[S]) (λb o hb e=>(kY _ _ (λz=>hb (kD.mpr z.symm))).trans e) (λb hb=>by rw[kD.mp hb];exact hS _ pS.2.1);refine kL ⟨d7 m9 _,ih (j+1) j _ H2 _ _ u c2 (by omega) (by omega) J5 pv2 pI.2.1 pS.2.1 ⟨oI,(kY _ _ nS).trans pI.1,hoc,hod⟩ g2 ?_ ?_ λj' hj'=>?_⟩
  ·rw[kJ,ex];exact rx
  ·rw[kJ,dJ (by omega),lz,Nat.sub_self];exact ru
  by_cases y:j'=j
  ·rw[y];exact q2H _
  cases g:lx (kf j') (kf j)with
  |false=>rfl
  |true=>have:=zS _ _ _ g e;rw[best j' (by omega)]at this;cases this
 |false=>
  simp only[dF,if_false];refine hG (wL ?_);rw[nm];refine kL ⟨d7 m9 _,ih (j+1) i _ H2 _ vb kb c (by omega) (by omega) J4 pv2 pI.2.1 pS.2.1 it2 pS.1 rb ?_ λj' hj'=>?_⟩
  ·rw[kJ,rS (by omega),gi];exact rk
  by_cases y:j'=j
  ·rw[y];exact e
  exact best j' (by omega))
end
noncomputable def tML(P:Program)(w:World)(K:PySem.W.Frag)(mg:Str→Option Value)(base:Heap)(cells:List (Str×Addr))(ix:List (Nat×Str))(k:Nat)(x:Str)(tl:TE)(ta:TA):TE:=λσ H Q=>ta σ H λvs H1=>tl σ H1 λfv H2=>∃(f:Addr) (fd:FuncData) (sp:Heap→Sp),fv=.ref f∧(∀base',(∀b o,base.get? b=some o→base'.get? b=some o)→q0Z cells σ base' ix→FnOk P w K mg base' CX0 k f fd [x] (sp base'))∧jO K fd [x] []∧∃(l:Addr) (us:List V) (kf:Nat→List Int) (Pv:Nat→List V→Hp→Prop),vs=[.ref l]∧0<us.length∧Pv 0 [] H2∧(∀i zs H',Pv i zs H'→SqL K H' l us∧zs.length=i∧KeyI K kf H' zs)∧(∀base' i x zs H',q0Z cells σ base' ix→us[i]?=some x→Pv i zs H'→sp base' [x] H' (λz H''=>Pv (i+1) (zs++[z]) H'') E0)∧∀i zs H',i<us.length→(∀j,j<us.length→lx (kf j) (kf i)=false)→Pv us.length zs H'→Q (us.getD i .non) H'
theorem qGX{X:Cx}{k:Nat}{x:Str}{e le:Expr}{tl:TE}{ta:TA}{p kp pos:Pos}(ix:List (Nat×Str))(hix:∀p∈ix,X.N[p.1]?=some p.2∧X.env.scope.names.lookup p.2=some .cell∧X.fn p.2=true)(hc:X.calm=true)(hu:X.A.units+64<cLine)(hr:Room (k+1) X.A)(hg:Gl X "min")(hm:X.mg "min"=none)(hl:PE X le tl)(ha:PA X [e] ta)
 (he:starEach [e] X.env=[(false,eval e X.env)]:=by rfl) (hse:starEach ([]:List Expr) X.env=[]:=by rfl):
 PE X (.Call (.Name "min" p) [e] [⟨some "key",le,kp⟩] pos) (tML X.prog X.w X.K X.mg X.base X.env.cells ix k x tl ta):=by(
intro pins s σ H Q I h
have nm:(toString "min"++toString ".loop":String)="min.loop":=by decide
refine dE (q0R I hg hm (u:=.builtin "min") (by kernel_rfl) ?_ (by decide) (by decide))
refine a7 (thn (ha pos pins s σ H _ I h) λus s1 ⟨vs,H1,I1,r1,q1⟩=>?_) (by rw[he,hse];rfl) (by rw[he];rfl)
have pk:PK X [⟨some "key",le,kp⟩] (q6Q tl tNil):=q7E hl qA5
refine thn (pk pos pins s1 σ H1 (oneQ _) I1 q1) λws s2 hZ=>?_
obtain⟨xs,H2,I2,r2,q2⟩:=hZ
obtain⟨v,rfl,f,fd,sp,rfl,F,hb,q2⟩:=qBN q2
obtain⟨w,rfl,rw⟩:=zQ r2
obtain rfl:w=Value.ref f:=rw
obtain⟨l,us',kf,Pv,ev,hn,p0,hq,hs,hd⟩:=q2
subst ev
obtain⟨u,rfl,ru⟩:=zQ r1
obtain rfl:u=Value.ref l:=ru
obtain⟨sq,_,_⟩:=hq _ _ _ p0
obtain⟨its,rv,pl,hz⟩:=I2.list sq
have hlen:=rv.length
have hd0:=I2.ok.hd hc
have hlt:l<s2.heap.objs.size:=by obtain⟨_,e,_⟩:=pl.isList;exact kP e
show wpAny (model X.prog X.w) X.A (call (.builtin "min") [.ref l] [(Str.ofString "key",.ref f)]) _ _ _
refine qBV aY aR aS (qGU _ _) ?_
refine hG (m:=Builtin.Builtins.bindParams "min" ["key","default"] 0 ⟨[],[(Str.ofString "key",.ref f)]⟩) (xG (a:=[some (.ref f),none]) rfl ?_)
refine hG (kL (hG (sV pl.isList ?_)))
refine hG (wZ ?_ (mM _))
rw[nm]
refine kL ⟨d7 m9 _,?_⟩
have hS:(s2.heap.push { cls:=.type "list_iterator",data:=.fields #[.ref l,.int 0 0] }).objs.size=s2.heap.objs.size+1:=lF ..
have gS:=mD (o:=seqObj "list" #[] 0) (s2.heap.push { cls:=.type "list_iterator",data:=.fields #[.ref l,.int 0 0] }) rfl
have gI:((s2.heap.push { cls:=.type "list_iterator",data:=.fields #[.ref l,.int 0 0] }).push (seqObj "list" #[] 0)).get? s2.heap.objs.size=some { cls:=.type "list_iterator",data:=.fields #[.ref l,.int 0 0] }:=hU _ (mD _ rfl)
have I3:Inv X pins σ H2 { s2 with heap:=(s2.heap.push { cls:=.type "list_iterator",data:=.fields #[.ref l,.int 0 0] }).push (seqObj "list" #[] 0),toks:=s2.toks }:=I2.kept (t':=s2.toks) λb o e=>hU _ (hU _ e)
obtain⟨S,eS⟩:∃S:Addr,S=(s2.heap.push { cls:=.type "list_iterator",data:=.fields #[.ref l,.int 0 0] }).objs.size:=⟨_,rfl⟩
obtain⟨J,eJ⟩:∃J:Addr,J=s2.heap.objs.size:=⟨_,rfl⟩
have fJ:FpOk X pins H2 J:=by rw[eJ];exact I2.fpOk (kN _) (I2.hok.fresh (kN _))
have fS:FpOk X pins H2 S:=by rw[eS,hS];exact I2.fpOk (g4 _) (I2.hok.fresh (g4 _))
have hJ:∀H',H' J=none→FpOk X pins H' J:=λH' e=>⟨e,fJ.2⟩
have hS':∀H',H' S=none→FpOk X pins H' S:=λH' e=>⟨e,fS.2⟩
have nl:l≠J:=by rw[eJ];exact mK hlt
have nSJ:S≠J:=by rw[eS,eJ,hS];exact rM (rO _)
have nlS:l≠S:=by rw[eS,hS];exact mK (dL hlt)
have hc':X.A.handled=none:=hd0
rw[←eS]at gS
show codeAny (model X.prog X.w) X.A (.builtin "min.loop" ⟨[.ref s2.heap.objs.size,.ref f,.ref (s2.heap.push { cls:=.type "list_iterator",data:=.fields #[.ref l,.int 0 0] }).objs.size],[]⟩) _ _
rw[←eS,←eJ]
rw[←eJ]at gI
clear hS eS eJ
obtain⟨h3,eh⟩:∃h3,h3=(s2.heap.push { cls:=.type "list_iterator",data:=.fields #[.ref l,.int 0 0] }).push (seqObj "list" #[] 0):=⟨_,rfl⟩
rw[←eh]at gS gI I3
show codeAny _ _ _ _ { s2 with heap:=(s2.heap.push { cls:=.type "list_iterator",data:=.fields #[.ref l,.int 0 0] }).push (seqObj "list" #[] 0) }
rw[←eh]
clear eh
obtain⟨its,rv,pl,hz⟩:=I3.list sq
have hlen:=rv.length
have W:=lI (prog:=X.prog) (w:=X.w) (A:=X.A.in1) hc' J l nl its.toArray
refine dC dN (id ?_)
rw[gR m9 _]
show wpAny _ X.A.in1 (seqItems? (.ref S) >>= _) _ (λ_ _=>_) _
refine hG (cN gS rfl ?_)
show wpAny _ X.A.in1 (tryCatch (pyNext (.ref J)) _ >>= _) _ (λ_ _=>_) _
refine hG (dO (W.item 0 _ _ _ (by rw[mB];omega) ⟨⟨_,gI,rfl,rfl⟩,pl.isList⟩ λv h1 t1 pv1 st1 kp=>?_))
have hv:its[0]?=some v:=by simpa using pv1
obtain⟨x0,ex,rx⟩:=rv.atN (j:=0) (by omega)
obtain rfl:its[0]=v:=(kB.mp hv).2
have J1:Inv X pins σ H2 { s2 with heap:=h1,toks:=t1 }:=Inv.turnedN (s:={ s2 with heap:=h3 }) (fp:=[J]) I3 kp (λb hb=>by rw[kD.mp hb];exact fJ)
have gS1:=kp S _ (λz=>nSJ (kD.mp z)) gS
obtain⟨oI,gI1,hoc,hod⟩:=id st1.1
have J2:=(J1.near (A':=X.A.in1) rfl rfl λ_ _=>False).pinned (fp:=[J,S]) (λb hb'=>by
 simp only[kM,gX,cW]at hb';rcases hb' with rfl|rfl
 ·exact fJ
 ·exact fS) (λb hb'=>by
 simp only[kM,gX,cW]at hb';rcases hb' with rfl|rfl
 ·exact⟨_,gI1,λv z=>by rw[hod]at z;cases z⟩
 exact⟨_,gS1,λv z=>by cases z⟩)
have hs':∀i x zs H' pins' s' u,us'[i]?=some x→RelV x u→Pv i zs H'→Inv { X with A:=X.A.in1,xe:=λ_ _=>False } pins' σ H' s'→wpAny (model X.prog X.w) X.A.in1 (call (.ref f) [u]) (EP { X with A:=X.A.in1,xe:=λ_ _=>False } pins' σ (λz H''=>Pv (i+1) (zs++[z]) H'')) (λ_ _=>False) s':=λi x zs H' pins' s' u hx rx pv I'=>qBM (X:={ X with A:=X.A.in1,xe:=λ_ _=>False }) (dvs:=[]) (ds:=[]) (E:=E0) ix hix F hr.in1 hb .nil qK I' (.cons rx .nil) (λbase' up cv=>hs base' i x zs H' cv hx pv)
show wpAny _ X.A.in1 (tryCatch (holding [its[0]] (call (.ref f) [its[0]])) _ >>= _) _ (λ_ _=>_) _
refine hG (dO (gG (gY (hs' 0 x0 [] H2 _ _ _ ex rx p0 J2) (λu s3 hq2=>?_) λ_ _ z=>z.elim)))
obtain⟨z,H3,J3,ru,pv2⟩:=hq2
have pI:=J3.pin (J,oI) (kQ _ (kQ _ (yC (by simp) gI1)))
have pS:=J3.pin (S,seqObj "list" #[] 0) (kQ _ (kQ _ (yC (by simp) gS1)))
have J4:Inv X pins σ H3 s3:=(J3.unpinned).near (A':=X.A) rfl rfl X.xe
show wpAny _ X.A.in1 (updateSeq S (λ_=>#[its[0],u]) >>= _) _ (λ_ _=>_) _
refine hG (wX pS.1 rfl ?_)
rw[nm]
obtain⟨c2,g2⟩:∃c2,(s3.heap.update S (Obj.mapSeq λ_=>#[its[0],u])).get? S=some (seqObj "list" #[its[0],u] c2):=⟨_,wU pS.1 λ_=>#[its[0],u]⟩
have J5:Inv X pins σ H3 { s3 with heap:=s3.heap.update S (Obj.mapSeq λ_=>#[its[0],u]),toks:=s3.toks }:=J4.turnedN (fp:=[S]) (λb o hb e=>(kY _ _ (λz=>hb (kD.mpr z.symm))).trans e) (λb hb=>by rw[kD.mp hb];exact hS' _ pS.2.1)
refine kL ⟨d7 m9 _,qGW hc' hu Pv hq nl nSJ nlS hJ hS' hs' (λi v zs H' s' a1 a2 a3 a4 a5=>?_) (us'.length-1) 1 0 _ H3 _ its[0] u c2 (by omega) (by omega) J5 pv2 pI.2.1 pS.2.1 ⟨oI,(kY _ _ nSJ).trans pI.1,hoc,hod⟩ g2 ?_ ?_ λj' hj'=>?_⟩
·exact⟨_,H',a5,a2,hd i zs H' a1 a3 a4⟩
·rw[kJ,ex];exact rx
·exact ru
obtain rfl:j'=0:=by omega
exact q2H _)
end L2
namespace L2
open PySem
theorem q23{K:PySem.W.Frag}{a:Addr}{xs:List V}{g:TG}{tb:TS}{D:Ends}{σ:St}{H:Hp}(Pv:Nat→St→Hp→Prop)(h0:Pv 0 σ H)(hl:∀i σ H,i≤xs.length→Pv i σ H→SqL K H a xs)
 (hs:∀i x σ H (D':Ends),(∀σ' H',Pv (i+1) σ' H'→D'.nx σ' H')→xs[i]?=some x→Pv i σ H→g x σ H λσ2 H2=>tb D' σ2 H2) (hd:∀σ H,Pv xs.length σ H→D.nx σ H):
 ∃W:Nat→Nat→St→Hp→Prop,(∃m,W 0 m σ H)∧∀i m σ H,W i m σ H→((Itl K a).stop i H∧D.nx σ H)∨((Itl K a).go i H∧∃N:St→Hp→Prop,(∀σ' H',N σ' H'→∃m',m'<m∧W (i+1) m' σ' H')∧∀x H',(Itl K a).yld i H x H'→g x σ H' λσ2 H2=>tb { D with nx:=N,ct:=N,bk:=D.nx } σ2 H2):=zP Pv h0 hl (λi x σ H hx p=>hs i x σ H _ (λ_ _ q=>q) hx p) hd
theorem qAR{lo:Int}{n:Nat}{g:TG}{tb:TS}{D:Ends}{σ:St}{H:Hp}(Pv:Nat→St→Hp→Prop)(h0:Pv 0 σ H)
 (hs:∀i σ H (D':Ends),(∀σ' H',Pv (i+1) σ' H'→D'.nx σ' H')→i<n→Pv i σ H→g (.int (lo+i)) σ H λσ2 H2=>tb D' σ2 H2) (hd:∀σ H,Pv n σ H→D.nx σ H):
 ∃W:Nat→Nat→St→Hp→Prop,(∃m,W 0 m σ H)∧∀i m σ H,W i m σ H→((Itr lo n).stop i H∧D.nx σ H)∨((Itr lo n).go i H∧∃N:St→Hp→Prop,(∀σ' H',N σ' H'→∃m',m'<m∧W (i+1) m' σ' H')∧∀x H',(Itr lo n).yld i H x H'→g x σ H' λσ2 H2=>tb { D with nx:=N,ct:=N,bk:=D.nx } σ2 H2):=q6M Pv h0 (λi σ H hx p=>hs i σ H _ (λ_ _ q=>q) hx p) hd
theorem iV{σ:St}{i:Nat}{v:V}{Q:V→Prop}(e:σ[i]?=some (some v))(q:Q v):∃v,σ[i]?=some (some v)∧Q v:=⟨v,e,q⟩
theorem iF{K:PySem.W.Frag}{H:Hp}{f:Str}{a C d:Addr}{fs:List (Str×V)}{v:V}{Q:V→Prop}(o:H a=some (.ins C d fs))(cl:Cls K C)(na:qN K C f)(lk:fs.lookup f=some v)(q:Q v):
 ∃a' C dx fs v,V.ref a=.ref a'∧H a'=some (.ins C dx fs)∧Cls K C∧qN K C f∧fs.lookup f=some v∧Q v:=⟨a,C,d,fs,v,rfl,o,cl,na,lk,q⟩
theorem iM{H:Hp}{m:Str}{a C d:Addr}{fs:List (Str×V)}{q:Prop}(o:H a=some (.ins C d fs))(lk:fs.lookup m=none)(k:q):
 ∃a' dx fs,V.ref a=.ref a'∧H a'=some (.ins C dx fs)∧fs.lookup m=none∧q:=⟨a,d,fs,rfl,o,lk,k⟩
theorem iI{i j:Int}{Q:Int→Int→Prop}(q:Q i j):∃i' j',V.int i=.int i'∧V.int j=.int j'∧Q i' j':=⟨i,j,rfl,rfl,q⟩
theorem iL{K:PySem.W.Frag}{H:Hp}{p:Addr}{xs:List V}{k:Int}{v:V}{Q:V→Prop}(h:SqL K H p xs)(e:atI xs k=some v)(q:Q v):∃p' xs k' v,V.ref p=.ref p'∧V.int k=.int k'∧SqL K H p' xs∧atI xs k'=some v∧Q v:=⟨p,xs,k,v,rfl,rfl,h,e,q⟩
theorem iT{K:PySem.W.Frag}{H:Hp}{p:Addr}{xs:List V}{k:Int}{v:V}{Q:V→Prop}(h:SqT K H p xs)(e:atI xs k=some v)(q:Q v):∃p' xs k' v,V.ref p=.ref p'∧V.int k=.int k'∧SqT K H p' xs∧atI xs k'=some v∧Q v:=⟨p,xs,k,v,rfl,rfl,h,e,q⟩
end L2
namespace L2
open PySem PySem.Spec PyProof.Rows
structure Fn1(K:PySem.W.Frag)(x q:Str)(st:Stmt)(f:Addr)(ps:List Str) where
fd:FuncData
F:FunD K x q st .none f fd
b:jO K fd ps []
noncomputable abbrev Fn1.Ok0{K:PySem.W.Frag}{x q:Str}{st:Stmt}{f:Addr}{ps:List Str}(F:Fn1 K x q st f ps)(P:Program)(w:World)(mg:Str→Option Value)(base:Heap)(k:Nat)(sp:Sp):Prop:=FnOk P w K mg base CX0 k f F.fd ps sp
noncomputable abbrev Fn1.OkE{K:PySem.W.Frag}{x q:Str}{st:Stmt}{f:Addr}{ps:List Str}(F:Fn1 K x q st f ps)(P:Program)(w:World)(mg:Str→Option Value)(base:Heap)(k:Nat)(sp:Sp):Prop:=FnOk P w K mg base (CXe P w) k f F.fd ps sp
noncomputable abbrev FnX(K:PySem.W.Frag)(x q:Str)(st:Stmt)(f:Addr):Prop:=∃fd,FunD K x q st .none f fd
section
variable{K:PySem.W.Frag}{x q:Str}{st:Stmt}{f:Addr}{ps:List Str}
noncomputable def BnX(x q:Str)(st:Stmt)(ps:List Str):Prop:=∀(kV doc pm:Value) (an:Option Addr) (cdv ct:Value) (us:List Value),us.length=ps.length→bindArgs (PySem.W.fnOf x q (jZ st) (jL st) (qE st) .none kV doc pm an cdv ct) ⟨us,[]⟩=pure (ps.zip us)
theorem fn1b(h:BnX x q st ps){fd:FuncData}(F:FunD K x q st .none f fd):jO K fd ps []:=by obtain⟨oc,od,kV,doc,pm,an,cdv,ct,osl,rfl,lk,hcd⟩:=F.ex;exact jO.all λus hl=>h kV doc pm an cdv ct us hl
theorem lnx{us:List Value}{n:Nat}(h:us.length=n):us=(List.range n).map (us.getD · .none):=by subst h;refine wI (by simp) λi h1 h2=>?_;simp[hX h1]
theorem bnx(h:∀kV doc pm an cdv ct (g:Nat→Value),bindArgs (PySem.W.fnOf x q (jZ st) (jL st) (qE st) .none kV doc pm an cdv ct) ⟨(List.range ps.length).map g,[]⟩=pure (ps.zip ((List.range ps.length).map g))):BnX x q st ps:=λkV doc pm an cdv ct us hl=>by rw[lnx hl];exact h ..
noncomputable def fn1 (l:FnX K x q st f) (h:∀kV doc pm an cdv ct (g:Nat→Value),bindArgs (PySem.W.fnOf x q (jZ st) (jL st) (qE st) .none kV doc pm an cdv ct) ⟨(List.range ps.length).map g,[]⟩=pure (ps.zip ((List.range ps.length).map g)):=by intros;rfl):Fn1 K x q st f ps:=⟨l.choose,l.choose_spec,fn1b (bnx h) l.choose_spec⟩
theorem FnX.bind1{a:Str}{fd:FuncData}(h:∀kV doc pm an cdv ct u,bindArgs (PySem.W.fnOf x q (jZ st) (jL st) (qE st) .none kV doc pm an cdv ct) ⟨[u],[]⟩=pure [(a,u)])(F:FunD K x q st .none f fd)(s:Shared)(v:Value):BindsTo s fd ⟨[v],[]⟩ [(a,v)]:=by obtain⟨oc,od,kV,doc,pm,an,cdv,ct,osl,rfl,lk,hcd⟩:=F.ex;exact .of_eq (h kV doc pm an cdv ct v)
theorem FnX.of{oc:Value}{od an:Option Addr}{osl:Array (Option Value)}{kV doc pm cdv ct:Value}(l:K.lookup f=some ⟨oc,od,.func (PySem.W.fnOf x q (jZ st) (jL st) (qE st) .none kV doc pm an cdv ct),osl⟩)(c:PySem.W.codeIn K cdv q=true):FnX K x q st f:=⟨_,FunD.mk' l c⟩
theorem qO{N P:List Str}{sc:Scope}(h:(sc.kind=.function∧sc.isCoroutine=false∧sc.isGenerator=false)∧N.Nodup∧N.take P.length=P∧(∀x∈P,sc.names.lookup x=some .local∨sc.names.lookup x=some .cell)∧∀y∈sc.names,y.2≠ .free):FnScope N P sc:=⟨h.1.1,h.1.2.1,h.1.2.2,h.2.1,h.2.2.1,h.2.2.2.1,h.2.2.2.2⟩
end
noncomputable abbrev GFn(K:PySem.W.Frag)(n:Str)(f:Addr):Prop:=PySem.W.nsIn K mainGlobals n=some (some (.ref f))∧PySem.W.keepIn K (.ref f)=true
theorem sz0:0≤sizeLine:=by decide
theorem sz1:1≤sizeLine:=by decide
theorem sz2:2≤sizeLine:=by decide
theorem sz3:3≤sizeLine:=by decide
theorem sz4:4≤sizeLine:=by decide
theorem sz5:5≤sizeLine:=by decide
end L2
namespace W1
open PySem L2
noncomputable def top(i:Nat):Stmt:=PySem.Challenge.pw_wornpages_k44_changes.main.body.getD i (.Pass ⟨0,0,0,0⟩)
noncomputable abbrev q2I:Stmt:=(top 15)
noncomputable abbrev q13:Stmt:=(top 16)
noncomputable abbrev q2J:Stmt:=(top 17)
noncomputable abbrev q2K:Stmt:=(top 18)
noncomputable abbrev q3P:Stmt:=(top 22)
noncomputable abbrev q3Q:Stmt:=(top 23)
noncomputable abbrev q14:Stmt:=(qL (top 25) 0)
noncomputable abbrev q15:Stmt:=(qL (top 25) 1)
noncomputable abbrev q16:Stmt:=(qL (top 25) 2)
noncomputable abbrev vZ:Stmt:=(qL (top 25) 3)
noncomputable abbrev vI:Stmt:=(qL (top 25) 4)
noncomputable abbrev uF:Stmt:=(qL (top 25) 6)
noncomputable abbrev q17:Stmt:=(qL (top 25) 7)
noncomputable abbrev q0A:Stmt:=(qL (top 27) 0)
noncomputable abbrev q0B:Stmt:=(qL (top 27) 1)
noncomputable abbrev jM:Stmt:=(qL (top 27) 2)
noncomputable abbrev q0C:Stmt:=(qL (top 27) 3)
noncomputable abbrev q0D:Stmt:=(qL (top 27) 4)
noncomputable abbrev zA:Stmt:=(qL (top 27) 6)
noncomputable abbrev uO:Stmt:=(qL (top 27) 8)
noncomputable abbrev q18:Stmt:=(qL (top 27) 9)
noncomputable abbrev zB:Stmt:=(qL (top 27) 10)
noncomputable abbrev q0E:Stmt:=(qL (top 27) 13)
noncomputable abbrev yQ:Stmt:=(qL (top 27) 14)
noncomputable abbrev yR:Stmt:=(qL (top 27) 15)
noncomputable abbrev q2L:Stmt:=(top 29)
noncomputable abbrev q0F:Stmt:=(qL (top 30) 0)
noncomputable abbrev uZ:Stmt:=(qL (top 30) 2)
noncomputable abbrev zC:Stmt:=(qL (top 30) 3)
noncomputable abbrev zD:Stmt:=(qL (top 30) 4)
noncomputable abbrev uG:Stmt:=(qL (top 30) 5)
noncomputable abbrev yG:Stmt:=(qL (top 30) 6)
noncomputable abbrev yH:Stmt:=(qL (top 30) 9)
noncomputable abbrev zE:Stmt:=(qL (top 30) 10)
noncomputable abbrev yK:Stmt:=(qL (top 30) 11)
noncomputable abbrev zF:Stmt:=(qL (top 30) 12)
noncomputable abbrev uH:Stmt:=(qL (top 30) 13)
noncomputable abbrev uI:Stmt:=(qL (top 30) 14)
noncomputable abbrev yZ:Stmt:=(qL (top 30) 15)
noncomputable abbrev u6:Stmt:=(qL (top 30) 16)
noncomputable abbrev q0G:Stmt:=(qL (top 32) 0)
noncomputable abbrev uP:Stmt:=(qL (top 32) 2)
noncomputable abbrev vJ:Stmt:=(qL (top 32) 3)
noncomputable abbrev zG:Stmt:=(qL (top 32) 4)
noncomputable abbrev qP:Stmt:=(qL (top 32) 5)
noncomputable abbrev vK:Stmt:=(qL (top 32) 6)
noncomputable abbrev zH:Stmt:=(qL (top 32) 7)
noncomputable abbrev q19:Stmt:=(top 34)
noncomputable abbrev uB:Stmt:=(qL (top 35) 0)
noncomputable abbrev q2M:Stmt:=(qL (top 35) 1)
noncomputable abbrev q1A:Stmt:=(qL (top 35) 2)
noncomputable abbrev q1B:Stmt:=(qL (top 35) 3)
noncomputable abbrev vL:Stmt:=(qL (top 35) 6)
noncomputable abbrev vM:Stmt:=(qL (top 35) 7)
noncomputable abbrev zI:Stmt:=(qL (top 35) 8)
noncomputable abbrev uJ:Stmt:=(qL (top 35) 10)
noncomputable abbrev u7:Stmt:=(qL (top 35) 11)
noncomputable abbrev u8:Stmt:=(qL (top 35) 12)
noncomputable abbrev uK:Stmt:=(qL (top 35) 13)
noncomputable abbrev v3:Stmt:=(qL (top 35) 14)
noncomputable abbrev vO:Stmt:=(qL (top 35) 15)
noncomputable abbrev zJ:Stmt:=(top 37)
noncomputable abbrev uQ:Stmt:=(top 38)
noncomputable abbrev zK:Stmt:=(qL (top 39) 1)
noncomputable abbrev yS:Stmt:=(qL (top 40) 0)
noncomputable abbrev yP:Stmt:=(qL (top 42) 0)
noncomputable abbrev vP:Stmt:=(qL (top 42) 1)
noncomputable abbrev zL:Stmt:=(top 44)
noncomputable abbrev q1C:Stmt:=(top 45)
noncomputable abbrev q1D:Stmt:=(top 46)
noncomputable abbrev q1E:Stmt:=(top 47)
noncomputable abbrev q2N:Stmt:=(top 48)
noncomputable abbrev q2O:Stmt:=(top 49)
noncomputable abbrev q3R:Stmt:=(top 50)
noncomputable abbrev q1F:Stmt:=(top 51)
noncomputable abbrev qF5:Stmt:=(top 52)
set_option genInjectivity false in
structure Adr where
(f_is_whole f_is_within f_is_shape f_is_value f_mark_of f_bits_of f_Book_init f_Book_mark f_Book_note f_Book_forget f_Book_emptied f_Book_live_pages f_Book_held f_Plain_init f_Plain_good f_Plain_free f_Plain_part f_Plain_spot f_Plain_ready f_Plain_set_down f_Plain_lay f_Plain_write f_Plain_held f_Plain_check_sheet f_Plain_check_share f_paper_of f_Store_init f_Store_reserve f_Store_tally f_Store_space f_Store_full_ones f_Store_with_dead_page f_Store_choice_by_rule f_Store_moved f_Store_value_to_move f_Store_wiped f_Store_clear_out f_Store_make_room f_Store_make_ready f_Store_make_rooms f_Even_least f_Even_clearable f_Even_options f_Even_choice f_Even_block_to_change f_Even_changes f_Even_takers f_limits_of f_Chip_init f_Chip_put f_Chip_wipe f_Chip_read f_Chip_is_dark f_Chip_cleared f_Chip_failed f_Chip_check_page f_Chip_check_block f_Chip_check_power f_Chip_check_deed f_Chip_is_spent f_Chip_do_deed f_is_unbeaten f_first_unbeaten f_Rule_choose f_Fewest_goes_ahead f_Terms_init f_Terms_closed f_law_cell_at f_law_whole f_law_shape f_law_names f_law_pick f_law_made f_law_due f_law_right f_law C_Book C_Plain C_Even C_Chip C_Fewest C_Terms C_PowerGone C_NoRoom:Addr)
i8:Tok
aB4:Tok
aA7:Tok
aAZ:Addr
eT:Addr
iH:Addr
eU:Addr
structure Txt(K:W.Frag)(mg:Str→Option Value)(t:Adr):Prop where
aD6:mg "Book"=some (.ref t.C_Book)
e9:Cls K t.C_Book
aBV:qN K t.C_Book "blocks"
iZ:qN K t.C_Book "pages"
iC:qN K t.C_Book "stamp"
fV:qN K t.C_Book "where"
i7:qN K t.C_Book "live"
fF:qN K t.C_Book "filled"
oA:qN K t.C_Book "born"
aC7:Meth K t.C_Book "mark" t.f_Book_mark
aDD:Meth K t.C_Book "note" t.f_Book_note
aB9:Meth K t.C_Book "forget" t.f_Book_forget
aBR:Meth K t.C_Book "emptied" t.f_Book_emptied
aAT:Meth K t.C_Book "live_pages" t.f_Book_live_pages
aDE:Meth K t.C_Book "held" t.f_Book_held
aD4:Mk K t.C_Book t.f_Book_init
aD1:mg "Plain"=some (.ref t.C_Plain)
aEB:mg "Even"=some (.ref t.C_Even)
eW:Cls K t.C_Even
fM:qN K t.C_Even "chip"
fA:qN K t.C_Even "terms"
fB:qN K t.C_Even "book"
aAY:qN K t.C_Even "rule"
iP:qN K t.C_Even "papers"
aCF:Meth K t.C_Even "least" t.f_Even_least
oU:Meth K t.C_Even "clearable" t.f_Even_clearable
tW:Meth K t.C_Even "options" t.f_Even_options
aCA:Meth K t.C_Even "choice" t.f_Even_choice
oY:Meth K t.C_Even "block_to_change" t.f_Even_block_to_change
oK:Meth K t.C_Even "changes" t.f_Even_changes
aB5:Meth K t.C_Even "takers" t.f_Even_takers
tQ:Meth K t.C_Even "reserve" t.f_Store_reserve
aCM:Meth K t.C_Even "tally" t.f_Store_tally
aCN:Meth K t.C_Even "space" t.f_Store_space
oW:Meth K t.C_Even "full_ones" t.f_Store_full_ones
o9:Meth K t.C_Even "with_dead_page" t.f_Store_with_dead_page
tE:Meth K t.C_Even "choice_by_rule" t.f_Store_choice_by_rule
aCU:Meth K t.C_Even "moved" t.f_Store_moved
tN:Meth K t.C_Even "value_to_move" t.f_Store_value_to_move
aCH:Meth K t.C_Even "wiped" t.f_Store_wiped
aA6:Meth K t.C_Even "clear_out" t.f_Store_clear_out
oX:Meth K t.C_Even "make_room" t.f_Store_make_room
aAV:Meth K t.C_Even "make_ready" t.f_Store_make_ready
aAN:Meth K t.C_Even "make_rooms" t.f_Store_make_rooms
oS:Meth K t.C_Even "good" t.f_Plain_good
aAB:Meth K t.C_Even "free" t.f_Plain_free
aAF:Meth K t.C_Even "part" t.f_Plain_part
aC1:Meth K t.C_Even "spot" t.f_Plain_spot
aCK:Meth K t.C_Even "ready" t.f_Plain_ready
aBA:Meth K t.C_Even "set_down" t.f_Plain_set_down
aBW:Meth K t.C_Even "lay" t.f_Plain_lay
aA3:Meth K t.C_Even "write" t.f_Plain_write
aBI:Meth K t.C_Even "held" t.f_Plain_held
aAI:Meth K t.C_Even "check_sheet" t.f_Plain_check_sheet
aAJ:Meth K t.C_Even "check_share" t.f_Plain_check_share
aD9:Mk K t.C_Even t.f_Store_init
aD8:mg "Chip"=some (.ref t.C_Chip)
eZ:Cls K t.C_Chip
fY:qN K t.C_Chip "blocks"
fO:qN K t.C_Chip "pages"
aAW:qN K t.C_Chip "most"
tU:qN K t.C_Chip "limits"
f8:qN K t.C_Chip "borne"
fU:qN K t.C_Chip "clearings"
i4:qN K t.C_Chip "deed_counts"
oJ:qN K t.C_Chip "broken"
fR:qN K t.C_Chip "deeds_left"
tT:qN K t.C_Chip "record"
aDJ:Meth K t.C_Chip "put" t.f_Chip_put
aCW:Meth K t.C_Chip "wipe" t.f_Chip_wipe
aCZ:Meth K t.C_Chip "read" t.f_Chip_read
aBT:Meth K t.C_Chip "is_dark" t.f_Chip_is_dark
oF:Meth K t.C_Chip "cleared" t.f_Chip_cleared
aB1:Meth K t.C_Chip "failed" t.f_Chip_failed
oO:Meth K t.C_Chip "check_page" t.f_Chip_check_page
iE:Meth K t.C_Chip "check_block" t.f_Chip_check_block
i9:Meth K t.C_Chip "check_power" t.f_Chip_check_power
oM:Meth K t.C_Chip "check_deed" t.f_Chip_check_deed
tD:Meth K t.C_Chip "is_spent" t.f_Chip_is_spent
tP:Meth K t.C_Chip "do_deed" t.f_Chip_do_deed
aD5:Mk K t.C_Chip t.f_Chip_init
aDP:mg "Fewest"=some (.ref t.C_Fewest)
aCE:Cls K t.C_Fewest
tX:Meth K t.C_Fewest "goes_ahead" t.f_Fewest_goes_ahead
aBH:Meth K t.C_Fewest "choose" t.f_Rule_choose
aDL:Mk0 K t.C_Fewest
aD2:mg "Terms"=some (.ref t.C_Terms)
fE:Cls K t.C_Terms
iA:qN K t.C_Terms "blocks"
fD:qN K t.C_Terms "pages"
o8:qN K t.C_Terms "sheets"
tV:qN K t.C_Terms "share"
tK:qN K t.C_Terms "ill"
tI:qN K t.C_Terms "spread"
aBS:Meth K t.C_Terms "closed" t.f_Terms_closed
aDY:Mk K t.C_Terms t.f_Terms_init
aCD:mg "PowerGone"=some (.ref t.C_PowerGone)
aC2:XCls K t.C_PowerGone
aCQ:mg "NoRoom"=some (.ref t.C_NoRoom)
aDX:XCls K t.C_NoRoom
aDU:ClM K t.C_Plain "__init__" t.f_Plain_init
aA5:W.exmOne K (.ref t.C_NoRoom) (.ref t.C_NoRoom)=some true
aB0:W.codeHdIn K t.aAZ t.eT=true
oP:W.codeHdIn K t.iH t.eU=true
tS:t.eT≠t.eU
aC8:mg "is_whole"=some (.ref t.f_is_whole)
aC5:W.keepIn K (.ref t.f_is_whole)=true
fG:mg "is_within"=some (.ref t.f_is_within)
fH:W.keepIn K (.ref t.f_is_within)=true
aBF:mg "is_shape"=some (.ref t.f_is_shape)
aBG:W.keepIn K (.ref t.f_is_shape)=true
aC6:mg "is_value"=some (.ref t.f_is_value)
aCY:W.keepIn K (.ref t.f_is_value)=true
aDK:mg "mark_of"=some (.ref t.f_mark_of)
aDH:W.keepIn K (.ref t.f_mark_of)=true
aDM:mg "bits_of"=some (.ref t.f_bits_of)
aDG:W.keepIn K (.ref t.f_bits_of)=true
aBE:mg "paper_of"=some (.ref t.f_paper_of)
aBP:W.keepIn K (.ref t.f_paper_of)=true
aCL:mg "limits_of"=some (.ref t.f_limits_of)
aCJ:W.keepIn K (.ref t.f_limits_of)=true
aBU:mg "is_unbeaten"=some (.ref t.f_is_unbeaten)
aBQ:W.keepIn K (.ref t.f_is_unbeaten)=true
aAR:mg "first_unbeaten"=some (.ref t.f_first_unbeaten)
aAP:W.keepIn K (.ref t.f_first_unbeaten)=true
fI:mg "_law_cell_at"=some (.ref t.f_law_cell_at)
fK:W.keepIn K (.ref t.f_law_cell_at)=true
aAX:mg "_law_whole"=some (.ref t.f_law_whole)
aA0:W.keepIn K (.ref t.f_law_whole)=true
aCG:mg "_law_shape"=some (.ref t.f_law_shape)
aCI:W.keepIn K (.ref t.f_law_shape)=true
aCT:mg "_law_names"=some (.ref t.f_law_names)
aCO:W.keepIn K (.ref t.f_law_names)=true
aDB:mg "_law_pick"=some (.ref t.f_law_pick)
aC0:W.keepIn K (.ref t.f_law_pick)=true
aC4:mg "_law_made"=some (.ref t.f_law_made)
aC9:W.keepIn K (.ref t.f_law_made)=true
aDI:mg "_law_due"=some (.ref t.f_law_due)
aDN:W.keepIn K (.ref t.f_law_due)=true
aA2:mg "_law_right"=some (.ref t.f_law_right)
aA1:W.keepIn K (.ref t.f_law_right)=true
aA4:mg "MOST_TOLD"=some (.int 1000000 t.i8)
aDO:mg "ROLL"=some (.int 64 t.aB4)
aDV:mg "NAMES"=some (.int 128 t.aA7)
aD3:mg "bool"=none
aED:mg "int"=none
fT:mg "isinstance"=none
aB7:mg "len"=none
aDF:mg "list"=none
aD0:mg "min"=none
aBY:mg "range"=none
aEC:mg "set"=none
aAL:mg "sorted"=none
aD7:mg "tuple"=none
set_option genInjectivity false
structure Fns(K:W.Frag)(t:Adr) where
aBZ:Fn1 K "is_whole" "is_whole" q2I t.f_is_whole ["thing"]
fL:Fn1 K "is_within" "is_within" q13 t.f_is_within ["thing","low","high"]
aA8:Fn1 K "is_shape" "is_shape" q2J t.f_is_shape ["blocks","pages"]
aBX:Fn1 K "is_value" "is_value" q2K t.f_is_value ["thing"]
aCX:Fn1 K "mark_of" "mark_of" q3P t.f_mark_of ["stamp","name"]
aDC:Fn1 K "bits_of" "bits_of" q3Q t.f_bits_of ["sheets"]
aBJ:Fn1 K "__init__" "Book.__init__" q14 t.f_Book_init ["self","blocks","pages"]
aBN:Fn1 K "mark" "Book.mark" q15 t.f_Book_mark ["self","name"]
aBL:Fn1 K "note" "Book.note" q16 t.f_Book_note ["self","page","name"]
aAC:Fn1 K "forget" "Book.forget" vZ t.f_Book_forget ["self","name"]
tJ:Fn1 K "emptied" "Book.emptied" vI t.f_Book_emptied ["self","block"]
i5:Fn1 K "live_pages" "Book.live_pages" uF t.f_Book_live_pages ["self","block"]
aBM:Fn1 K "held" "Book.held" q17 t.f_Book_held ["self"]
aAS:Fn1 K "__init__" "Plain.__init__" q0A t.f_Plain_init ["self","chip","terms"]
i3:Fn1 K "good" "Plain.good" q0B t.f_Plain_good ["self"]
oQ:FuncData
aCV:FunT K "free" "Plain.free" jM t.aAZ t.f_Plain_free oQ
o7:jO K oQ ["self"] []
oN:Fn1 K "part" "Plain.part" q0C t.f_Plain_part ["self"]
aAO:Fn1 K "spot" "Plain.spot" q0D t.f_Plain_spot ["self"]
aAA:Fn1 K "ready" "Plain.ready" zA t.f_Plain_ready ["self"]
oH:Fn1 K "set_down" "Plain.set_down" uO t.f_Plain_set_down ["self","name","value"]
aAH:Fn1 K "lay" "Plain.lay" q18 t.f_Plain_lay ["self","name","value"]
oR:Fn1 K "write" "Plain.write" zB t.f_Plain_write ["self","sheet","value"]
tM:Fn1 K "held" "Plain.held" q0E t.f_Plain_held ["self"]
iN:Fn1 K "check_sheet" "Plain.check_sheet" yQ t.f_Plain_check_sheet ["self","sheet"]
iJ:Fn1 K "check_share" "Plain.check_share" yR t.f_Plain_check_share ["self","sheet"]
aA9:Fn1 K "paper_of" "paper_of" q2L t.f_paper_of ["why","options","block","moved","wiped"]
aAQ:Fn1 K "__init__" "Store.__init__" q0F t.f_Store_init ["self","chip","terms","rule"]
iX:Fn1 K "reserve" "Store.reserve" uZ t.f_Store_reserve ["self"]
t8:Fn1 K "tally" "Store.tally" zC t.f_Store_tally ["self","block"]
aAG:Fn1 K "space" "Store.space" zD t.f_Store_space ["self"]
iD:Fn1 K "full_ones" "Store.full_ones" uG t.f_Store_full_ones ["self"]
fX:Fn1 K "with_dead_page" "Store.with_dead_page" yG t.f_Store_with_dead_page ["self"]
fW:Fn1 K "choice_by_rule" "Store.choice_by_rule" yH t.f_Store_choice_by_rule ["self","options"]
t6:Fn1 K "moved" "Store.moved" zE t.f_Store_moved ["self","block"]
f6:Fn1 K "value_to_move" "Store.value_to_move" yK t.f_Store_value_to_move ["self","page","name"]
aAE:Fn1 K "wiped" "Store.wiped" zF t.f_Store_wiped ["self","block"]
i6:Fn1 K "clear_out" "Store.clear_out" uH t.f_Store_clear_out ["self","block"]
f7:Fn1 K "make_room" "Store.make_room" uI t.f_Store_make_room ["self"]
iW:Fn1 K "make_ready" "Store.make_ready" yZ t.f_Store_make_ready ["self"]
iU:Fn1 K "make_rooms" "Store.make_rooms" u6 t.f_Store_make_rooms ["self"]
aAU:Fn1 K "least" "Even.least" q0G t.f_Even_least ["self"]
iO:Fn1 K "clearable" "Even.clearable" uP t.f_Even_clearable ["self","tallies"]
oC:Fn1 K "options" "Even.options" vJ t.f_Even_options ["self"]
t7:Fn1 K "choice" "Even.choice" zG t.f_Even_choice ["self"]
fN:FuncData
oZ:FunT K "block_to_change" "Even.block_to_change" qP t.iH t.f_Even_block_to_change fN
o6:jO K fN ["self"] []
iR:Fn1 K "changes" "Even.changes" vK t.f_Even_changes ["self"]
tZ:Fn1 K "takers" "Even.takers" zH t.f_Even_takers ["self","moved"]
aBO:Fn1 K "limits_of" "limits_of" q19 t.f_limits_of ["ills","blocks"]
iQ:FuncData
aCR:Value
aDA:FunD K "__init__" "Chip.__init__" uB aCR t.f_Chip_init iQ
aEA:jO K iQ ["self","blocks","pages","most","ills"] []
tR:List Value
aDZ:jO K iQ ["self","blocks","pages","most","ills"] tR
aDW:Vals [.non] tR
tO:List Value
aCB:jO K iQ ["self","blocks","pages","most","ills"] tO
aB8:Vals [.int 1000000,.non] tO
aB2:Fn1 K "put" "Chip.put" q2M t.f_Chip_put ["self","page","stuff"]
aBD:Fn1 K "wipe" "Chip.wipe" q1A t.f_Chip_wipe ["self","block"]
aBB:Fn1 K "read" "Chip.read" q1B t.f_Chip_read ["self","page"]
tH:Fn1 K "is_dark" "Chip.is_dark" vL t.f_Chip_is_dark ["self"]
iS:Fn1 K "cleared" "Chip.cleared" vM t.f_Chip_cleared ["self","block"]
tY:Fn1 K "failed" "Chip.failed" zI t.f_Chip_failed ["self","block"]
f9:Fn1 K "check_page" "Chip.check_page" uJ t.f_Chip_check_page ["self","page"]
fQ:Fn1 K "check_block" "Chip.check_block" u7 t.f_Chip_check_block ["self","block"]
fZ:Fn1 K "check_power" "Chip.check_power" u8 t.f_Chip_check_power ["self"]
iG:Fn1 K "check_deed" "Chip.check_deed" uK t.f_Chip_check_deed ["self","block"]
iY:Fn1 K "is_spent" "Chip.is_spent" v3 t.f_Chip_is_spent ["self","block"]
oE:Fn1 K "do_deed" "Chip.do_deed" vO t.f_Chip_do_deed ["self","word","place","block","fails"]
aAD:Fn1 K "is_unbeaten" "is_unbeaten" zJ t.f_is_unbeaten ["rule","tally","tallies","pages","now"]
oG:Fn1 K "first_unbeaten" "first_unbeaten" uQ t.f_first_unbeaten ["rule","tallies","pages","now"]
t9:Fn1 K "choose" "Rule.choose" zK t.f_Rule_choose ["self","tallies","pages","now"]
iK:Fn1 K "goes_ahead" "Fewest.goes_ahead" yS t.f_Fewest_goes_ahead ["self","one","other","pages","now"]
iB:FuncData
aB6:Value
aCS:FunD K "__init__" "Terms.__init__" yP aB6 t.f_Terms_init iB
aCP:jO K iB ["self","blocks","pages","sheets","share","ill","spread"] []
tL:List Value
aDQ:jO K iB ["self","blocks","pages","sheets","share","ill","spread"] tL
aDS:Vals [.int 1000000] tL
tF:List Value
aDR:jO K iB ["self","blocks","pages","sheets","share","ill","spread"] tF
aDT:Vals [.int 0,.int 1000000] tF
tG:Fn1 K "closed" "Terms.closed" vP t.f_Terms_closed ["self"]
fP:Fn1 K "_law_cell_at" "_law_cell_at" zL t.f_law_cell_at ["_law_script","_law_k"]
aAK:Fn1 K "_law_whole" "_law_whole" q1C t.f_law_whole ["_law_found"]
aBK:Fn1 K "_law_shape" "_law_shape" q1D t.f_law_shape ["_law_script"]
aBC:Fn1 K "_law_names" "_law_names" q1E t.f_law_names ["_law_script","_law_share"]
aCC:Fn1 K "_law_pick" "_law_pick" q2N t.f_law_pick ["_law_cell","_law_names_here"]
aB3:Fn1 K "_law_made" "_law_made" q2O t.f_law_made ["_law_store"]
aC3:Fn1 K "_law_due" "_law_due" q3R t.f_law_due ["_law_papers","_law_pages"]
aAM:Fn1 K "_law_right" "_law_right" q1F t.f_law_right ["_law_found","_law_due_here"]
law:Fn1 K "law" "law" qF5 t.f_law ["_law_script"]
structure HkE where
P:Program
w:World
K:W.Frag
mg:Str→Option Value
t:Adr
noncomputable def hkB(e:HkE):Prop:=∃(S:Fns e.K e.t) (base:Heap),Txt e.K e.mg e.t∧BmIn base e.mg∧¬S.law.Ok0 e.P e.w e.mg base 18 (q3N e.K [e.t.eT,e.t.eU])
instance:Nonempty HkE:=⟨⟨PySem.Challenge.pw_wornpages_k44_changes,⟨λ_ _=>0,{ strHash:=λ_=>0,shareClass:=λ_=>0,mergeTok:=id,idOf:=λ_=>0,idOfShared:=λ_ _=>0,followText:=λ_=>false,idOfImm:=λ_=>0 }⟩,[],λ_=>none,by constructor<;>exact(0:Nat)⟩⟩
@[irreducible] noncomputable def hkE:HkE:=Classical.epsilon hkB
noncomputable def P:Program:=hkE.P
noncomputable def w:World:=hkE.w
noncomputable def K:W.Frag:=hkE.K
noncomputable def mg:Str→Option Value:=hkE.mg
noncomputable def t:Adr:=hkE.t
section
variable{base:Heap}
theorem q9J:FnScope ["thing"] ["thing"] (qE q2I):=qO (by decide+kernel)
theorem q7W:FnScope ["thing","low","high"] ["thing","low","high"] (qE q13):=qO (by decide+kernel)
theorem q9K:FnScope ["blocks","pages"] ["blocks","pages"] (qE q2J):=qO (by decide+kernel)
theorem q9L:FnScope ["thing"] ["thing"] (qE q2K):=qO (by decide+kernel)
theorem qAS:FnScope ["stamp","name"] ["stamp","name"] (qE q3P):=qO (by decide+kernel)
theorem q0H:FnScope ["sheets","bits","sheet"] ["sheets"] (qE q3Q):=qO (by decide+kernel)
theorem q7X:FnScope ["self","blocks","pages"] ["self","blocks","pages"] (qE q14):=qO (by decide+kernel)
theorem q7Y:FnScope ["self","name"] ["self","name"] (qE q15):=qO (by decide+kernel)
theorem q39:FnScope ["self","page","name","block"] ["self","page","name"] (qE q16):=qO (by decide+kernel)
theorem q1G:FnScope ["self","name","page"] ["self","name"] (qE vZ):=qO (by decide+kernel)
theorem q43:FnScope ["self","block"] ["self","block"] (qE vI):=qO (by decide+kernel)
theorem q2P:FnScope ["self","block"] ["self","block"] (qE uF):=qO (by decide+kernel)
theorem q7Z:FnScope ["self"] ["self"] (qE q17):=qO (by decide+kernel)
theorem q66:FnScope ["self","chip","terms"] ["self","chip","terms"] (qE q0A):=qO (by decide+kernel)
theorem q67:FnScope ["self"] ["self"] (qE q0B):=qO (by decide+kernel)
theorem q2E:FnScope ["self","clear"] ["self"] (qE jM):=qO (by decide+kernel)
theorem q2F:FnScope ["self","block"] ["self"] (qE q0C):=qO (by decide+kernel)
theorem zM:FnScope ["self","part","free"] ["self"] (qE q0D):=qO (by decide+kernel)
theorem q1H:FnScope ["self","spare"] ["self"] (qE zA):=qO (by decide+kernel)
theorem vW:FnScope ["self","name","value","page"] ["self","name","value"] (qE uO):=qO (by decide+kernel)
theorem q80:FnScope ["self","name","value"] ["self","name","value"] (qE q18):=qO (by decide+kernel)
theorem q5J:FnScope ["self","sheet","value"] ["self","sheet","value"] (qE zB):=qO (by decide+kernel)
theorem q68:FnScope ["self"] ["self"] (qE q0E):=qO (by decide+kernel)
theorem q1I:FnScope ["self","sheet"] ["self","sheet"] (qE yQ):=qO (by decide+kernel)
theorem uX:FnScope ["self","sheet","held"] ["self","sheet"] (qE yR):=qO (by decide+kernel)
theorem q9M:FnScope ["why","options","block","moved","wiped"] ["why","options","block","moved","wiped"] (qE q2L):=qO (by decide+kernel)
theorem q69:FnScope ["self","chip","terms","rule"] ["self","chip","terms","rule"] (qE q0F):=qO (by decide+kernel)
theorem q3S:FnScope ["self"] ["self"] (qE uZ):=qO (by decide+kernel)
theorem q5K:FnScope ["self","block"] ["self","block"] (qE zC):=qO (by decide+kernel)
theorem q1J:FnScope ["self","part"] ["self"] (qE zD):=qO (by decide+kernel)
theorem yI:FnScope ["self","space","full","tallies"] ["self"] (qE uG):=qO (by decide+kernel)
theorem zV:FnScope ["self"] ["self"] (qE yG):=qO (by decide+kernel)
theorem zW:FnScope ["self","options"] ["self","options"] (qE yH):=qO (by decide+kernel)
theorem uL:FnScope ["self","block","moves","page","name"] ["self","block"] (qE zE):=qO (by decide+kernel)
theorem q0I:FnScope ["self","page","name"] ["self","page","name"] (qE yK):=qO (by decide+kernel)
theorem q5L:FnScope ["self","block"] ["self","block"] (qE zF):=qO (by decide+kernel)
theorem q2Q:FnScope ["self","block"] ["self","block"] (qE uH):=qO (by decide+kernel)
theorem jU:FnScope ["self","options","chosen","moved","wiped"] ["self"] (qE uI):=qO (by decide+kernel)
theorem q25:FnScope ["self"] ["self"] (qE yZ):=qO (by decide+kernel)
theorem q26:FnScope ["self"] ["self"] (qE u6):=qO (by decide+kernel)
theorem q6A:FnScope ["self"] ["self"] (qE q0G):=qO (by decide+kernel)
theorem vX:FnScope ["self","tallies","bound"] ["self","tallies"] (qE uP):=qO (by decide+kernel)
theorem q44:FnScope ["self"] ["self"] (qE vJ):=qO (by decide+kernel)
theorem q1K:FnScope ["self","options"] ["self"] (qE zG):=qO (by decide+kernel)
theorem uC:FnScope ["self","tallies"] ["self"] (qE qP):=qO (by decide+kernel)
theorem q45:FnScope ["self"] ["self"] (qE vK):=qO (by decide+kernel)
theorem q5M:FnScope ["self","moved"] ["self","moved"] (qE zH):=qO (by decide+kernel)
theorem v8:FnScope ["ills","blocks","limits","block","deeds"] ["ills","blocks"] (qE q19):=qO (by decide+kernel)
theorem q81:FnScope ["self","blocks","pages","most","ills"] ["self","blocks","pages","most","ills"] (qE uB):=qO (by decide+kernel)
theorem q3Z:FnScope ["self","page","stuff","block"] ["self","page","stuff"] (qE q2M):=qO (by decide+kernel)
theorem v9:FnScope ["self","block","fails","first","page"] ["self","block"] (qE q1A):=qO (by decide+kernel)
theorem q82:FnScope ["self","page"] ["self","page"] (qE q1B):=qO (by decide+kernel)
theorem q46:FnScope ["self"] ["self"] (qE vL):=qO (by decide+kernel)
theorem q47:FnScope ["self","block"] ["self","block"] (qE vM):=qO (by decide+kernel)
theorem q5N:FnScope ["self","block"] ["self","block"] (qE zI):=qO (by decide+kernel)
theorem q2R:FnScope ["self","page"] ["self","page"] (qE uJ):=qO (by decide+kernel)
theorem q27:FnScope ["self","block"] ["self","block"] (qE u7):=qO (by decide+kernel)
theorem q28:FnScope ["self"] ["self"] (qE u8):=qO (by decide+kernel)
theorem q2S:FnScope ["self","block"] ["self","block"] (qE uK):=qO (by decide+kernel)
theorem q3T:FnScope ["self","block"] ["self","block"] (qE v3):=qO (by decide+kernel)
theorem q48:FnScope ["self","word","place","block","fails"] ["self","word","place","block","fails"] (qE vO):=qO (by decide+kernel)
theorem q1L:FnScope ["rule","tally","tallies","pages","now","other"] ["rule","tally","tallies","pages","now"] (qE zJ):=qO (by decide+kernel)
theorem uM:FnScope ["rule","tallies","pages","now","place"] ["rule","tallies","pages","now"] (qE uQ):=qO (by decide+kernel)
theorem q5O:FnScope ["self","tallies","pages","now"] ["self","tallies","pages","now"] (qE zK):=qO (by decide+kernel)
theorem q1M:FnScope ["self","one","other","pages","now"] ["self","one","other","pages","now"] (qE yS):=qO (by decide+kernel)
theorem q6B:FnScope ["self","blocks","pages","sheets","share","ill","spread"] ["self","blocks","pages","sheets","share","ill","spread"] (qE yP):=qO (by decide+kernel)
theorem q49:FnScope ["self"] ["self"] (qE vP):=qO (by decide+kernel)
theorem q5P:FnScope ["_law_script","_law_k"] ["_law_script","_law_k"] (qE zL):=qO (by decide+kernel)
theorem q83:FnScope ["_law_found"] ["_law_found"] (qE q1C):=qO (by decide+kernel)
theorem yJ:FnScope ["_law_script","_law_pages","_law_closed","_law_ill","_law_share"] ["_law_script"] (qE q1D):=qO (by decide+kernel)
theorem q84:FnScope ["_law_script","_law_share"] ["_law_script","_law_share"] (qE q1E):=qO (by decide+kernel)
theorem q9N:FnScope ["_law_cell","_law_names_here"] ["_law_cell","_law_names_here"] (qE q2N):=qO (by decide+kernel)
theorem q1N:FnScope ["_law_store","_law_refused"] ["_law_store"] (qE q2O):=qO (by decide+kernel)
theorem q2T:FnScope ["_law_papers","_law_pages","_law_found","_law_paper"] ["_law_papers","_law_pages"] (qE q3R):=qO (by decide+kernel)
theorem q3A:FnScope ["_law_found","_law_due_here","_law_row"] ["_law_found","_law_due_here"] (qE q1F):=qO (by decide+kernel)
theorem u9:FnScope ["_law_script","_law_blocks","_law_pages","_law_share","_law_ill","_law_spread","_law_chip","_law_store","_law_names_here","_law_name","_law_k","_law_cell","_law_due_here","_law_found","_law_row"] ["_law_script"] (qE qF5):=qO (by decide+kernel)
local macro_rules| `(tactic|walk_at "r")=>`(tactic|repeat (first|with_reducible refine⟨_,rfl,?_⟩|refine⟨_,rfl,?_⟩|refine(iI ?_)))
theorem q9O(T:Txt K mg t)(S:Fns K t):S.aBZ.Ok0 P w mg base 1 qB5:=by(
refine S.aBZ.F.ok0 q9J λcdv A _ s H vs Q E hr h=>?_
obtain⟨x,rfl,kn,k⟩:=h
refine⟨_,(qD (qM (q3G (j9 yF (by rfl) T.fT (by kernel_rfl) (qA (pv 0) (qA (q02 rfl T.aED (by kernel_rfl) rfl (v:=.ty "int")) qF))) (q0S (q9Z (j9 yF (by rfl) T.fT (by kernel_rfl) (qA (pv 0) (qA (q02 rfl T.aD3 (by kernel_rfl) rfl (v:=.ty "bool")) qF)))))))),?_⟩
try dsimp-beta-proj-iota-zeta-eta only[wishK,cxK]
obtain⟨ty,q,e1,e2,_⟩:=kn.ty (K:=K)
refine⟨_,rfl,x,_,_,ty,_,rfl,rfl,.inl q,e1,_,rfl,?_⟩
have z:=qDL x
cases qi:isI x with
|true=>rw[qi,kI rfl]at z;refine iteT ?_;refine⟨_,rfl,x,_,_,ty,_,rfl,rfl,.inl q,e2,_,rfl,?_⟩;rw[z];exact k
|false=>rw[qi]at z;refine iteF ?_;have z':false=isW x:=z;rw[z'];exact k)
theorem jG(T:Txt K mg t)(S:Fns K t):S.fL.Ok0 P w mg base 2 qDM:=by(
refine S.fL.F.ok0 q7W λcdv A _ s H vs Q E hr h=>?_
obtain⟨x,lo,hi,rfl,kn,k⟩:=h
refine⟨_,(qD (qM (q3G (qS (q9O T S).mono hr rfl T.aC8 T.aC5 S.aBZ.b .nil qK (qA (pv 0) qF)) (q0S (qD2 qD0 qD0 (pv 1) (pv 0) (pv 2)))))),?_⟩
try dsimp-beta-proj-iota-zeta-eta only[wishK,cxK]
refine⟨_,rfl,x,rfl,kn,_,rfl,?_⟩
cases x with
|int i=>
 refine iteT ?_;refine⟨_,rfl,_,rfl,iI ⟨_,rfl,?_⟩⟩;have k':Q (V.bl (decide (lo≤i)&&decide (i≤hi))) H:=k;by_cases h1:lo≤i
 ·rw[hV h1]at k' ⊢;refine iteT ?_;exact⟨_,rfl,iI k'⟩
 rw[kE h1]at k' ⊢;refine iteF ?_;exact k'
|_=>exact iteF k)
theorem q40(T:Txt K mg t)(S:Fns K t):S.aA8.Ok0 P w mg base 3 qFQ:=by(
refine S.aA8.F.ok0 q9K λcdv A _ s H vs Q E hr h=>?_
obtain⟨x,y,rfl,kx,ky,k⟩:=h
refine⟨_,(qD (qM (q3G (qS (jG T S).mono hr rfl T.fG T.fH S.fL.b .nil qK (qA (pv 0) (qA qH (qA qH qF)))) (q0S (qS (jG T S).mono hr rfl T.fG T.fH S.fL.b .nil qK (qA (pv 1) (qA qH (qA qH qF)))))))),?_⟩
try dsimp-beta-proj-iota-zeta-eta only[wishK,cxK]
refine⟨_,rfl,x,_,_,rfl,kx,_,rfl,?_⟩
cases q:inB x 2 16 with
|true=>rw[q]at k;refine iteT ⟨_,rfl,y,_,_,rfl,ky,k⟩
|false=>rw[q]at k;exact iteF k)
structure Gd(m:CM):Prop where
br:∀b,m.br.getD b false=false
li:∀b,valV m.lim (Sum.inl b)=none
theorem inBi{v lo hi:Int}(h1:lo≤v)(h2:v≤hi):inB (.int v) lo hi=true:=by show(decide (lo≤v)&&decide (v≤hi))=true;rw[hV h1,hV h2];rfl
noncomputable def putC(m:CM)(p:Nat)(st:V):CM:={ m.deed "put" (p:Int) ((p:Int) / m.pg) false with bo:=m.bo.set p st }
noncomputable def wipC(m:CM)(b:Nat):CM:={ m.deed "wipe" (b:Int) (b:Int) false with bo:=clr m.bo ((b:Int)*m.pg).toNat m.pg.toNat,cl:=m.cl.set b (m.cl.getD b 0+1) }
noncomputable def spCP(t:Adr):Sp:=λvs H Q E=>∃c a m,∃p:Int,vs=[.ref c,.int p]∧ChipAt t.C_Chip H c a m∧m.Ok∧0≤p∧p≤m.bl*m.pg-1∧Q .non H
theorem vQ(T:Txt K mg t)(S:Fns K t):S.f9.Ok0 P w mg base 3 (spCP t):=by(
refine S.f9.F.ok0 q2R λcdv A _ s H vs Q E hr h=>?_
obtain⟨c,a,m,p,rfl,hc,ok,p0,p1,q⟩:=h
refine⟨_,(qD (jE (yE (jR (qS (jG T S).mono hr rfl T.fG T.fH S.fL.b .nil qK (qA (pv 1) (qA qH (qA (qR vE (qR vF (qJ (pv 0) rfl) (qJ (pv 0) rfl)) qH) qF)))))) (qD j8) qQ)),?_⟩
try dsimp-beta-proj-iota-zeta-eta only[wishK,cxK]
have b1:=ok.bl1
have b2:=ok.bl2
refine⟨_,rfl,iV rfl (iF hc.ins T.eZ T.fY rfl (iV rfl (iF hc.ins T.eZ T.fO rfl ?_)))⟩
refine(iI ⟨.inl ⟨by lia,by lia⟩,iI ⟨.int p,_,_,rfl,.int p,_,rfl,?_⟩⟩)
rw[inBi p0 p1]
exact iteF q)
noncomputable def spCB(t:Adr):Sp:=λvs H Q E=>∃c a m,∃p:Int,vs=[.ref c,.int p]∧ChipAt t.C_Chip H c a m∧0≤p∧p≤m.bl-1∧Q .non H
theorem yT(T:Txt K mg t)(S:Fns K t):S.fQ.Ok0 P w mg base 3 (spCB t):=by(
refine S.fQ.F.ok0 q27 λcdv A _ s H vs Q E hr h=>?_
obtain⟨c,a,m,p,rfl,hc,p0,p1,q⟩:=h
refine⟨_,(qD (jE (yE (jR (qS (jG T S).mono hr rfl T.fG T.fH S.fL.b .nil qK (qA (pv 1) (qA qH (qA (qR vE (qJ (pv 0) rfl) qH) qF)))))) (qD j8) qQ)),?_⟩
try dsimp-beta-proj-iota-zeta-eta only[wishK,cxK]
refine⟨_,rfl,iV rfl (iF hc.ins T.eZ T.fY rfl (iI ⟨.int p,_,_,rfl,.int p,_,rfl,?_⟩))⟩
rw[inBi p0 p1]
exact iteF q)
noncomputable def spID(t:Adr):Sp:=λvs H Q E=>∃c a m,vs=[.ref c]∧ChipAt t.C_Chip H c a m∧Q (.bl (decide (m.lf=some 0))) H
theorem q4A(T:Txt K mg t)(S:Fns K t):S.tH.Ok0 P w mg base 1 (spID t):=by(
refine S.tH.F.ok0 q46 λcdv A _ s H vs Q E hr h=>?_
obtain⟨c,a,m,rfl,hc,q⟩:=h
refine⟨_,(qD (qM (q03 q0L (qJ (pv 0) rfl) qH (qY _)))),?_⟩
try dsimp-beta-proj-iota-zeta-eta only[wishK,cxK]
refine⟨_,rfl,c,_,a.dx,_,_,rfl,hc.ins,T.eZ,T.fR,rfl,qFP,?_⟩
rw[lf0]
exact q)
noncomputable def spPW(t:Adr):Sp:=λvs H Q E=>∃c a m,vs=[.ref c]∧ChipAt t.C_Chip H c a m∧(if m.lf=some 0 then E (.ref t.C_PowerGone) none H else Q .non H)
theorem v6(T:Txt K mg t)(S:Fns K t):S.fZ.OkE P w mg base 2 (spPW t):=by(
refine S.fZ.F.okE q28 (λvs H Q E h=>?_) (λcdv A outer s H vs Q E hr h=>?_)
·repeat obtain⟨_,h⟩:=h
 all_goals subst_vars;rfl
obtain⟨c,a,m,rfl,hc,q⟩:=h
refine⟨_,(qD (jE (jR (qT (pv 0) T.eZ T.aBT (q4A T S).mono hr S.tH.b .nil qK)) (qD (q8X jC rfl rfl T.aCD T.aC2 (qA q0Q qF))) qQ)),?_⟩
try dsimp-beta-proj-iota-zeta-eta only[wishK,cxK]
refine(iV rfl (iM hc.ins rfl ⟨c,a,m,rfl,hc,_,rfl,?_⟩))
by_cases z:m.lf=some 0
·rw[kI z]at q;rw[hV z];exact iteT ⟨sz1,q⟩
rw[kF z]at q
rw[kE z]
exact iteF q)
noncomputable def spCD(t:Adr):Sp:=λvs H Q E=>∃c a m b,vs=[.ref c,.int b]∧ChipAt t.C_Chip H c a m∧m.Ok∧Gd m∧0≤b∧b<m.bl∧(if m.lf=some 0 then E (.ref t.C_PowerGone) none H else Q .non H)
theorem vR(T:Txt K mg t)(S:Fns K t):S.iG.OkE P w mg base 3 (spCD t):=by(
refine S.iG.F.okE q2S (λvs H Q E h=>?_) (λcdv A outer s H vs Q E hr h=>?_)
·repeat obtain⟨_,h⟩:=h
 all_goals subst_vars;rfl
obtain⟨c,a,m,b,rfl,hc,ok,g,b0,b1,q⟩:=h
refine⟨_,(qB (qV (uA jC (pv 0) T.eZ T.i9 (v6 T S).mono hr S.fZ.b .nil)) (qD (jE (jR (qZ jK (qJ (pv 0) rfl) (pv 1) (λ_ _=>rfl))) (qD j8) qQ))),?_⟩
try dsimp-beta-proj-iota-zeta-eta only[wishK,cxK]
have nb:=ok.nbr
refine(iV rfl (iM hc.ins rfl ⟨c,a,m,rfl,hc,?_⟩))
split
·rename_i z;rw[kI z]at q;exact q
rename_i z
rw[kF z]at q
refine(iV rfl (iF hc.ins T.eZ T.oJ rfl ⟨_,rfl,iL (k:=b) (v:=_) (SqL.of hc.br) (getB b0 (by lia)) ⟨_,rfl,?_⟩⟩))
rw[g.br]
exact iteF q)
noncomputable def spIS(t:Adr):Sp:=λvs H Q E=>∃c a m b,vs=[.ref c,.int b]∧ChipAt t.C_Chip H c a m∧Gd m∧Q (.bl false) H
theorem zX(T:Txt K mg t)(S:Fns K t):S.iY.Ok0 P w mg base 1 (spIS t):=by(
refine S.iY.F.ok0 q3T λcdv A _ s H vs Q E hr h=>?_
obtain⟨c,a,m,b,rfl,hc,g,q⟩:=h
have hu:=q6Z hr
refine⟨_,(qD (qM (q3G (qHP (qDH hu (pv 1) (qJ (pv 0) rfl))) (q0S (q03 qB2 (qZ jK (qJ (pv 0) rfl) (pv 1) (λ_ _=>rfl)) (qFI hu (qJ (pv 0) rfl) (pv 1) (λ_ _=>rfl)) (qY _)))))),?_⟩
try dsimp-beta-proj-iota-zeta-eta only[wishK,cxK]
refine⟨_,rfl,iV rfl (iF hc.ins T.eZ T.tU rfl ⟨a.li,_,rfl,DGet.k (k:=Sum.inl b) hc.li,_,rfl,?_⟩)⟩
rw[g.li]
exact iteF q)
noncomputable def spDD(t:Adr):Sp:=λvs H Q E=>∃c a m w pl b,vs=[.ref c,.str w,.int pl,.int b,.bl false]∧ChipAt t.C_Chip H c a m∧m.Ok∧m.rc.length<1000000∧0≤b∧b<m.bl∧∀H',ChipAt t.C_Chip H' c a (m.deed w pl b false)→Keep (foot c a) H H'→Q .non H'
theorem q0O(T:Txt K mg t)(S:Fns K t):S.oE.Ok0 P w mg base 3 (spDD t):=by(
refine S.oE.F.ok0 q48 λcdv A _ s H vs Q E hr h=>?_
obtain⟨c,a,m,w,pl,b,rfl,hc,ok,hr1,b0,b1,q⟩:=h
refine⟨_,(q4I (jE (qU q4E (qJ (pv 0) rfl) uY (qY _)) (qD (q6P (pv 0) qH qHX)) qQ) (qB (q2W (qJ (pv 0) rfl) (pv 3) q0V qH q4S yV) (qB (qV (q8N dH rB rC vB (qJ (pv 0) rfl) (qA (yX (qA (pv 1) (qA (pv 2) (qA (q9Z (pv 4)) qF)))) qF q2Y))) (qD (jE (jR (pv 4)) (qB j8 (qD j8)) qQ))))),?_⟩
try dsimp-beta-proj-iota-zeta-eta only[wishK,cxK]
have nd:=ok.ndc
refine⟨λσ' H1=>σ'=[some (.ref c),some (.str w),some (.int pl),some (.int b),some (.bl false)]∧ChipAt t.C_Chip H1 c a { m with lf:=m.lf.map (· - 1) }∧Keep (foot c a) H H1,?_,?_⟩
·refine⟨_,rfl,c,_,a.dx,_,_,rfl,hc.ins,T.eZ,T.fR,rfl,rfl,_,rfl,?_⟩;cases hl:m.lf with
 |none=>refine iteF ⟨rfl,?_,Keep.refl⟩;show ChipAt t.C_Chip H c a { m with lf:=none };rw[←hl];exact hc
 |some i=>refine iteT ?_;refine⟨_,rfl,c,_,a.dx,_,_,rfl,hc.ins,T.eZ,T.fR,(by unfold chF;rw[hl];rfl),iI ⟨a.dx,_,hc.ins,by show 10<1000;decide,?_⟩⟩;refine⟨rfl,hc.setLf (some (i-1)),Keep.upd hc.ins (λ_ z=>by cases z) (by simp[foot])⟩
rintro _ H1 ⟨rfl,hc1,k1⟩
refine(iV rfl (iF hc1.ins T.eZ T.i4 rfl ⟨_,rfl,iL (k:=b) (v:=_) (SqL.of hc1.dc) (getI b0 (by show b<(m.dc.length:Int);lia)) (iI ⟨a.dc,_,b,b.toNat,rfl,rfl,hc1.dc,by rw[h9];exact ixOk b0 (by show b<(m.dc.length:Int);lia),?_⟩)⟩))
rw[←aQ]
have hc2:=hc1.setDc (m.dc.set b.toNat (m.dc.getD b.toNat 0+1))
have k2:Keep (foot c a) H (upd H1 a.dc (.lst ((m.dc.set b.toNat (m.dc.getD b.toNat 0+1)).map V.int))):=k1.trans (Keep.upd hc1.dc (λ_ z=>by cases z) (by simp[foot]))
generalize upd H1 a.dc (.lst ((m.dc.set b.toNat (m.dc.getD b.toNat 0+1)).map V.int))=H2 at hc2 k2 ⊢
obtain⟨rs,er,pr⟩:=hc2.rc
have ln:rs.length≤1000000:=by rw[pr.len];exact c6 hr1
refine(iV rfl (iF hc2.ins T.eZ T.tT rfl ⟨.inl ⟨rfl,_,SqL.of er⟩,_,rfl,_,rfl,_,rfl,_,rfl,sz3,λp H3 np sm hp=>?_⟩))
have er3:=sm _ _ er
refine⟨a.rc,rs,_,rfl,rfl,er3,dW ln (by decide),?_⟩
exact⟨_,rfl,_,rfl,iteF (q _ ((hc2.same sm).addRc (d:=(w,pl,!false)) er3 hp) ((k2.trans (Keep.same sm)).trans (Keep.upd (o:=.lst (rs++[.ref p])) er3 (λ_ z=>by cases z) (by simp[foot]))))⟩)
noncomputable def qKR(t:Adr):Sp:=λvs H Q E=>∃c a m,∃p:Nat,∃st,vs=[.ref c,.int (p:Int),st]∧ChipAt t.C_Chip H c a m∧m.Ok∧m.rc.length<1000000∧Gd m∧(p:Int)≤m.bl*m.pg-1∧m.bo.getD p .non=.non∧(m.lf=some 0→E (.ref t.C_PowerGone) none H)∧(m.lf≠some 0→∀H',ChipAt t.C_Chip H' c a (putC m p st)→Keep (foot c a) H H'→Q .non H')
theorem q9P(T:Txt K mg t)(S:Fns K t):S.aB2.OkE P w mg base 4 (qKR t):=by(
refine S.aB2.F.okE q3Z (λvs H Q E h=>?_) (λcdv A outer s H vs Q E hr h=>?_)
·repeat obtain⟨_,h⟩:=h
 all_goals subst_vars;rfl
obtain⟨c,a,m,p,st,rfl,hc,ok,hr1,g,p1,hw,dk,q⟩:=h
refine⟨_,(qB (qV (j0 (pv 0) T.eZ T.oO (vQ T S).mono hr S.f9.b .nil qK (qA (pv 1) qF))) (qB (qX (i:=3) q3Z.nd rfl (Or.inl rfl) (qR v7 (pv 1) (qJ (pv 0) rfl))) (qB (qV (y7 jC (pv 0) T.eZ T.oM (vR T S).mono hr S.iG.b .nil (qA (pv 3) qF))) (qB (jE (qU q4E (qZ jK (qJ (pv 0) rfl) (pv 1) (λ_ _=>rfl)) uY (qY _)) (qD j8) qQ) (qB (qV (j0 (pv 0) T.eZ T.tP (q0O T S).mono hr S.oE.b .nil qK (qA q0Q (qA (pv 1) (qA (pv 3) (qA (j0 (pv 0) T.eZ T.tD (zX T S).mono hr S.iY.b .nil qK (qA (pv 3) qF)) qF)))))) (qD (q3H (pv 2) (q4R (qJ (pv 0) rfl) (pv 1) yV)))))))),?_⟩
try dsimp-beta-proj-iota-zeta-eta only[wishK,cxK]
have pg1:=ok.pg1
have pg2:=ok.pg2
have nbo:=ok.nbo
have p0:(0:Int)≤p:=by lia
obtain⟨b0,b1⟩:=qIR ok p0 p1
refine(iV rfl (iM hc.ins rfl ⟨_,rfl,c,a,m,p,rfl,hc,ok,p0,p1,?_⟩))
refine⟨_,rfl,iV rfl (iF hc.ins T.eZ T.fO rfl (iI ⟨⟨by lia,by lia⟩,?_⟩))⟩
refine(iV rfl (iM hc.ins rfl ⟨_,rfl,c,a,m,_,rfl,hc,ok,g,b0,b1,?_⟩))
by_cases z:m.lf=some 0
·rw[kI z];exact dk z
rw[kF z]
have q:=q z
refine(iV rfl (iF hc.ins T.eZ T.f8 rfl ⟨_,rfl,iL (k:=p) (v:=_) (SqL.of hc.bo) (getV p0 (by lia)) ⟨rfl,_,rfl,?_⟩⟩))
rw[mI,hV hw]
refine iteF ?_
refine(iV rfl (iM hc.ins rfl ⟨_,rfl,_,rfl,iV rfl (iM hc.ins rfl ⟨_,rfl,c,a,m,_,rfl,hc,g,?_⟩)⟩))
refine⟨c,a,m,"put",p,_,rfl,hc,ok,hr1,b0,b1,λH' hc' k'=>?_⟩
refine⟨_,rfl,iV rfl (iF hc'.ins T.eZ T.f8 rfl ⟨_,rfl,a.bo,_,p,p,rfl,rfl,hc'.bo,ixOk p0 (by show(p:Int)<(m.bo.length:Int);lia),?_⟩)⟩
exact q _ (hc'.setBo (m.bo.set p st)) (k'.trans (Keep.upd hc'.bo (λ_ z=>by cases z) (by simp[foot]))))
noncomputable def qJG(t:Adr):Sp:=λvs H Q E=>∃c a m,∃p:Int,vs=[.ref c,.int p]∧ChipAt t.C_Chip H c a m∧m.Ok∧0≤p∧p≤m.bl*m.pg-1∧(m.lf=some 0→E (.ref t.C_PowerGone) none H)∧(m.lf≠some 0→Q (m.bo.getD p.toNat .non) H)
theorem q85(T:Txt K mg t)(S:Fns K t):S.aBB.OkE P w mg base 4 (qJG t):=by(
refine S.aBB.F.okE q82 (λvs H Q E h=>?_) (λcdv A outer s H vs Q E hr h=>?_)
·repeat obtain⟨_,h⟩:=h
 all_goals subst_vars;rfl
obtain⟨c,a,m,p,rfl,hc,ok,p0,p1,dk,q⟩:=h
refine⟨_,(qB (qV (j0 (pv 0) T.eZ T.oO (vQ T S).mono hr S.f9.b .nil qK (qA (pv 1) qF))) (qB (qV (uA jC (pv 0) T.eZ T.i9 (v6 T S).mono hr S.fZ.b .nil)) (qD (qM (qZ jK (qJ (pv 0) rfl) (pv 1) (λ_ _=>rfl)))))),?_⟩
try dsimp-beta-proj-iota-zeta-eta only[wishK,cxK]
have nbo:=ok.nbo
refine(iV rfl (iM hc.ins rfl ⟨_,rfl,c,a,m,p,rfl,hc,ok,p0,p1,iV rfl (iM hc.ins rfl ⟨c,a,m,rfl,hc,?_⟩)⟩))
by_cases z:m.lf=some 0
·rw[kI z];exact dk z
rw[kF z]
exact(iV rfl (iF hc.ins T.eZ T.f8 rfl ⟨_,rfl,iL (k:=p) (v:=_) (SqL.of hc.bo) (getV p0 (by lia)) (q z)⟩)))
noncomputable def spCl(t:Adr):Sp:=λvs H Q E=>∃c a m b,vs=[.ref c,.int b]∧ChipAt t.C_Chip H c a m∧m.Ok∧0≤b∧b≤m.bl-1∧Q (.int (m.cl.getD b.toNat 0)) H
theorem v4(T:Txt K mg t)(S:Fns K t):S.iS.Ok0 P w mg base 4 (spCl t):=by(
refine S.iS.F.ok0 q47 λcdv A _ s H vs Q E hr h=>?_
obtain⟨c,a,m,b,rfl,hc,ok,b0,b1,q⟩:=h
refine⟨_,(qB (qV (j0 (pv 0) T.eZ T.iE (yT T S).mono hr S.fQ.b .nil qK (qA (pv 1) qF))) (qD (qM (qZ jK (qJ (pv 0) rfl) (pv 1) (λ_ _=>rfl))))),?_⟩
try dsimp-beta-proj-iota-zeta-eta only[wishK,cxK]
have n:=ok.ncl
exact(iV rfl (iM hc.ins rfl ⟨_,rfl,c,a,m,b,rfl,hc,b0,b1,iV rfl (iF hc.ins T.eZ T.fU rfl ⟨_,rfl,iL (k:=b) (v:=_) (SqL.of hc.cl) (getI b0 (by lia)) q⟩)⟩)))
noncomputable def spFa(t:Adr):Sp:=λvs H Q E=>∃c a m b,vs=[.ref c,.int b]∧ChipAt t.C_Chip H c a m∧m.Ok∧0≤b∧b≤m.bl-1∧Q (.bl (m.br.getD b.toNat false)) H
theorem q5Q(T:Txt K mg t)(S:Fns K t):S.tY.Ok0 P w mg base 4 (spFa t):=by(
refine S.tY.F.ok0 q5N λcdv A _ s H vs Q E hr h=>?_
obtain⟨c,a,m,b,rfl,hc,ok,b0,b1,q⟩:=h
refine⟨_,(qB (qV (j0 (pv 0) T.eZ T.iE (yT T S).mono hr S.fQ.b .nil qK (qA (pv 1) qF))) (qD (qM (qZ jK (qJ (pv 0) rfl) (pv 1) (λ_ _=>rfl))))),?_⟩
try dsimp-beta-proj-iota-zeta-eta only[wishK,cxK]
have n:=ok.nbr
exact(iV rfl (iM hc.ins rfl ⟨_,rfl,c,a,m,b,rfl,hc,b0,b1,iV rfl (iF hc.ins T.eZ T.oJ rfl ⟨_,rfl,iL (k:=b) (v:=_) (SqL.of hc.br) (getB b0 (by lia)) q⟩)⟩)))
noncomputable def qJH(t:Adr):Sp:=λvs H Q E=>∃c a m,∃b:Nat,vs=[.ref c,.int (b:Int)]∧ChipAt t.C_Chip H c a m∧m.Ok∧m.rc.length<1000000∧Gd m∧(b:Int)≤m.bl-1∧m.cl.getD b 0<m.mo∧(m.lf=some 0→E (.ref t.C_PowerGone) none H)∧(m.lf≠some 0→∀H',ChipAt t.C_Chip H' c a (wipC m b)→Keep (foot c a) H H'→Q .non H')
theorem q86(T:Txt K mg t)(S:Fns K t):S.aBD.OkE P w mg base 4 (qJH t):=by(
refine S.aBD.F.okE v9 (λvs H Q E h=>?_) (λcdv A outer s H vs Q E hr h=>?_)
·repeat obtain⟨_,h⟩:=h
 all_goals subst_vars;rfl
obtain⟨c,a,m,b,rfl,hc,ok,hr1,g,b1,hm,dk,q⟩:=h
refine⟨_,(qB (qV (j0 (pv 0) T.eZ T.iE (yT T S).mono hr S.fQ.b .nil qK (qA (pv 1) qF))) (qB (qV (y7 jC (pv 0) T.eZ T.oM (vR T S).mono hr S.iG.b .nil (qA (pv 1) qF))) (qB (qX (i:=2) v9.nd rfl (Or.inl rfl) (qH3 (j0 (pv 0) T.eZ T.tD (zX T S).mono hr S.iY.b .nil qK (qA (pv 1) qF)) (q0S (q03 qB2 (qZ jK (qJ (pv 0) rfl) (pv 1) (λ_ _=>rfl)) (qJ (pv 0) rfl) (qY _))))) (qB (qV (j0 (pv 0) T.eZ T.tP (q0O T S).mono hr S.oE.b .nil qK (qA q0Q (qA (pv 1) (qA (pv 1) (qA (pv 2) qF)))))) (qB (qX (i:=3) v9.nd rfl (Or.inl rfl) (qR vF (pv 1) (qJ (pv 0) rfl))) (qB (vD nH rfl (q6L rfl T.aBY (qA (pv 3) (qA (qR uN (pv 3) (qJ (pv 0) rfl)) qF))) (qW (i:=4) v9.nd rfl (Or.inl rfl)) (qD (q3H uY (q4R (qJ (pv 0) rfl) (pv 4) yV)))) (qD (q2W (qJ (pv 0) rfl) (pv 1) q0V qH q4S yV)))))))),?_⟩
try dsimp-beta-proj-iota-zeta-eta only[wishK,cxK]
have b0:(0:Int)≤b:=by lia
have pg1:=ok.pg1
have pg2:=ok.pg2
have bl1:=ok.bl2
have nbo:=ok.nbo
have ncl:=ok.ncl
refine(iV rfl (iM hc.ins rfl ⟨_,rfl,c,a,m,b,rfl,hc,b0,b1,?_⟩))
refine(iV rfl (iM hc.ins rfl ⟨_,rfl,c,a,m,b,rfl,hc,ok,g,b0,by lia,?_⟩))
by_cases z:m.lf=some 0
·rw[kI z];exact dk z
rw[kF z]
have q:=q z
refine(iV rfl (iM hc.ins rfl ⟨_,rfl,c,a,m,b,rfl,hc,g,_,rfl,iteF ?_⟩))
refine(iV rfl (iF hc.ins T.eZ T.fU rfl ⟨_,rfl,iL (k:=b) (v:=_) (SqL.of hc.cl) (getI b0 (by lia)) (iV rfl (iF hc.ins T.eZ T.aAW rfl (iI ?_)))⟩))
show q2B 2 (V.bl (decide (m.mo≤m.cl.getD b 0))) _ _ _
rw[kE (by lia)]
refine(iV rfl (iM hc.ins rfl ⟨_,rfl,_,rfl,_,rfl,c,a,m,"wipe",b,b,rfl,hc,ok,hr1,b0,by lia,λH' hc' k'=>?_⟩))
have bp:b*m.pg+m.pg≤m.bl*m.pg:=by have:=Int.mul_le_mul_of_nonneg_right (show(b:Int)+1≤m.bl by lia) (show 0≤m.pg by lia);rw[Int.add_mul,Int.one_mul]at this;exact this
have bq:0≤b*m.pg:=xB b0 (by lia)
have bmax:m.bl*m.pg≤256:=by have:=bT bl1 pg2 (by lia) (by decide);lia
refine⟨_,rfl,_,rfl,c,_,a.dx,_,.int m.pg,rfl,hc'.ins,T.eZ,T.fO,rfl,iI ⟨.inl ⟨by lia,by lia⟩,?_⟩⟩
refine⟨_,rfl,_,rfl,_,rfl,c,_,a.dx,_,.int m.pg,rfl,hc'.ins,T.eZ,T.fO,rfl,iI ⟨_,_,rfl,⟨by lia,by lia,by lia,by lia⟩,?_⟩⟩
refine q6M (λi σ' H1=>∃y,σ'=[some (.ref c),some (.int b),some (.bl false),some (.int (b*m.pg)),y]∧ChipAt t.C_Chip H1 c a { m.deed "wipe" b b false with bo:=clr m.bo (b*m.pg).toNat i }∧Keep (foot c a) H H1) ⟨_,rfl,hc',k'⟩ (λi σ' H1 hi hp=>?_) (λσ' H1 hp=>?_)
·obtain⟨y,rfl,h1,k1⟩:=hp;have hi':(i:Int)<m.pg:=by have:i<(b*m.pg+m.pg-b*m.pg).toNat:=hi;lia
 refine(iV rfl (iF h1.ins T.eZ T.f8 rfl ⟨_,rfl,a.bo,_,_,(b*m.pg+i).toNat,rfl,rfl,h1.bo,ixOk (by lia) (by rw[q4H];lia),?_⟩));have e:(b*m.pg+(i:Int)).toNat=(b*m.pg).toNat+i:=by lia
 rw[e];exact⟨_,rfl,h1.setBo _,k1.trans (Keep.upd h1.bo (λ_ z=>by cases z) (by simp[foot]))⟩
obtain⟨y,rfl,h1,k1⟩:=hp
have e:(b*m.pg+m.pg-b*m.pg).toNat=m.pg.toNat:=by lia
rw[e]at h1
refine(iV rfl (iF h1.ins T.eZ T.fU rfl ⟨_,rfl,iL (k:=b) (v:=_) (SqL.of h1.cl) (getI b0 (by show(b:Int)<(m.cl.length:Int);lia)) (iI ⟨a.cl,_,b,b,rfl,rfl,h1.cl,by rw[h9];exact ixOk b0 (by show(b:Int)<(m.cl.length:Int);lia),?_⟩)⟩))
rw[←aQ]
exact q _ (h1.setCl _) (k1.trans (Keep.upd h1.cl (λ_ z=>by cases z) (by simp[foot]))))
noncomputable def qKS(K:W.Frag):Sp:=λvs H Q E=>∃l bl,vs=[.ref l,.int bl]∧SqL K H l []∧NewO H (.dK []) Q
theorem q87(T:Txt K mg t)(S:Fns K t):S.aBO.Ok0 P w mg base 3 (qKS K):=by(
refine S.aBO.F.ok0 v8 λcdv A _ s H vs Q E hr h=>?_
obtain⟨l,bl,rfl,sq,q⟩:=h
refine⟨_,(qB (qX (i:=2) v8.nd rfl (Or.inl rfl) q8U) (qB (vD dD rfl (jN (pv 0)) (qA0 rfl (yU (qW (i:=3) v8.nd rfl (Or.inl rfl)) (yU (qW (i:=4) v8.nd rfl (Or.inl rfl)) q4D))) (qB j8 (qB j8 (qB j8 (qD j8))))) (qD (qM (pv 2))))),?_⟩
try dsimp-beta-proj-iota-zeta-eta only[wishK,cxK]
refine λp np=>?_
have s0:Same H (upd H p (.dK [])):=Same.upd np
refine⟨_,rfl,l,rfl,⟨[],s0.seq sq⟩,zP (K:=K) (xs:=[]) (λ_ σ' H1=>(∃y z,σ'=[some (.ref l),some (.int bl),some (.ref p),y,z])∧H1=upd H p (.dK [])) ⟨⟨_,_,rfl⟩,rfl⟩ (λi σ' H1 _ hp=>by rw[hp.2];exact s0.seq sq) (λi x σ' H1 hx _=>by simp at hx) (λσ' H1 hp=>?_)⟩
obtain⟨⟨y,z,rfl⟩,rfl⟩:=hp
exact⟨_,rfl,q p _ np s0 qI⟩)
structure Wm(C x dx:Addr)(H G:Hp)(fs:List (Str×V))(os:List (Addr×HO)):Prop where
i:G x=some (.ins C dx fs)
u:Up x H G
o:∀p∈os,G p.1=some p.2∧H p.1=none∧p.1≠x
n:(os.map (·.1)).Nodup
section
variable{C x dx:Addr}{H G B:Hp}{fs fs':List (Str×V)}{os:List (Addr×HO)}
theorem Wm.same(h:Wm C x dx H G fs os)(s:Same G B):Wm C x dx H B fs os:=⟨s _ _ h.i,λb o n e=>s _ _ (h.u b o n e),λp hp=>⟨s _ _ (h.o p hp).1,(h.o p hp).2⟩,h.n⟩
theorem Wm.add(h:Wm C x dx H G fs os){a:Addr}{o:HO}(na:G a=none)(s:Same G B)(e:B a=some o):Wm C x dx H B fs (os++[(a,o)]):=by(
have ax:a≠x:=λz=>by rw[z,h.i]at na;cases na
have w:=h.same s
refine⟨w.i,w.u,λp hp=>?_,?_⟩
·rcases gH.mp hp with hp|hp
 ·exact w.o p hp
 rw[kD.mp hp];exact⟨e,Up.free h.u ax na,ax⟩
rw[mW]
refine cG.mpr ⟨h.n,by simp,λb hb c hc=>?_⟩
obtain⟨p,hp,rfl⟩:=mE.mp hb
obtain rfl:c=a:=by simpa using hc
exact qG (h.o p hp).1 na)
theorem Wm.set(h:Wm C x dx H G fs os):Wm C x dx H (upd G x (.ins C dx fs')) fs' os:=⟨qI,λb o n e=>by rw[qC n];exact h.u b o n e,λp hp=>⟨by rw[qC (h.o p hp).2.2];exact(h.o p hp).1,(h.o p hp).2⟩,h.n⟩
theorem Wm.fr(h:Wm C x dx H G fs os)(a:Addr)(ha:a∈os.map (·.1)):H a=none:=by obtain⟨p,hp,rfl⟩:=mE.mp ha;exact(h.o p hp).2.1
theorem Wm.put(h:Wm C x dx H G fs os)(f:Str)(v:V):Wm C x dx H (upd G x (.ins C dx (putF f v fs))) (putF f v fs) os:=h.set
end
noncomputable def spMk(t:Adr):Sp:=λvs H Q E=>∃x dx,∃b p m:Int,vs=[.ref x,.int b,.int p,.int m,.non]∧H x=some (.ins t.C_Chip dx [])∧2≤b∧b≤16∧1≤p∧p≤16∧0≤m∧m≤1000000∧∀a H',ChipAt t.C_Chip H' x a (CM.new b p m [])→(∀b∈[a.li,a.bo,a.cl,a.dc,a.br,a.rc],H b=none)→Up x H H'→Q .non H'
theorem q88(T:Txt K mg t)(S:Fns K t):FnOk P w K mg base (CX0) 4 t.f_Chip_init S.iQ ["self","blocks","pages","most","ills"] (spMk t):=by(
refine S.aDA.ok0 q81 λcdv A _ s H vs Q E hr h=>?_
obtain⟨x,dx,b,p,m,rfl,hx,b1,b2,p1,p2,m1,m2,q⟩:=h
refine⟨_,(qB (jE (yE (jR (qS (q40 T S).mono hr rfl T.aBF T.aBG S.aA8.b .nil qK (qA (pv 1) (qA (pv 2) qF))))) (qD j8) qQ) (qB (jE (yE (jR (qS (jG T S).mono hr rfl T.fG T.fH S.fL.b .nil qK (qA (pv 3) (qA qH (qA (q1U rfl T.aA4 ⟨_,rfl⟩ (v:=.int 1000000)) qF)))))) (qD j8) qQ) (qB (jI (pv 0) (pv 1) rfl) (qB (jI (pv 0) (pv 2) rfl) (qB (jI (pv 0) (pv 3) rfl) (qB (jI (pv 0) (qS (q87 T S).mono hr rfl T.aCL T.aCJ S.aBO.b .nil qK (qA (qCW (qU qA2 (pv 4) uY (qY _)) (y6 qF) (pv 4)) (qA (pv 1) qF))) rfl) (qB (jI (pv 0) (qR q06 (y6 (qA uY qF)) (qR vF (pv 1) (pv 2))) rfl) (qB (jI (pv 0) (qR q06 (y6 (qA qH qF)) (pv 1)) rfl) (qB (jI (pv 0) (qR q06 (y6 (qA qH qF)) (pv 1)) rfl) (qB (jI (pv 0) (qR q06 (y6 (qA q0K qF)) (pv 1)) rfl) (qB (jI (pv 0) uY rfl) (qD (jI (pv 0) (y6 qF) rfl))))))))))))),?_⟩
try dsimp-beta-proj-iota-zeta-eta only[wishK,cxK]
refine⟨_,rfl,_,rfl,.int b,.int p,rfl,.int b,.int p,_,rfl,?_⟩
rw[inBi b1 b2,inBi p1 p2]
refine iteF ?_
refine⟨_,rfl,.int m,_,_,rfl,.int m,_,rfl,?_⟩
rw[inBi m1 m2]
refine iteF ?_
have bp:b*p≤256:=bT b2 p2 (by lia) (by decide)
have bp0:0≤b*p:=xB (by lia) (by lia)
refine⟨_,rfl,_,rfl,x,_,dx,_,rfl,hx,T.eZ,T.fY,by simp,?_⟩
have w1:Wm t.C_Chip x dx H (upd H x (.ins t.C_Chip dx (putF "blocks" (.int b) []))) (putF "blocks" (.int b) []) []:=⟨qI,Up.of (Same.refl H),by simp,by simp⟩
refine⟨_,rfl,_,rfl,x,_,dx,_,rfl,w1.i,T.eZ,T.fO,by show 1<1000;decide,?_⟩
have w2:=w1.put "pages" (.int p)
refine⟨_,rfl,_,rfl,x,_,dx,_,rfl,w2.i,T.eZ,T.aAW,by show 2<1000;decide,?_⟩
have w3:=w2.put "most" (.int m)
refine⟨_,rfl,rfl,_,rfl,iteT ⟨sz0,λl0 H2 n0 s0 e0=>?_⟩⟩
refine⟨_,rfl,l0,b,rfl,SqL.of e0,λli H3 n1 s1 e1=>?_⟩
have w4:=(w3.same s0).add n1 s1 e1
refine⟨_,rfl,x,_,dx,_,rfl,w4.i,T.eZ,T.tU,by show 3<1000;decide,?_⟩
have w4:=w4.put "limits" (.ref li)
refine⟨sz1,λwa A1 n1 s1 e1=>⟨_,rfl,_,rfl,iI ⟨.inl ⟨by lia,by lia⟩,wa,_,_,rfl,rfl,e1,by lia,by lia,λbo B1 m1 r1 hbo=>?_⟩⟩⟩
have w5:=(w4.same s1).add m1 r1 hbo
refine⟨_,rfl,x,_,dx,_,rfl,w5.i,T.eZ,T.f8,by show 4<1000;decide,?_⟩
have w5:=w5.put "borne" (.ref bo)
refine⟨sz1,λwa A2 n2 s2 e2=>⟨_,rfl,wa,_,_,rfl,rfl,e2,by lia,by lia,λcl B2 m2 r2 hcl=>?_⟩⟩
have w6:=(w5.same s2).add m2 r2 hcl
refine⟨_,rfl,x,_,dx,_,rfl,w6.i,T.eZ,T.fU,by show 5<1000;decide,?_⟩
have w6:=w6.put "clearings" (.ref cl)
refine⟨sz1,λwa A3 n3 s3 e3=>⟨_,rfl,wa,_,_,rfl,rfl,e3,by lia,by lia,λdc B3 m3 r3 hdc=>?_⟩⟩
have w7:=(w6.same s3).add m3 r3 hdc
refine⟨_,rfl,x,_,dx,_,rfl,w7.i,T.eZ,T.i4,by show 6<1000;decide,?_⟩
have w7:=w7.put "deed_counts" (.ref dc)
refine⟨sz1,λwa A4 n4 s4 e4=>⟨_,rfl,wa,_,_,rfl,rfl,e4,by lia,by lia,λbr B4 m4 r4 hbr=>?_⟩⟩
have w8:=(w7.same s4).add m4 r4 hbr
refine⟨_,rfl,x,_,dx,_,rfl,w8.i,T.eZ,T.oJ,by show 7<1000;decide,?_⟩
have w8:=w8.put "broken" (.ref br)
refine⟨_,rfl,x,_,dx,_,rfl,w8.i,T.eZ,T.fR,by show 8<1000;decide,?_⟩
have w9:=w8.put "deeds_left" .non
refine⟨sz0,λrc B5 m5 r5 hrc=>?_⟩
have w:=w9.add m5 r5 hrc
refine⟨_,rfl,x,_,dx,_,rfl,w.i,T.eZ,T.tT,by show 9<1000;decide,?_⟩
have w:=w.set (fs':=chF ⟨dx,li,bo,cl,dc,br,rc⟩ (CM.new b p m []))
refine q ⟨dx,li,bo,cl,dc,br,rc⟩ _ ⟨w.i,(w.o (li,.dK []) (by simp)).1,(w.o (bo,.lst (List.replicate (b*p).toNat .non)) (by simp)).1,?_,?_,?_,⟨[],(w.o (rc,.lst []) (by simp)).1,.nil⟩,(mY.mp (show(li::[bo,cl,dc,br,rc]).Nodup from w.n)).2⟩ (λb' hb'=>w.fr b' hb') w.u
·show _=some (HO.lst ((List.replicate b.toNat (0:Int)).map V.int));rw[cY];exact(w.o (cl,.lst (List.replicate b.toNat (.int 0))) (by simp)).1
·show _=some (HO.lst ((List.replicate b.toNat (0:Int)).map V.int));rw[cY];exact(w.o (dc,.lst (List.replicate b.toNat (.int 0))) (by simp)).1
show _=some (HO.lst ((List.replicate b.toNat false).map V.bl))
rw[cY]
exact(w.o (br,.lst (List.replicate b.toNat (.bl false))) (by simp)).1)
theorem jV(T:Txt K mg t)(S:Fns K t):S.fP.Ok0 P w mg base 1 (qIM K):=by(
refine S.fP.F.ok0 q5P λcdv A _ s H vs Q E hr h=>?_
obtain⟨a,ns,k,rfl,hS,h0,q⟩:=h
refine⟨_,(qB (jE (qU q4U (pv 1) (j9 jS (by rfl) T.aB7 rF (qA (pv 0) qF)) (qY _)) (qD (qM (qZ jK (pv 0) (pv 1) (λ_ _=>rfl)))) qQ) (qD (qM qH))),?_⟩
try dsimp-beta-proj-iota-zeta-eta only[wishK,cxK]
refine⟨_,rfl,_,rfl,a,_,rfl,.inl hS,_,_,rfl,rfl,_,rfl,?_⟩
rw[h9]
by_cases h1:k<(ns.length:Int)
·rw[hV h1];refine iteT ?_;exact⟨_,rfl,_,rfl,a,_,k,_,rfl,rfl,hS,qCA h0 h1,q⟩
rw[kE h1]
refine iteF ?_
have e:=qA8 h0 h1
rw[e]at q
exact q)
theorem qKT{H:Hp}{bl pg mo:Int}{Q:Addr→Hp→Prop}{E:XK}(b1:2≤bl)(b2:bl≤16)(p1:1≤pg)(p2:pg≤16)(m1:0≤mo)(m2:mo≤1000000)
 (q:∀x a H',ChipAt t.C_Chip H' x a (CM.new bl pg mo [])→Same H H'→(∀b∈a.li::foot x a,H b=none)→Q x H') (x dx:Addr) (nx:H x=none) (ndx:H dx=none) (ne:dx≠x):
 spMk t [.ref x,.int bl,.int pg,.int mo,.non] (upd (upd H dx (.own x)) x (.ins t.C_Chip dx [])) (λv H2=>v=.non∧Q x H2) E:=by(
have s0:Same H (upd (upd H dx (.own x)) x (.ins t.C_Chip dx [])):=λb o e=>by rw[qC (qG e nx),qC (qG e ndx)];exact e
refine⟨x,dx,bl,pg,mo,rfl,qI,b1,b2,p1,p2,m1,m2,λa H' hc fr u=>⟨rfl,q x a H' hc (λb o e=>u b o (qG e nx) (s0 b o e)) λb hb=>?_⟩⟩
have hb:b=x∨b∈[a.li,a.bo,a.cl,a.dc,a.br,a.rc]:=by simp[foot]at hb ⊢;rcases hb with rfl|rfl|rfl|rfl|rfl|rfl|rfl<;>simp
rcases hb with rfl|hb
·exact nx
exact s0.free (fr _ hb))
theorem q3B(T:Txt K mg t)(S:Fns K t):S.aAK.Ok0 P w mg base 1 qB5:=by(
refine S.aAK.F.ok0 q83 λcdv A _ s H vs Q E hr h=>?_
obtain⟨x,rfl,kn,k⟩:=h
refine⟨_,(qD (qM (q3G (j9 yF (by rfl) T.fT (by kernel_rfl) (qA (pv 0) (qA (q02 rfl T.aED (by kernel_rfl) rfl (v:=.ty "int")) qF))) (q0S (q9Z (j9 yF (by rfl) T.fT (by kernel_rfl) (qA (pv 0) (qA (q02 rfl T.aD3 (by kernel_rfl) rfl (v:=.ty "bool")) qF)))))))),?_⟩
try dsimp-beta-proj-iota-zeta-eta only[wishK,cxK]
obtain⟨ty,q,e1,e2,_⟩:=kn.ty (K:=K)
refine⟨_,rfl,x,_,_,ty,_,rfl,rfl,.inl q,e1,_,rfl,?_⟩
have z:=qDL x
cases qi:isI x with
|true=>rw[qi,kI rfl]at z;refine iteT ?_;refine⟨_,rfl,x,_,_,ty,_,rfl,rfl,.inl q,e2,_,rfl,?_⟩;rw[z];exact k
|false=>rw[qi]at z;refine iteF ?_;have z':false=isW x:=z;rw[z'];exact k)
noncomputable def qKU(t:Adr):Sp:=λvs H Q E=>∃x dx fs b e,vs=[.ref x]∧H x=some (.ins t.C_Terms dx fs)∧fs.lookup (Str.ofString "blocks")=some (.int b)∧fs.lookup (Str.ofString "ill")=some (.int e)∧Q (.int (b-1-e)) H
theorem q4B(T:Txt K mg t)(S:Fns K t):S.tG.Ok0 P w mg base 1 (qKU t):=by(
refine S.tG.F.ok0 q49 λcdv A _ s H vs Q E hr h=>?_
obtain⟨x,dx,fs,b,e,rfl,hx,l1,l2,q⟩:=h
refine⟨_,(qD (qM (qR vE (qR vE (qJ (pv 0) rfl) qH) (qJ (pv 0) rfl)))),?_⟩
try dsimp-beta-proj-iota-zeta-eta only[wishK,cxK]
exact(iV rfl (iF hx T.fE T.iA l1 (iI (iV rfl (iF hx T.fE T.tK l2 (iI q)))))))
noncomputable def teF(r0 r1 r2 r3 r4 r5:V):List (Str×V):=[("blocks",r0),("pages",r1),("sheets",r2),("share",r3),("ill",r4),("spread",r5)]
noncomputable def spTm(t:Adr):Sp:=λvs H Q E=>∃x dx,∃b p s r e d:Int,vs=[.ref x,.int b,.int p,.int s,.int r,.int e,.int d]∧H x=some (.ins t.C_Terms dx [])∧2≤b∧b≤16∧1≤p∧p≤16∧1≤s∧s≤64∧1≤r∧r≤(b-1-e)*p-2∧0≤e∧e≤b-2∧1≤d∧d≤1000000∧∀H',H' x=some (.ins t.C_Terms dx (teF (.int b) (.int p) (.int s) (.int r) (.int e) (.int d)))→Up x H H'→Q .non H'
theorem q6C(T:Txt K mg t)(S:Fns K t):FnOk P w K mg base (CX0) 4 t.f_Terms_init S.iB ["self","blocks","pages","sheets","share","ill","spread"] (spTm t):=by(
refine S.aCS.ok0 q6B λcdv A _ s H vs Q E hr h=>?_
obtain⟨x,dx,b,p,s',r,e,d,rfl,hx,b1,b2,p1,p2,s1,s2,r1,r2,e1,e2,d1,d2,q⟩:=h
refine⟨_,(qB (jE (yE (jR (qS (q40 T S).mono hr rfl T.aBF T.aBG S.aA8.b .nil qK (qA (pv 1) (qA (pv 2) qF))))) (qD j8) qQ) (qB (jE (yE (jR (qS (jG T S).mono hr rfl T.fG T.fH S.fL.b .nil qK (qA (pv 3) (qA qH (qA qH qF)))))) (qD j8) qQ) (qB (jE (yE (jR (qS (jG T S).mono hr rfl T.fG T.fH S.fL.b .nil qK (qA (pv 5) (qA qH (qA (qR vE (pv 1) qH) qF)))))) (qD j8) qQ) (qB (jE (yE (jR (qS (jG T S).mono hr rfl T.fG T.fH S.fL.b .nil qK (qA (pv 6) (qA qH (qA (q1U rfl T.aA4 ⟨_,rfl⟩ (v:=.int 1000000)) qF)))))) (qD j8) qQ) (qB (jI (pv 0) (pv 1) rfl) (qB (jI (pv 0) (pv 2) rfl) (qB (jI (pv 0) (pv 3) rfl) (qB (jI (pv 0) (pv 4) rfl) (qB (jI (pv 0) (pv 5) rfl) (qB (jI (pv 0) (pv 6) rfl) (qD (jE (yE (jR (qS (jG T S).mono hr rfl T.fG T.fH S.fL.b .nil qK (qA (pv 4) (qA qH (qA (qR vE (qR vF (qT (pv 0) T.fE T.aBS (q4B T S).mono hr S.tG.b .nil qK) (pv 2)) qH) qF)))))) (qD j8) qQ)))))))))))),?_⟩
try dsimp-beta-proj-iota-zeta-eta only[wishK,cxK]
refine⟨_,rfl,_,rfl,.int b,.int p,rfl,.int b,.int p,_,rfl,?_⟩
rw[inBi b1 b2,inBi p1 p2]
refine iteF ⟨_,rfl,.int s',_,_,rfl,.int s',_,rfl,?_⟩
rw[inBi s1 s2]
refine iteF ⟨_,rfl,_,rfl,iI ⟨.int e,_,_,rfl,.int e,_,rfl,?_⟩⟩
rw[inBi e1 e2]
refine iteF ⟨_,rfl,.int d,_,_,rfl,.int d,_,rfl,?_⟩
rw[inBi d1 d2]
refine iteF ⟨_,rfl,_,rfl,x,_,dx,_,rfl,hx,T.fE,T.iA,by simp,?_⟩
have w1:Wm t.C_Terms x dx H (upd H x (.ins t.C_Terms dx (putF "blocks" (.int b) []))) (putF "blocks" (.int b) []) []:=⟨qI,Up.of (Same.refl H),by simp,by simp⟩
refine⟨_,rfl,_,rfl,x,_,dx,_,rfl,w1.i,T.fE,T.fD,by show 1<1000;decide,?_⟩
have w2:=w1.put "pages" (.int p)
refine⟨_,rfl,_,rfl,x,_,dx,_,rfl,w2.i,T.fE,T.o8,by show 2<1000;decide,?_⟩
have w3:=w2.put "sheets" (.int s')
refine⟨_,rfl,_,rfl,x,_,dx,_,rfl,w3.i,T.fE,T.tV,by show 3<1000;decide,?_⟩
have w4:=w3.put "share" (.int r)
refine⟨_,rfl,_,rfl,x,_,dx,_,rfl,w4.i,T.fE,T.tK,by show 4<1000;decide,?_⟩
have w5:=w4.put "ill" (.int e)
refine⟨_,rfl,_,rfl,x,_,dx,_,rfl,w5.i,T.fE,T.tI,by show 5<1000;decide,?_⟩
have w:=w5.put "spread" (.int d)
refine⟨_,rfl,_,rfl,x,dx,_,rfl,w.i,rfl,x,dx,_,b,e,rfl,w.i,rfl,rfl,_,rfl,iI ⟨.inr ⟨by lia,by lia⟩,iI ⟨.int r,_,_,rfl,.int r,_,rfl,?_⟩⟩⟩
rw[inBi r1 r2]
exact iteF (q _ w.i w.u))
theorem qKV{H:Hp}{b p s r e d:Int}{Q:Addr→Hp→Prop}{E:XK}(b1:2≤b)(b2:b≤16)(p1:1≤p)(p2:p≤16)(s1:1≤s)(s2:s≤64)(r1:1≤r)(r2:r≤(b-1-e)*p-2)(e1:0≤e)(e2:e≤b-2)(d1:1≤d)(d2:d≤1000000)
 (q:∀x dx H',Same H H'→H' x=some (.ins t.C_Terms dx (teF (.int b) (.int p) (.int s) (.int r) (.int e) (.int d)))→Q x H') (x dx:Addr) (nx:H x=none) (ndx:H dx=none) (ne:dx≠x):
 spTm t [.ref x,.int b,.int p,.int s,.int r,.int e,.int d] (upd (upd H dx (.own x)) x (.ins t.C_Terms dx [])) (λv H2=>v=.non∧Q x H2) E:=by
 have s0:Same H (upd (upd H dx (.own x)) x (.ins t.C_Terms dx [])):=λb o e=>by rw[qC (qG e nx),qC (qG e ndx)];exact e
 exact⟨x,dx,b,p,s,r,e,d,rfl,qI,b1,b2,p1,p2,s1,s2,r1,r2,e1,e2,d1,d2,λH' h u=>⟨rfl,q x dx H' (λb o e=>u b o (qG e nx) (s0 b o e)) h⟩⟩
noncomputable def qKW:Sp:=λvs H Q _=>∃s n,vs=[.int s,.int n]∧Q (.int (s*128+n)) H
theorem qAT(T:Txt K mg t)(S:Fns K t):S.aCX.Ok0 P w mg base 1 qKW:=by(
refine S.aCX.F.ok0 qAS λcdv A _ s H vs Q E hr h=>?_
obtain⟨s',n,rfl,q⟩:=h
refine⟨_,(qD (qM (qR uN (qR vF (pv 0) (q1U rfl T.aDV ⟨_,rfl⟩ (v:=.int 128))) (pv 1)))),?_⟩
try dsimp-beta-proj-iota-zeta-eta only[wishK,cxK]
exact⟨_,rfl,iI ⟨.inr ⟨by decide,by decide⟩,_,rfl,iI q⟩⟩)
structure BkA where
bk:Addr
dx:Addr
wv:Addr
lv:Addr
fi:Addr
bo:Addr
structure BkAt(t:Adr)(H:Hp)(a:BkA)(m:QM):Prop where
o:H a.bk=some (.ins t.C_Book a.dx [("blocks",.int (m.B:Int)),("pages",.int (m.P:Int)),("stamp",.int m.nx),("where",.ref a.wv),("live",.ref a.lv),("filled",.ref a.fi),("born",.ref a.bo)])
w:H a.wv=some (.dK (dI m.V))
l:H a.lv=some (.lst (m.lv.map V.int))
f:H a.fi=some (.lst (m.fi.map V.int))
b:H a.bo=some (.lst (m.bo.map V.int))
structure Dst(a:BkA):Prop where
lf:a.lv≠a.fi
lb:a.lv≠a.bo
fb:a.fi≠a.bo
theorem BkAt.same{t:Adr}{H H':Hp}{a:BkA}{m:QM}(h:BkAt t H a m)(s:Same H H'):BkAt t H' a m:=⟨s _ _ h.o,s _ _ h.w,s _ _ h.l,s _ _ h.f,s _ _ h.b⟩
theorem BkAt.keep{t:Adr}{H H':Hp}{a:BkA}{m:QM}{F:List Addr}(h:BkAt t H a m)(k:Keep F H H')(n:∀b∈[a.bk,a.wv,a.lv,a.fi,a.bo],b∉F):BkAt t H' a m:=⟨k.k _ _ (n _ (by simp)) h.o,k.k _ _ (n _ (by simp)) h.w,k.k _ _ (n _ (by simp)) h.l,k.k _ _ (n _ (by simp)) h.f,k.k _ _ (n _ (by simp)) h.b⟩
noncomputable def bk0(B P:Nat):QM:=⟨P,B,1,[],List.replicate B 0,List.replicate B 0,List.replicate B 0⟩
noncomputable def qKX(t:Adr):Sp:=λvs H Q _=>∃x dx B P,vs=[.ref x,.int (B:Nat),.int (P:Nat)]∧B≤16∧H x=some (.ins t.C_Book dx [])∧∀(a:BkA) H',a.bk=x→a.dx=dx→BkAt t H' a (bk0 B P)→Dst a→(∀b∈[a.wv,a.lv,a.fi,a.bo],H b=none)→(∀b o,b≠x→H b=some o→H' b=some o)→Q .non H'
theorem q89(T:Txt K mg t)(S:Fns K t):S.aBJ.Ok0 P w mg base 1 (qKX t):=by(
refine S.aBJ.F.ok0 q7X λcdv A _ s H vs Q E hr h=>?_
obtain⟨x,dx,B,P,rfl,hB,hx,q⟩:=h
refine⟨_,(qB (jI (pv 0) (pv 1) rfl) (qB (jI (pv 0) (pv 2) rfl) (qB (jI (pv 0) qH rfl) (qB (jI (pv 0) q8U rfl) (qB (jI (pv 0) (qR q06 (y6 (qA qH qF)) (pv 1)) rfl) (qB (jI (pv 0) (qR q06 (y6 (qA qH qF)) (pv 1)) rfl) (qD (jI (pv 0) (qR q06 (y6 (qA qH qF)) (pv 1)) rfl)))))))),?_⟩
try dsimp-beta-proj-iota-zeta-eta only[wishK,cxK]
refine⟨_,rfl,_,rfl,x,_,dx,_,rfl,hx,T.e9,T.aBV,by decide,?_⟩
refine⟨_,rfl,_,rfl,x,_,dx,_,rfl,qI,T.e9,T.iZ,by show 1<1000;decide,?_⟩
refine⟨_,rfl,x,_,dx,_,rfl,qI,T.e9,T.iC,by show 2<1000;decide,?_⟩
rw[q7C,q7C]
have w1:Wm t.C_Book x dx H (upd H x (.ins t.C_Book dx (putF "stamp" (.int 1) (putF "pages" (.int (P:Int)) (putF "blocks" (.int (B:Int)) []))))) (putF "stamp" (.int 1) (putF "pages" (.int (P:Int)) (putF "blocks" (.int (B:Int)) []))) []:=⟨qI,Up.of (Same.refl H),by simp,by simp⟩
have rep:∀n:Nat,List.replicate n (V.int 0)=(List.replicate n (0:Int)).map V.int:=λn=>by rw[cY]
have eB:((B:Int)).toNat=B:=by lia
refine λwv nwv=>?_
have w2:=w1.add nwv (Same.upd (o:=.dK []) nwv) qI
refine⟨_,rfl,x,_,dx,_,rfl,w2.i,T.e9,T.fV,by show 3<1000;decide,?_⟩
have w2:=w2.put "where" (.ref wv)
refine⟨sz1,λwa A3 n3 s3 e3=>⟨_,rfl,wa,_,_,rfl,rfl,e3,by lia,by lia,λlv B3 m3 r3 hlv=>?_⟩⟩
rw[eB,rep]at hlv
have w3:=(w2.same s3).add m3 r3 hlv
refine⟨_,rfl,x,_,dx,_,rfl,w3.i,T.e9,T.i7,by show 4<1000;decide,?_⟩
have w3:=w3.put "live" (.ref lv)
refine⟨sz1,λwa A4 n4 s4 e4=>⟨_,rfl,wa,_,_,rfl,rfl,e4,by lia,by lia,λfi B4 m4 r4 hfi=>?_⟩⟩
rw[eB,rep]at hfi
have w4:=(w3.same s4).add m4 r4 hfi
refine⟨_,rfl,x,_,dx,_,rfl,w4.i,T.e9,T.fF,by show 5<1000;decide,?_⟩
have w4:=w4.put "filled" (.ref fi)
refine⟨sz1,λwa A5 n5 s5 e5=>⟨_,rfl,wa,_,_,rfl,rfl,e5,by lia,by lia,λbo B5 m5 r5 hbo=>?_⟩⟩
rw[eB,rep]at hbo
have w5:=(w4.same s5).add m5 r5 hbo
refine⟨_,rfl,x,_,dx,_,rfl,w5.i,T.e9,T.oA,by show 6<1000;decide,?_⟩
have w5:=w5.put "born" (.ref bo)
have nd:[wv,lv,fi,bo].Nodup:=w5.n
simp only[mY,kM,gX,not_or,cW]at nd
exact q ⟨x,dx,wv,lv,fi,bo⟩ _ rfl rfl ⟨w5.i,(w5.o (wv,.dK []) (by simp)).1,(w5.o (lv,.lst ((List.replicate B (0:Int)).map V.int)) (by simp)).1,(w5.o (fi,.lst ((List.replicate B (0:Int)).map V.int)) (by simp)).1,(w5.o (bo,.lst ((List.replicate B (0:Int)).map V.int)) (by simp)).1⟩ ⟨nd.2.1.1,nd.2.1.2,nd.2.2.1⟩ (λb' hb'=>w5.fr b' hb') w5.u)
noncomputable def qJI(t:Adr):Sp:=λvs H Q _=>∃a,∃m:QM,∃n,vs=[.ref a.bk,.int n]∧BkAt t H a m∧Q (.int (m.nx*128+n)) H
theorem q8A(T:Txt K mg t)(S:Fns K t):S.aBN.Ok0 P w mg base 2 (qJI t):=by(
refine S.aBN.F.ok0 q7Y λcdv A _ s H vs Q E hr h=>?_
obtain⟨a,m,n,rfl,hb,q⟩:=h
refine⟨_,(qD (qM (qS (qAT T S).mono hr rfl T.aDK T.aDH S.aCX.b .nil qK (qA (qJ (pv 0) rfl) (qA (pv 1) qF))))),?_⟩
try dsimp-beta-proj-iota-zeta-eta only[wishK,cxK]
exact(iV rfl (iF hb.o T.e9 T.iC rfl ⟨_,rfl,_,_,rfl,q⟩)))
noncomputable def spFg(t:Adr):Sp:=λvs H Q _=>∃a,∃m:QM,∃n,vs=[.ref a.bk,.int n]∧BkAt t H a m∧m.Ok∧Dst a∧∀H',BkAt t H' a (m.forget n)→Keep [a.wv,a.lv] H H'→Q .non H'
theorem q5R(T:Txt K mg t)(S:Fns K t):S.aAC.Ok0 P w mg base 1 (spFg t):=by(
refine S.aAC.F.ok0 q1G λcdv A _ s H vs Q E hr h=>?_
obtain⟨a,m,n,rfl,hb,ok,ds,q⟩:=h
have hu:=q6Z hr
have p1:=ok.p1
have p2:=ok.p2
have ob:a.bk≠a.wv:=jP hb.o hb.w (by intro z;cases z)
have ol:a.bk≠a.lv:=jP hb.o hb.l (by intro z;cases z)
have wl:a.wv≠a.lv:=jP hb.w hb.l (by intro z;cases z)
have wf:a.fi≠a.wv:=jP hb.f hb.w (by intro z;cases z)
have wb:a.bo≠a.wv:=jP hb.b hb.w (by intro z;cases z)
refine⟨_,(qD (jE (qHQ (qDH hu (pv 1) (qJ (pv 0) rfl))) (qB (qX (i:=2) q1G.nd rfl (Or.inl rfl) (qDJ (qJ (pv 0) rfl) (pv 1) ⟨rfl,rfl,rfl,rfl⟩)) (qD (q2W (qJ (pv 0) rfl) (qR v7 (pv 2) (qJ (pv 0) rfl)) q0V qH qHT yV))) qQ)),?_⟩
try dsimp-beta-proj-iota-zeta-eta only[wishK,cxK]
refine⟨_,rfl,iV rfl (iF hb.o T.e9 T.fV rfl ⟨a.wv,_,rfl,DGet.k (k:=Sum.inl n) hb.w,_,rfl,?_⟩)⟩
rcases QM.find_V (m:=m) (n:=n)with⟨p,hp,ef⟩|⟨hn,ef⟩
·have hv:(n,p)∈m.V:=hp;rw[q7Q ok.nd hv];refine iteT ?_;refine(iV rfl (iF hb.o T.e9 T.fV rfl ⟨a.wv,rfl,.inl ⟨_,.inl hb.w⟩,_,rfl,_,Sum.inl n,_,hb.w,rfl,q7Q ok.nd hv,?_⟩));rw[qEB];have k1:Keep [a.wv,a.lv] H (upd H a.wv (.dK (dI (jF m.V n)))):=Keep.upd hb.w (λ_ z=>by cases z) (by simp);have w1:(upd H a.wv (.dK (dI (jF m.V n)))) a.wv=some (.dK (dI (jF m.V n))):=qI;have u1:∀b o,b≠a.wv→H b=some o→(upd H a.wv (.dK (dI (jF m.V n)))) b=some o:=λb o nb e=>by rw[qC nb];exact e
 generalize upd H a.wv (.dK (dI (jF m.V n)))=H1 at k1 w1 u1 ⊢;obtain⟨c,hc,ec⟩:=ok.blk _ hp;have ec:p / (m.P:Int)=(c:Int):=ec;have hcl:c<m.lv.length:=by rw[ok.ll];exact hc
 have l1:=u1 _ _ wl.symm hb.l;refine(iV rfl (iF (u1 _ _ ob hb.o) T.e9 T.i7 rfl ⟨_,rfl,iV rfl (iF (u1 _ _ ob hb.o) T.e9 T.iZ rfl (iI ⟨⟨by lia,by lia⟩,iL (k:=_) (v:=_) (SqL.of l1) (by rw[ec];exact atV hcl) (iI ⟨a.lv,_,_,c,rfl,rfl,l1,(by rw[ec];exact q3M (by rw[h9];exact hcl)),?_⟩)⟩))⟩));rw[setV];have el:(m.forget n).lv=m.lv.set c (m.lv.getD c 0-1):=by show BM.lvF m.P m.V m.lv n=_;unfold BM.lvF;rw[ef];show m.lv.set (p / (m.P:Int)).toNat (m.lv.getD (p / (m.P:Int)).toNat 0-1)=_;rw[ec,show((c:Int)).toNat=c by lia]
 refine q _ ⟨?_,?_,?_,?_,?_⟩ (k1.trans (Keep.upd l1 (λ_ z=>by cases z) (by simp)))
 ·rw[qC ol];exact u1 _ _ ob hb.o
 ·rw[qC wl];exact w1
 ·rw[el];exact qI
 ·rw[qC ds.lf.symm];exact u1 _ _ wf hb.f
 rw[qC ds.lb.symm];exact u1 _ _ wb hb.b
rw[q5B (λz=>by obtain⟨r,hr',e⟩:=mE.mp z;exact hn r hr' e)]
refine iteF ?_
have el:(m.forget n).lv=m.lv:=by show BM.lvF m.P m.V m.lv n=_;unfold BM.lvF;rw[ef]
have eV:(m.forget n).V=m.V:=qG5 λr hr'=>hn r hr'
exact q H ⟨hb.o,by rw[eV];exact hb.w,by rw[el];exact hb.l,hb.f,hb.b⟩ Keep.refl)
theorem q5S{V:Mp}:(dI V).length=V.length:=by unfold dI;rw[h9]
noncomputable def spNt(t:Adr):Sp:=λvs H Q _=>∃a,∃m:QM,∃b f n,vs=[.ref a.bk,.int ((b*m.P+f:Nat):Int),.int n]∧BkAt t H a m∧m.Ok∧Dst a∧b<m.B∧f<m.P∧m.fi.getD b 0=(f:Int)∧∀H',BkAt t H' a (m.put b f n)→Keep [a.bk,a.wv,a.lv,a.fi,a.bo] H H'→Q .non H'
theorem q8B(T:Txt K mg t)(S:Fns K t):S.aBL.Ok0 P w mg base 2 (spNt t):=by(
refine S.aBL.F.ok0 q39 λcdv A _ s H vs Q E hr h=>?_
obtain⟨a,m,b,f,n,rfl,hb,ok,ds,hB,hf,ef,q⟩:=h
have hu:=q6Z hr
have p1:=ok.p1
have p2:=ok.p2
have ob:a.bk≠a.wv:=jP hb.o hb.w (by intro z;cases z)
have ol:a.bk≠a.lv:=jP hb.o hb.l (by intro z;cases z)
have of':a.bk≠a.fi:=jP hb.o hb.f (by intro z;cases z)
have oo:a.bk≠a.bo:=jP hb.o hb.b (by intro z;cases z)
have wl:a.wv≠a.lv:=jP hb.w hb.l (by intro z;cases z)
have wf:a.fi≠a.wv:=jP hb.f hb.w (by intro z;cases z)
have wb:a.bo≠a.wv:=jP hb.b hb.w (by intro z;cases z)
have eb:((b*m.P+f:Nat):Int) / (m.P:Int)=(b:Int):=by rw[←dG,yA hf]
refine⟨_,(qB (qX (i:=3) q39.nd rfl (Or.inl rfl) (qR v7 (pv 1) (qJ (pv 0) rfl))) (qB (qV (j0 (pv 0) T.e9 T.aB9 (q5R T S).mono hr S.aAC.b .nil qK (qA (pv 2) qF))) (qB (qFJ hu (qJ (pv 0) rfl) (pv 2) (pv 1) rfl) (qB (q2W (qJ (pv 0) rfl) (pv 3) q0V qH q4S yV) (q4I (jE (qU q0L (qZ jK (qJ (pv 0) rfl) (pv 3) (λ_ _=>rfl)) qH (qY _)) (qD (q3H (qJ (pv 0) rfl) (q4R (qJ (pv 0) rfl) (pv 3) yV))) qQ) (qB (q2W (qJ (pv 0) rfl) (pv 3) q0V qH q4S yV) (qD (q6P (pv 0) qH qHW)))))))),?_⟩
try dsimp-beta-proj-iota-zeta-eta only[wishK,cxK]
refine⟨_,rfl,iV rfl (iF hb.o T.e9 T.iZ rfl (iI ⟨⟨by lia,by lia⟩,?_⟩))⟩
try dsimp only
rw[eb]
refine(iV rfl (iM hb.o rfl ⟨_,rfl,a,m,n,rfl,hb,ok,ds,λH1 hb1 k1=>?_⟩))
have k1:Keep [a.bk,a.wv,a.lv,a.fi,a.bo] H H1:=k1.mono (by intro x hx;simp at hx ⊢;rcases hx with rfl|rfl<;>simp)
have lnV:(jF m.V n).length≤65:=mF (mH _ _) ok.lenV
have w0:H1 a.wv=some (.dK (dI (jF m.V n))):=hb1.w
refine⟨_,rfl,iV rfl (iF hb1.o T.e9 T.fV rfl ⟨_,rfl,a.wv,_,rfl,.inl ⟨_,Sum.inl n,w0,rfl,(by rw[q5S];exact dW (m:=65) (by lia) (by decide)),rfl⟩,?_⟩)⟩
rw[qG6,qCN]
have k2:Keep [a.bk,a.wv,a.lv,a.fi,a.bo] H1 (upd H1 a.wv (.dK (dI (jF m.V n++[(n,((b*m.P+f:Nat):Int))])))):=Keep.upd w0 (λ_ z=>by cases z) (by simp)
have w2:(upd H1 a.wv (.dK (dI (jF m.V n++[(n,((b*m.P+f:Nat):Int))])))) a.wv=some (.dK (dI (jF m.V n++[(n,((b*m.P+f:Nat):Int))]))):=qI
have u2:∀x o,x≠a.wv→H1 x=some o→(upd H1 a.wv (.dK (dI (jF m.V n++[(n,((b*m.P+f:Nat):Int))])))) x=some o:=λx o nb e=>by rw[qC nb];exact e
generalize upd H1 a.wv (.dK (dI (jF m.V n++[(n,((b*m.P+f:Nat):Int))])))=H2 at k2 w2 u2 ⊢
have o2:=u2 _ _ ob hb1.o
have l2:H2 a.lv=some (.lst ((BM.lvF m.P m.V m.lv n).map V.int)):=u2 _ _ wl.symm hb1.l
have f2:H2 a.fi=some (.lst (m.fi.map V.int)):=u2 _ _ wf hb1.f
have b2:H2 a.bo=some (.lst (m.bo.map V.int)):=u2 _ _ wb hb1.b
have hbl:b<(BM.lvF m.P m.V m.lv n).length:=by rw[show(BM.lvF m.P m.V m.lv n).length=m.B from(ok.forget n).ll];exact hB
have hbf:b<m.fi.length:=by rw[ok.lf];exact hB
have hbo:b<m.bo.length:=by rw[ok.lo];exact hB
refine(iV rfl (iF o2 T.e9 T.i7 rfl ⟨_,rfl,iL (k:=_) (v:=_) (SqL.of l2) (atV hbl) (iI ⟨a.lv,_,_,b,rfl,rfl,l2,q3M (by rw[h9];exact hbl),?_⟩)⟩))
rw[setV]
have k3:Keep [a.bk,a.wv,a.lv,a.fi,a.bo] H2 (upd H2 a.lv (.lst (((BM.lvF m.P m.V m.lv n).set b ((BM.lvF m.P m.V m.lv n).getD b 0+1)).map V.int))):=Keep.upd l2 (λ_ z=>by cases z) (by simp)
have l3:(upd H2 a.lv (.lst (((BM.lvF m.P m.V m.lv n).set b ((BM.lvF m.P m.V m.lv n).getD b 0+1)).map V.int))) a.lv=some (.lst (((BM.lvF m.P m.V m.lv n).set b ((BM.lvF m.P m.V m.lv n).getD b 0+1)).map V.int)):=qI
have u3:∀x o,x≠a.lv→H2 x=some o→(upd H2 a.lv (.lst (((BM.lvF m.P m.V m.lv n).set b ((BM.lvF m.P m.V m.lv n).getD b 0+1)).map V.int))) x=some o:=λx o nb e=>by rw[qC nb];exact e
generalize upd H2 a.lv (.lst (((BM.lvF m.P m.V m.lv n).set b ((BM.lvF m.P m.V m.lv n).getD b 0+1)).map V.int))=H3 at k3 l3 u3 ⊢
have o3:=u3 _ _ ol o2
have w3:=u3 _ _ wl w2
have f3:=u3 _ _ ds.lf.symm f2
have b3:=u3 _ _ ds.lb.symm b2
refine⟨λσ' H'=>σ'=[some (.ref a.bk),some (.int ((b*m.P+f:Nat):Int)),some (.int n),some (.int (b:Int))]∧Keep [a.bk,a.wv,a.lv,a.fi,a.bo] H3 H'∧H' a.bo=some (.lst ((m.put b f n).bo.map V.int))∧∀x o,x≠a.bo→H3 x=some o→H' x=some o,?_,?_⟩
·refine(iV rfl (iF o3 T.e9 T.fF rfl ⟨_,rfl,iL (k:=_) (v:=_) (SqL.of f3) (atV hbf) ⟨rfl,_,rfl,?_⟩⟩));rw[q0X];by_cases z:m.fi.getD b 0=0
 ·rw[hV z];refine iteT ?_;refine(iV rfl (iF o3 T.e9 T.iC rfl (iV rfl (iF o3 T.e9 T.oA rfl ⟨_,rfl,a.bo,_,_,b,rfl,rfl,b3,q3M (by rw[h9];exact hbo),?_⟩))));rw[setV];refine⟨rfl,Keep.upd b3 (λ_ z=>by cases z) (by simp),?_,λx o nb e=>by rw[qC nb];exact e⟩;rw[qI];show _=some (HO.lst ((if m.fi.getD b 0=0 then m.bo.set b m.nx else m.bo).map V.int));rw[kI z];rfl
 rw[kE z];refine iteF ⟨rfl,Keep.refl,?_,λx o _ e=>e⟩;show _=some (HO.lst ((if m.fi.getD b 0=0 then m.bo.set b m.nx else m.bo).map V.int));rw[kF z];exact b3
rintro σ' H4 ⟨rfl,k4,b4,u4⟩
have o4:=u4 _ _ oo o3
have w4:=u4 _ _ wb.symm w3
have l4:=u4 _ _ ds.lb l3
have f4:=u4 _ _ ds.fb f3
refine(iV rfl (iF o4 T.e9 T.fF rfl ⟨_,rfl,iL (k:=_) (v:=_) (SqL.of f4) (atV hbf) (iI ⟨a.fi,_,_,b,rfl,rfl,f4,q3M (by rw[h9];exact hbf),?_⟩)⟩))
rw[setV]
have k5:Keep [a.bk,a.wv,a.lv,a.fi,a.bo] H4 (upd H4 a.fi (.lst ((m.fi.set b (m.fi.getD b 0+1)).map V.int))):=Keep.upd f4 (λ_ z=>by cases z) (by simp)
have f5:(upd H4 a.fi (.lst ((m.fi.set b (m.fi.getD b 0+1)).map V.int))) a.fi=some (.lst ((m.fi.set b (m.fi.getD b 0+1)).map V.int)):=qI
have u5:∀x o,x≠a.fi→H4 x=some o→(upd H4 a.fi (.lst ((m.fi.set b (m.fi.getD b 0+1)).map V.int))) x=some o:=λx o nb e=>by rw[qC nb];exact e
generalize upd H4 a.fi (.lst ((m.fi.set b (m.fi.getD b 0+1)).map V.int))=H5 at k5 f5 u5 ⊢
have o5:=u5 _ _ of' o4
refine⟨_,rfl,a.bk,_,a.dx,_,_,rfl,o5,T.e9,T.iC,rfl,_,_,rfl,rfl,a.dx,_,o5,by show 7<1000;decide,?_⟩
refine q _ ⟨?_,?_,?_,?_,?_⟩ ((((k1.trans k2).trans k3).trans k4).trans (k5.trans (Keep.upd o5 (λ_ z=>by cases z) (by simp))))
·exact qI
·rw[qC ob.symm];exact u5 _ _ wf.symm w4
·rw[qC ol.symm];exact u5 _ _ ds.lf l4
·rw[qC of'.symm];exact f5
rw[qC oo.symm]
exact u5 _ _ ds.fb.symm b4)
noncomputable def lamE:Expr:=match((jL jM).getLast?:Option Stmt)with
|some (Stmt.Return (some (Expr.Call _ _ (k::_) _)) _)=>k.value
|_=>Expr.Name "" ⟨0,0,0,0⟩
noncomputable abbrev lamA:Arguments:=match lamE with
| .Lambda a _ _ _=>a
|_=>jZ jM
noncomputable abbrev lamB:Expr:=match lamE with
| .Lambda _ b _ _=>b
|_=>lamE
noncomputable abbrev qF6:Scope:=match lamE with
| .Lambda _ _ s _=>s
|_=>qE jM
noncomputable abbrev lamP:Pos:=match lamE with
| .Lambda _ _ _ p=>p
|_=>⟨0,0,0,0⟩
noncomputable abbrev lamQ:Str:=(PyProof.Rows.envOfC "Plain.free" (qE jM) 0 0 .none).qual++"<lambda>"
noncomputable abbrev q5T(clos:List (Str×Addr))(pm ct:Value)(c:Addr):FuncData:=W.kla_fn "<lambda>" lamQ lamA lamB qF6 clos pm (.ref c) ct
noncomputable def tri(c:Addr):Array Value:=#[rawInt lamP.line,rawInt lamP.col,.ref c]
noncomputable def lbE:Expr:=match((jL qP).getLast?:Option Stmt)with
|some (Stmt.Return (some (Expr.Subscript (Expr.Call _ _ (k::_) _) _ _)) _)=>k.value
|_=>Expr.Name "" ⟨0,0,0,0⟩
noncomputable abbrev lbA:Arguments:=match lbE with
| .Lambda a _ _ _=>a
|_=>jZ qP
noncomputable abbrev lbB:Expr:=match lbE with
| .Lambda _ b _ _=>b
|_=>lbE
noncomputable abbrev lbSc:Scope:=match lbE with
| .Lambda _ _ s _=>s
|_=>qE qP
noncomputable abbrev lbP:Pos:=match lbE with
| .Lambda _ _ _ p=>p
|_=>⟨0,0,0,0⟩
noncomputable abbrev lbQ:Str:=(PyProof.Rows.envOfC "Even.block_to_change" (qE qP) 0 0 .none).qual++"<lambda>"
noncomputable abbrev lbFd(pm ct:Value)(c:Addr):FuncData:=W.kla_fn "<lambda>" lbQ lbA lbB lbSc [] pm (.ref c) ct
noncomputable def triB(c:Addr):Array Value:=#[rawInt lbP.line,rawInt lbP.col,.ref c]
noncomputable def TbB(t:Adr)(H:Hp):Prop:=∃ps,H t.eU=some (.tbl ps)∧(ps=#[]∨∃c,ps=triB c∧H c=some (cdO c lbQ))
noncomputable def TbF(t:Adr)(H:Hp):Prop:=∃ps,H t.eT=some (.tbl ps)∧(ps=#[]∨∃c,ps=tri c∧H c=some (cdO c lamQ))∧TbB t H
noncomputable def Tex(o:HO):Prop:=(∃ps,o=.tbl ps)∨∃p,o=.ext p
theorem TbB.gen{t:Adr}{H H':Hp}(h:TbB t H)(k:∀b o,Tex o→H b=some o→H' b=some o):TbB t H':=by(
obtain⟨ps,hT,h⟩:=h
refine⟨ps,k _ _ (.inl ⟨_,rfl⟩) hT,?_⟩
rcases h with h|⟨c,h,a⟩
·exact .inl h
exact .inr ⟨c,h,k _ _ (.inr ⟨_,rfl⟩) a⟩)
theorem TbF.gen{t:Adr}{H H':Hp}(h:TbF t H)(k:∀b o,Tex o→H b=some o→H' b=some o):TbF t H':=by(
obtain⟨ps,hT,h,hB⟩:=h
refine⟨ps,k _ _ (.inl ⟨_,rfl⟩) hT,?_,hB.gen k⟩
rcases h with h|⟨c,h,a⟩
·exact .inl h
exact .inr ⟨c,h,k _ _ (.inr ⟨_,rfl⟩) a⟩)
theorem TbF.same{t:Adr}{H H':Hp}(s:Same H H')(h:TbF t H):TbF t H':=h.gen λ_ _ _ e=>s _ _ e
theorem yN{H:Hp}{b c:Addr}{o o':HO}(x:Tex o)(e:H b=some o)(e':H c=some o')(n:¬Tex o'):b≠c:=λz=>by rw[z,e']at e;exact n (by rw[kU e];exact x)
theorem q24{C d:Addr}{fs:List (Str×V)}:¬Tex (.ins C d fs):=λz=>by rcases z with⟨_,z⟩|⟨_,z⟩<;>cases z
theorem vA{xs:List V}:¬Tex (.lst xs):=λz=>by rcases z with⟨_,z⟩|⟨_,z⟩<;>cases z
structure Sto where
s:Addr
sd:Addr
tm:Addr
td:Addr
c:Addr
a:CA
k:BkA
ru:V
pa:V
noncomputable def bf(k:BkA):List Addr:=[k.bk,k.wv,k.lv,k.fi,k.bo]
noncomputable def sf(x:Sto):List Addr:=foot x.c x.a++bf x.k
structure Fit(m:CM)(q:QM):Prop where
ok:m.Ok
oq:q.Ok
eB:m.bl=(q.B:Int)
eP:m.pg=(q.P:Int)
structure StAt(t:Adr)(H:Hp)(x:Sto)(r2 r3 r4 r5:V)(m:CM)(q:QM):Prop where
o:H x.s=some (.ins t.C_Even x.sd [("chip",.ref x.c),("terms",.ref x.tm),("book",.ref x.k.bk),("rule",x.ru),("papers",x.pa)])
te:H x.tm=some (.ins t.C_Terms x.td (teF (.int m.bl) (.int m.pg) r2 r3 r4 r5))
ch:ChipAt t.C_Chip H x.c x.a m
bk:BkAt t H x.k q
tb:TbF t H
ds:Dst x.k
d1:∀b∈x.a.li::foot x.c x.a,b∉bf x.k
d2:∀b∈[x.s,x.tm],b∉sf x
section
variable{H H':Hp}{x:Sto}{r2 r3 r4 r5:V}{m:CM}{q:QM}
theorem StAt.same(h:StAt t H x r2 r3 r4 r5 m q)(s:Same H H'):StAt t H' x r2 r3 r4 r5 m q:=⟨s _ _ h.o,s _ _ h.te,h.ch.same s,h.bk.same s,h.tb.same s,h.ds,h.d1,h.d2⟩
theorem TbF.ne(h:TbF t H){b:Addr}{o:HO}(e:H b=some o)(n:∀ps,o≠ .tbl ps):b≠t.eT:=λz=>by obtain⟨ps,hT,_⟩:=h;rw[z,hT]at e;exact n ps (kU e).symm
theorem StAt.nT(h:StAt t H x r2 r3 r4 r5 m q):∀b∈[x.s,x.tm]++(x.a.li::sf x),b∉[t.eT]:=by(
intro b hb z
have z:b=t.eT:=by simpa using z
have ne:∀{b:Addr} {o:HO},H b=some o→(∀ps,o≠ .tbl ps)→b≠t.eT:=λe n=>h.tb.ne e n
obtain⟨rs,er,_⟩:=h.ch.rc
have hb:b=x.s∨b=x.tm∨b=x.a.li∨b=x.c∨b=x.a.bo∨b=x.a.cl∨b=x.a.dc∨b=x.a.br∨b=x.a.rc∨b=x.k.bk∨b=x.k.wv∨b=x.k.lv∨b=x.k.fi∨b=x.k.bo:=by simpa[sf,bf,foot]using hb
rcases hb with y|y|y|y|y|y|y|y|y|y|y|y|y|y<;>rw[y]at z
·exact ne h.o (λ_ z=>by cases z) z
·exact ne h.te (λ_ z=>by cases z) z
·exact ne h.ch.li (λ_ z=>by cases z) z
·exact ne h.ch.ins (λ_ z=>by cases z) z
·exact ne h.ch.bo (λ_ z=>by cases z) z
·exact ne h.ch.cl (λ_ z=>by cases z) z
·exact ne h.ch.dc (λ_ z=>by cases z) z
·exact ne h.ch.br (λ_ z=>by cases z) z
·exact ne er (λ_ z=>by cases z) z
·exact ne h.bk.o (λ_ z=>by cases z) z
·exact ne h.bk.w (λ_ z=>by cases z) z
·exact ne h.bk.l (λ_ z=>by cases z) z
·exact ne h.bk.f (λ_ z=>by cases z) z
exact ne h.bk.b (λ_ z=>by cases z) z)
theorem StAt.nX(h:StAt t H x r2 r3 r4 r5 m q){b:Addr}{o:HO}(e:H b=some o)(to:Tex o):b∉[x.s,x.tm]++(x.a.li::sf x):=λhb=>by(
obtain⟨rs,er,_⟩:=h.ch.rc
have hb:b=x.s∨b=x.tm∨b=x.a.li∨b=x.c∨b=x.a.bo∨b=x.a.cl∨b=x.a.dc∨b=x.a.br∨b=x.a.rc∨b=x.k.bk∨b=x.k.wv∨b=x.k.lv∨b=x.k.fi∨b=x.k.bo:=by simpa[sf,bf,foot]using hb
rcases hb with y|y|y|y|y|y|y|y|y|y|y|y|y|y
·exact yN to e h.o q24 y
·exact yN to e h.te q24 y
·exact yN to e h.ch.li (λz=>by rcases z with⟨_,z⟩|⟨_,z⟩<;>cases z) y
·exact yN to e h.ch.ins q24 y
·exact yN to e h.ch.bo vA y
·exact yN to e h.ch.cl vA y
·exact yN to e h.ch.dc vA y
·exact yN to e h.ch.br vA y
·exact yN to e er vA y
·exact yN to e h.bk.o q24 y
·exact yN to e h.bk.w (λz=>by rcases z with⟨_,z⟩|⟨_,z⟩<;>cases z) y
·exact yN to e h.bk.l vA y
·exact yN to e h.bk.f vA y
exact yN to e h.bk.b vA y)
theorem StAt.keep(h:StAt t H x r2 r3 r4 r5 m q){F:List Addr}(k:Keep F H H')(n:∀b∈[x.s,x.tm]++(x.a.li::sf x),b∉F)(tb:TbF t H'):StAt t H' x r2 r3 r4 r5 m q:=⟨k.k _ _ (n _ (by simp)) h.o,k.k _ _ (n _ (by simp)) h.te,h.ch.keep k (λb hb=>n b (by
  rcases kM.mp hb with rfl|hb
  ·simp
  ·simp[sf,hb])),h.bk.keep k (λb hb=>n b (by
  have hb:b∈bf x.k:=hb;simp[sf,hb])),tb,h.ds,h.d1,h.d2⟩
theorem StAt.kT(h:StAt t H x r2 r3 r4 r5 m q)(k:Keep [t.eT] H H')(tb:TbF t H'):StAt t H' x r2 r3 r4 r5 m q:=h.keep k h.nT tb
end
noncomputable def spGd(t:Adr):Sp:=λvs H Q _=>∃x r2 r3 r4 r5 m q,vs=[.ref x.s]∧StAt t H x r2 r3 r4 r5 m q∧Fit m q∧NewO H (.lst ((yW q.B m.br).map vn)) Q
theorem uU(T:Txt K mg t)(S:Fns K t):S.i3.Ok0 P w mg base 5 (spGd t):=by(
refine S.i3.F.ok0 q67 λcdv A _ s H vs Q E hr h=>?_
obtain⟨x,r2,r3,r4,r5,m,q,rfl,hs,ft,k⟩:=h
have b2:=ft.oq.b2
have eB:=ft.eB
refine⟨_,(qD (qM (yY ["self","block"] [0] rfl (q6K rfl T.aBY (qA (qJ (qJ (pv 0) rfl) rfl) qF)) (λ_ _ _ _ _=>(qW (i:=1) (show List.Nodup (["self","block"]:List Str)from by decide) rfl (Or.inl rfl))) (λ_ _ _ _ _=>(uS (yE (jR (j0 (yO (K:=K) rfl (pv 0) rfl) T.eZ T.aB1 (q5Q T S).mono hr S.tY.b .nil qK (qA (pv 1) qF)))))) (λ_ _ _ _ _=>(pv 1)) (by kernel_rfl) (y8 (by decide))))),?_⟩
try dsimp-beta-proj-iota-zeta-eta only[wishK,cxK]
refine(iV rfl (iF hs.o T.eW T.fA rfl (iF hs.te T.fE T.iA rfl ⟨m.bl,rfl,by lia,by lia,λD H2 nD s2 hD=>?_⟩)))
refine q75 (D:=D) (λi H3=>Same H H3∧H3 D=some (.lst (((List.range i).filter λb=>!(m.br.getD b false)).map vn))) ⟨s2,hD⟩ (λi H3 hi hp=>?_) (λH3 hp=>?_)
·obtain⟨sm,hd⟩:=hp;have hi:i<q.B:=by lia
 have h3:=hs.same sm;refine(iV rfl (iF h3.o T.eW T.fM rfl (iM h3.ch.ins rfl ⟨_,rfl,x.c,x.a,m,_,rfl,h3.ch,ft.ok,by lia,by lia,?_⟩)));rw[show(0+(i:Int)).toNat=i by lia,Int.zero_add];refine⟨_,rfl,?_⟩;rw[lN,g8,mW];cases z:m.br.getD i false with
 |true=>refine iteF ⟨sm,?_⟩;rw[hd,gA,z];simp
 |false=>
  refine iteT ?_;refine⟨_,rfl,_,hd,?_,λb o e=>?_,?_⟩
  ·rw[h9];have:((List.range i).filter λb=>!(m.br.getD b false)).length≤i:=mF (mH _ _) (by rw[gD];exact kN _);have:(16:Nat)<sizeLine:=by decide
   lia
  ·rw[qC (qG e nD)];exact sm _ _ e
  rw[qI,gA,z];rfl
obtain⟨sm,hd⟩:=hp
rw[show m.bl.toNat=q.B by lia]at hd
exact k D H3 nD sm hd)
noncomputable def spLm(t:Adr)(x:Sto)(g c:Addr)(fd:FuncData):Sp:=λvs H Q _=>∃r2 r3 r4 r5,∃m:CM,∃q:QM,∃b:Nat,vs=[.int (b:Int)]∧StAt t H x r2 r3 r4 r5 m q∧Fit m q∧b<q.B∧H g=some (fnO g fd)∧H c=some (cdO c lamQ)∧∀tp H',H tp=none→Same H H'→H' tp=some (.tup [.int (m.cl.getD b 0),.int (b:Int)])→Q (.ref tp) H'
theorem qJJ(T:Txt K mg t)(S:Fns K t){g c ca:Addr}{pm ct:Value}{x:Sto}(hc:base.IsCell ca (some (.ref x.s))):
 FnOk P w K mg base CX0 5 g (q5T [("self",ca)] pm ct c) ["block"] (spLm t x g c (q5T [("self",ca)] pm ct c)):=by(
refine qG8 (k:=4) (x0:="block") (fvs:=[.ref x.s]) (qCP (u:=.ref x.s) rfl rfl rfl (by decide+kernel) (by decide+kernel) (by decide+kernel) rfl hc) (λvs H Q E h=>?_) (λvs H Q E h=>?_) (λA outer s H v0 Q E hr h=>?_)
·repeat obtain⟨_,h⟩:=h
 all_goals subst_vars;rfl
·obtain⟨r2,r3,r4,r5,m,q,b,rfl,_,_,_,a,d,_⟩:=h;exact⟨a,d⟩
obtain⟨r2,r3,r4,r5,m,q,b,e,hs,ft,hb,_,_,k⟩:=h
obtain rfl:v0=.int (b:Int):=by simpa using e
have eB:=ft.eB
refine⟨_,yX (qA (j0 (qJ (pv 1) rfl) T.eZ T.oF (v4 T S).mono hr S.iS.b .nil qK (qA (pv 0) qF)) (qA (pv 0) qF)),?_⟩
refine(iV rfl (iF hs.o T.eW T.fM rfl (iM hs.ch.ins rfl ⟨_,rfl,x.c,x.a,m,_,rfl,hs.ch,ft.ok,by lia,by lia,?_⟩)))
rw[mI]
exact⟨_,rfl,sz2,k⟩)
theorem qCT{clos:List (Str×Addr)}{c:Addr}{pm ct:Value}:jO K (q5T clos pm ct c) ["block"] []:=jO.all λus hl=>match us,hl with| [_],_=>rfl
theorem qGY(T:Txt K mg t){H:Hp}(h:TbF t H):∃ps,H t.eT=some (.tbl ps)∧TriplesOk ps.toList∧((codeAmong lamP ps.toList=none∧∀c H',H' t.eT=some (.tbl (ps++tri c))→H' c=some (cdO c lamQ)→(∀b o,b≠t.eT→H b=some o→H' b=some o)→TbF t H')∨∃c,codeAmong lamP ps.toList=some (.ref c)∧H c=some (cdO c lamQ)):=by(
obtain⟨ps,hT,h,hB⟩:=h
rcases h with rfl|⟨c,rfl,a⟩
·refine⟨_,hT,trivial,.inl ⟨rfl,λc H' e1 e2 k=>⟨_,e1,.inr ⟨c,rfl,e2⟩,?_⟩⟩⟩;obtain⟨ps',hT',h'⟩:=hB;refine⟨ps',k _ _ (T.tS.symm) hT',?_⟩;rcases h' with h'|⟨c',h',a'⟩
 ·exact .inl h'
 exact .inr ⟨c',h',k _ _ (λz=>by rw[z,hT]at a';cases a') a'⟩
exact⟨_,hT,trivial,.inr ⟨c,rfl,a⟩⟩)
theorem q7B(T:Txt K mg t)(S:Fns K t){cells:List (Str×Addr)}{σ:St}{H4:Hp}{D f c':Addr}{x:Sto}{r2 r3 r4 r5:V}{m:CM}{q:QM}{clos:List (Str×Addr)}{pm ct:Value}{Q:VK}(hσ:σ[0]?=some (some (.ref x.s)))(hcl:∀ca,cells.lookup ("self":Str)=some ca→clos=[(("self":Str),ca)])
 (hs:StAt t H4 x r2 r3 r4 r5 m q) (ft:Fit m q) (hD:H4 D=some (.lst ((yM q.B m.br q.fi).map vn))) (hf:H4 f=some (fnO f (q5T clos pm ct c'))) (hc:H4 c'=some (cdO c' lamQ)) (k:∀l p H',FreeIs q.B m.br m.cl q.fi l→H4 p=none→Same H4 H'→H' p=some (.lst (l.map vn))→Q (.ref p) H'):
 ∃(f':Addr) (fd:FuncData) (sp:Heap→Sp),V.ref f=.ref f'∧(∀base',(∀b o,base.get? b=some o→base'.get? b=some o)→q0Z cells σ base' [(0,"self")]→FnOk P w K mg base' CX0 5 f' fd ["block"] (sp base'))∧jO K fd ["block"] []∧∃(l:Addr) (us:List V) (Pv:Nat→List V→Hp→Prop),[V.ref D]=[.ref l]∧SqL K H4 l us∧us.length<64∧Pv 0 [] H4∧(∀base' i x zs H',q0Z cells σ base' [(0,"self")]→us[i]?=some x→Pv i zs H'→sp base' [x] H' (λz H''=>Pv (i+1) (zs++[z]) H'') E0)∧∀zs H',zs.length=us.length→Pv us.length zs H'→∃kk m,Paired (TupI K H') zs kk∧(∀k∈kk,k.length=m)∧0<m∧∀q:List Nat,q.Perm (List.range us.length)→(q.map λi=>kk.getD i []).Pairwise (λa b=>lx b a=false)→NewO H' (.lst (q.map λi=>us.getD i .non)) Q:=by(
have b2:=ft.oq.b2
have ln:=qCR (B:=q.B) (br:=m.br) (fi:=q.fi)
refine⟨f,q5T clos pm ct c',λ_=>spLm t x f c' (q5T clos pm ct c'),rfl,λbase' _ cv=>?_,qCT,D,_,λi zs H'=>Same H4 H'∧Paired (TupD H') zs (((yM q.B m.br q.fi).take i).map (keyN m.cl)),rfl,SqL.of hD,by rw[h9];lia,⟨Same.refl H4,.nil⟩,λbase' i y zs H' _ hy hp=>?_,λzs H' lz hp=>?_⟩
·obtain⟨ca,u,hk,ru,hcell⟩:=cv (0,"self") (kD.mpr rfl) (.ref x.s) hσ;obtain rfl:u=Value.ref x.s:=ru;rw[hcl ca hk];exact qJJ T S hcell
·obtain⟨sm,pr⟩:=hp;rw[mG]at hy;obtain⟨b,hb,rfl⟩:=mO.mp hy;have mb:=q76.mp (gE hb);refine⟨r2,r3,r4,r5,m,q,b,rfl,hs.same sm,ft,mb.1.1,sm _ _ hf,sm _ _ hc,λtp H5 ntp s5 e5=>⟨sm.trans s5,?_⟩⟩;rw[q77 (f:=keyN m.cl) hb];exact L2.Paired.snoc (vH pr s5) ⟨tp,rfl,e5⟩
obtain⟨sm,pr⟩:=hp
rw[h9,gC]at pr
refine⟨_,2,qBK pr,λk hk=>?_,by decide,λq' p1 p2 p H5 np s5 e5=>?_⟩
·obtain⟨b,_,rfl⟩:=mE.mp hk;rfl
rw[h9]at p1
have hin:∀i∈q',i<(yM q.B m.br q.fi).length:=λi hi=>mQ.mp (p1.mem_iff.mp hi)
rw[q5H (e:=0) hin]at e5
exact k _ p H5 (qGB p1 p2) (Same.free sm np) (sm.trans s5) e5)
noncomputable def spFr(t:Adr):Sp:=λvs H Q _=>∃x r2 r3 r4 r5 m q,vs=[.ref x.s]∧StAt t H x r2 r3 r4 r5 m q∧Fit m q∧∀l p H',FreeIs q.B m.br m.cl q.fi l→H p=none→Keep [t.eT] H H'→TbF t H'→H' p=some (.lst (l.map vn))→Q (.ref p) H'
theorem zN(T:Txt K mg t)(S:Fns K t)(B:BmIn base mg):FnOk P w K mg base (CX0) 8 t.f_Plain_free S.oQ ["self"] (spFr t):=by(
refine S.aCV.ok0 q2E λA _ s H vs Q E hr h=>?_
obtain⟨x,r2,r3,r4,r5,m,q,rfl,hs,ft,k⟩:=h
have b2:=ft.oq.b2
have eB:=ft.eB
refine⟨_,(qB (q57 (i:=1) ["self","block"] [0] rfl (jN (qT (pv 0) T.eW T.oS (uU T S).mono hr S.i3.b .nil qK)) (λ_ _ _ _ _=>(qW (i:=1) (show List.Nodup (["self","block"]:List Str)from by decide) rfl (Or.inl rfl))) (λ_ _ _ _ _=>(uS (qU q0L (qZ (q94 (K:=K) rfl) (yO (K:=K) rfl (yO (K:=K) rfl (pv 0) rfl) rfl) (pv 1) (λ_ _=>rfl)) qH (qY _)))) (λ_ _ _ _ _=>(pv 1)) (by kernel_rfl) (y8 (by decide)) q2E.nd rfl (Or.inl rfl)) (qD (qM (qAJ (k:=5) (x:="block") [(0,"self")] (by intro p hp;simp only[kM,gX,cW]at hp;rcases hp with rfl<;>exact⟨rfl,by kernel_rfl,rfl⟩) hr (by rfl) T.aAL (qBL rfl T.aB0 B (qG9 (by kernel_rfl)) rfl) (qA (pv 1) qF))))),?_⟩
try dsimp-beta-proj-iota-zeta-eta only[wishK,cxK]
refine(iV rfl (iM hs.o rfl ⟨x,r2,r3,r4,r5,m,q,rfl,hs,ft,λp H1 n1 s1 h1=>?_⟩))
refine⟨p,rfl,⟨_,SqL.of h1⟩,λD H2 nD s2 hD=>?_⟩
refine vG (K:=K) (xs:=(yW q.B m.br).map vn) (D:=D) (λi H3=>Same H1 H3∧H3 D=some (.lst ((((yW q.B m.br).take i).filter λb=>decide (q.fi.getD b 0=0)).map vn))) ⟨s2,hD⟩ (λi H3 hp=>SqL.of (hp.1 _ _ h1)) (λi y H3 hy hp=>?_) (λH3 hp=>?_)
·obtain⟨sm,hd⟩:=hp;have h3:=(hs.same s1).same sm;rw[mG]at hy;obtain⟨b,hb,rfl⟩:=mO.mp hy;have hi:=(kB.mp hb).1;have mb:=zT.mp (gE hb);refine(iV rfl (iF h3.o T.eW T.fB rfl (iF h3.bk.o T.e9 T.fF rfl ⟨_,rfl,iL (k:=_) (v:=_) (SqL.of h3.bk.f) (atV (by rw[ft.oq.lf];exact mb.1)) ⟨rfl,_,rfl,?_⟩⟩)));rw[q0X,←mL hi,g8,mW];obtain rfl:(yW q.B m.br)[i]=b:=(kB.mp hb).2;by_cases z:q.fi.getD (yW q.B m.br)[i] 0=0
 ·rw[hV z];refine iteT ?_;refine⟨_,rfl,_,hd,?_,λb o e=>?_,?_⟩
  ·rw[h9];have l1:(((yW q.B m.br).take i).filter λb=>decide (q.fi.getD b 0=0)).length≤q.B:=mF (mH _ _) (mF (by rw[mZ];lia) (q10 (B:=q.B) (br:=m.br)));have:(16:Nat)<sizeLine:=by decide
   lia
  ·rw[qC (qG e nD)];exact sm _ _ e
  rw[qI,gA,hV z];rfl
 rw[kE z];refine iteF ⟨sm,?_⟩;rw[hd,gA,kE z];simp
obtain⟨sm,hd⟩:=hp
rw[h9,gC]at hd
have hd:H3 D=some (.lst ((yM q.B m.br q.fi).map vn)):=hd
have h3:=(hs.same s1).same sm
refine⟨_,rfl,?_⟩
obtain⟨ps,hT,ht,hc⟩:=qGY T h3.tb
have nT:D≠t.eT:=h3.tb.ne hd (λ_ z=>by cases z)
have keep:∀(f c':Addr) (ctv pm:Value) (clos:List (Str×Addr)) (H4:Hp),H4 f=some (fnO f (q5T clos pm ctv c'))→H4 c'=some (cdO c' lamQ)→TbF t H4→(∀b o,b≠t.eT→H3 b=some o→H4 b=some o)→Keep [t.eT] H3 H4:=λf c' ctv pm clos H4 _ _ tb4 kp=>⟨λb o nb e=>kp b o (λz=>nb (by rw[z];simp)) e,λb xs e=>kp b _ (h3.tb.ne e (λ_ z=>by cases z)) e⟩
refine⟨ps,hT,ht,?_⟩
rcases hc with⟨hn,tb⟩|⟨c0,hn,hc0⟩
·refine .inl ⟨hn,λf c' ctv H4 nf hf hc' hT4 kp=>?_⟩;have tb4:=tb c' H4 hT4 hc' kp;have k4:=keep f c' ctv _ _ H4 hf hc' tb4 kp;refine q7B T S rfl (λca hk=>q9C (names:=qF6.names) hk rfl) (h3.kT k4 tb4) ft (kp _ _ nT hd) hf hc' (λl p' H5 hl np s5 e5=>k l p' H5 hl ?_ ?_ (tb4.same s5) e5)
 ·refine Same.free s1 (Same.free sm (k4.none (λz=>?_) np));obtain⟨ps',hT',_⟩:=tb4;rw[kD.mp z,hT']at np;cases np
 exact((Keep.same s1).trans (Keep.same sm)).trans (k4.trans (Keep.same s5))
refine .inr ⟨c0,hn,λf ctv H4 nf hf s4=>?_⟩
refine q7B T S rfl (λca hk=>q9C (names:=qF6.names) hk rfl) (h3.same s4) ft (s4 _ _ hd) hf (s4 _ _ hc0) (λl p' H5 hl np s5 e5=>k l p' H5 hl ?_ ?_ ((h3.tb.same s4).same s5) e5)
·exact Same.free s1 (Same.free sm (Same.free s4 np))
exact Keep.same (((s1.trans sm).trans s4).trans s5))
noncomputable def spPt(t:Adr):Sp:=λvs H Q _=>∃x r2 r3 r4 r5 m q,vs=[.ref x.s]∧StAt t H x r2 r3 r4 r5 m q∧Fit m q∧∀H',Same H H'→Q (oV (jJ q.B q.P m.br q.fi)) H'
theorem qCU{α:Type}{p:α→Bool}{L:List α}{i:Nat}{x:α}(h:L[i]?=some x)(n:(L.take i).find? p=none):(p x=true→L.find? p=some x)∧(p x=false→(L.take (i+1)).find? p=none):=by(
have hi:=(kB.mp h).1
obtain rfl:L[i]=x:=(kB.mp h).2
constructor
·intro hp;have e:L=L.take i++L[i]::L.drop (i+1):=by rw[List.getElem_cons_drop,cA]
 conv=>lhs;arg 2;rw[e]
 rw[aT,n,dR,hp];rfl
intro hp
rw[←mL hi,aT,n,dR,hp]
rfl)
theorem zO(T:Txt K mg t)(S:Fns K t):S.oN.Ok0 P w mg base 6 (spPt t):=by(
refine S.oN.F.ok0 q2F λcdv A _ s H vs Q E hr h=>?_
obtain⟨x,r2,r3,r4,r5,m,q,rfl,hs,ft,k⟩:=h
refine⟨_,(qB (vD dD rfl (jN (qT (pv 0) T.eW T.oS (uU T S).mono hr S.i3.b .nil qK)) (qW (i:=1) q2F.nd rfl (Or.inl rfl)) (qD (jE (qD3 q4U q4U qH (qZ jK (qJ (qJ (pv 0) rfl) rfl) (pv 1) (λ_ _=>rfl)) (qJ (qJ (pv 0) rfl) rfl)) (qD (qM (pv 1))) qQ))) (qD (qM uY))),?_⟩
try dsimp-beta-proj-iota-zeta-eta only[wishK,cxK]
refine(iV rfl (iM hs.o rfl ⟨x,r2,r3,r4,r5,m,q,rfl,hs,ft,λp H1 n1 s1 h1=>?_⟩))
refine⟨p,rfl,⟨_,SqL.of h1⟩,?_⟩
refine zP (K:=K) (xs:=(yW q.B m.br).map vn) (λi σ' H2=>∃y,σ'=[some (.ref x.s),y]∧Same H1 H2∧((yW q.B m.br).take i).find? (jT q.P q.fi)=none) ⟨_,rfl,Same.refl H1,rfl⟩ (λi σ' H2 hi hp=>?_) (λi y σ' H2 hy hp=>?_) (λσ' H2 hp=>?_)
·obtain⟨y,rfl,sm,_⟩:=hp;exact SqL.of (sm _ _ h1)
·obtain⟨y',rfl,sm,hn⟩:=hp;have h3:=(hs.same s1).same sm;rw[mG]at hy;obtain⟨b,hb,rfl⟩:=mO.mp hy;have mb:=zT.mp (gE hb);obtain⟨y1,y2⟩:=qCU hb hn;refine(iV rfl (iF h3.o T.eW T.fB rfl (iF h3.bk.o T.e9 T.fF rfl ⟨_,rfl,iL (k:=_) (v:=_) (SqL.of h3.bk.f) (atV (by rw[ft.oq.lf];exact mb.1)) ?_⟩)));refine(iI ⟨_,rfl,?_⟩);by_cases z1:0<q.fi.getD b 0
 ·rw[hV z1];refine iteT ?_;refine(iV rfl (iF h3.o T.eW T.fA rfl (iF h3.te T.fE T.fD rfl (iI ⟨_,rfl,?_⟩))));by_cases z2:q.fi.getD b 0<m.pg
  ·rw[hV z2];have z:=k H2 (s1.trans sm);unfold jJ at z;rw[y1 (by unfold jT;rw[hV z1,hV (by rw[←ft.eP];exact z2)];rfl)]at z;exact iteT ⟨_,rfl,z⟩
  rw[kE z2];exact iteF ⟨_,rfl,sm,y2 (by unfold jT;rw[hV z1,kE (by rw[←ft.eP];exact z2)];rfl)⟩
 rw[kE z1];exact iteF ⟨_,rfl,iteF ⟨_,rfl,sm,y2 (by unfold jT;rw[kE z1];rfl)⟩⟩
obtain⟨y',rfl,sm,hn⟩:=hp
rw[h9,gC]at hn
have z:=k H2 (s1.trans sm)
unfold jJ at z
rw[hn]at z
exact z)
noncomputable def spSp(t:Adr):Sp:=λvs H Q _=>∃x r2 r3 r4 r5 m q,vs=[.ref x.s]∧StAt t H x r2 r3 r4 r5 m q∧Fit m q∧∀l H',FreeIs q.B m.br m.cl q.fi l→Keep [t.eT] H H'→TbF t H'→Q (pgV q.P q.fi (q0N q.B q.P m.br q.fi l)) H'
theorem q6D(T:Txt K mg t)(S:Fns K t)(B:BmIn base mg):S.aAO.Ok0 P w mg base 9 (spSp t):=by(
refine S.aAO.F.ok0 zM λcdv A _ s H vs Q E hr h=>?_
obtain⟨x,r2,r3,r4,r5,m,q,rfl,hs,ft,k⟩:=h
refine⟨_,(qB (qX (i:=1) zM.nd rfl (Or.inl rfl) (qT (pv 0) T.eW T.aAF (zO T S).mono hr S.oN.b .nil qK)) (qB (jE (qU q4E (pv 1) uY (qY _)) (qD (qM (qR uN (qR vF (pv 1) (qJ (qJ (pv 0) rfl) rfl)) (qZ jK (qJ (qJ (pv 0) rfl) rfl) (pv 1) (λ_ _=>rfl))))) qQ) (qB (qX (i:=2) zM.nd rfl (Or.inl rfl) (qT (pv 0) T.eW T.aAB (zN T S B).mono hr S.o7 .nil qK)) (qB (jE (qU (qA9 hr.units) (pv 2) (y6 qF) (qY _)) (qD (qM uY)) qQ) (qD (qM (qR vF (qZ jK (pv 2) qH (λ_ _=>rfl)) (qJ (qJ (pv 0) rfl) rfl)))))))),?_⟩
try dsimp-beta-proj-iota-zeta-eta only[wishK,cxK]
refine(iV rfl (iM hs.o rfl ⟨x,r2,r3,r4,r5,m,q,rfl,hs,ft,λH1 s1=>?_⟩))
have h1:=hs.same s1
have b2:=ft.oq.b2
have p2:=ft.oq.p2
have eP:=ft.eP
cases hpn:jJ q.B q.P m.br q.fi with
|some b=>
 have hb:=q09 hpn;refine⟨_,rfl,rfl,_,rfl,iteT ?_⟩;refine⟨_,rfl,iV rfl (iF h1.o T.eW T.fA rfl (iF h1.te T.fE T.fD rfl (iI ⟨.inl ⟨by lia,by lia⟩,?_⟩)))⟩;refine(iV rfl (iF h1.o T.eW T.fB rfl (iF h1.bk.o T.e9 T.fF rfl ⟨_,rfl,iL (k:=_) (v:=_) (SqL.of h1.bk.f) (atV (by rw[ft.oq.lf];exact hb.1)) (iI ?_)⟩)));obtain⟨l,hl⟩:=FreeIs.ex q.B m.br m.cl q.fi;have kk:=k l H1 hl (Keep.same s1) h1.tb;unfold q0N at kk;rw[hpn]at kk;have e:pgV q.P q.fi (some b)=V.int ((b:Int)*m.pg+q.fi.getD b 0):=by rw[eP];rfl
 have kk:Q (pgV q.P q.fi (some b)) H1:=kk;rw[e]at kk;exact kk
|none=>
 refine⟨_,rfl,rfl,_,rfl,iteF ?_⟩;refine(iV rfl (iM h1.o rfl ⟨x,r2,r3,r4,r5,m,q,rfl,h1,ft,λl p H2 hl np k2 tb2 h2=>?_⟩));have h2':=h1.kT k2 tb2;refine⟨_,rfl,sz0,λe H3 n3 s3 h3=>⟨p,_,e,rfl,rfl,SqL.of (s3 _ _ h2),SqL.of h3,_,rfl,?_⟩⟩;have h3':=h2'.same s3;have kk:=k l H3 hl (((Keep.same s1).trans k2).trans (Keep.same s3)) (tb2.same s3);unfold q0N at kk;rw[hpn]at kk;cases l with
 |nil=>refine iteT ?_;exact kk
 |cons b r=>
  refine iteF ?_;have hb:=hl.mem (kX (a:=b) (l:=r));refine⟨_,rfl,iL (k:=0) (v:=.int (b:Int)) (SqL.of (s3 _ _ h2)) (uR (j:=0) rfl) (iV rfl (iF h3'.o T.eW T.fA rfl (iF h3'.te T.fE T.fD rfl (iI ⟨.inl ⟨by lia,by lia⟩,?_⟩))))⟩;have e:pgV q.P q.fi ((b::r).head?)=V.int ((b:Int)*m.pg):=by show V.int ((b:Int)*(q.P:Int)+q.fi.getD b 0)=_;rw[hb.2.2,eP,Int.add_zero]
  have kk:Q (pgV q.P q.fi ((b::r).head?)) H3:=kk;rw[e]at kk;exact kk)
noncomputable def qBW(t:Adr):Sp:=λvs H Q E=>∃x r2 r3 r4 r5 m q n v,vs=[.ref x.s,.int n,.int v]∧StAt t H x r2 r3 r4 r5 m q∧Fit m q∧Gd m∧m.rc.length<1000000∧∀l,FreeIs q.B m.br m.cl q.fi l→∃b f:Nat,q0N q.B q.P m.br q.fi l=some b∧q.fi.getD b 0=(f:Int)∧m.bo.getD (b*q.P+f) .non=.non∧(m.lf=some 0→∀H',Keep (t.eT::sf x) H H'→StAt t H' x r2 r3 r4 r5 m q→E (.ref t.C_PowerGone) none H')∧(m.lf≠some 0→∀tp H',H' tp=some (.tup [.int (q.nx*128+n),.int v])→Keep (t.eT::sf x) H H'→StAt t H' x r2 r3 r4 r5 (putC m (b*q.P+f) (.ref tp)) (q.put b f n)→Q (.int ((b*q.P+f:Nat):Int)) H')
theorem StAt.put{H H':Hp}{x:Sto}{r2 r3 r4 r5:V}{m m':CM}{q:QM}(h:StAt t H x r2 r3 r4 r5 m q)(hc:ChipAt t.C_Chip H' x.c x.a m')(k:Keep (foot x.c x.a) H H')(e1:m'.bl=m.bl)(e2:m'.pg=m.pg):StAt t H' x r2 r3 r4 r5 m' q:=by have nf:∀b∈bf x.k,b∉foot x.c x.a:=λb hb z=>h.d1 b (kC _ z) hb;have n2:∀b∈[x.s,x.tm],b∉foot x.c x.a:=λb hb z=>h.d2 b hb (by unfold sf;exact gK _ z);refine⟨k.k _ _ (n2 _ (by simp)) h.o,by rw[e1,e2];exact k.k _ _ (n2 _ (by simp)) h.te,hc,h.bk.keep k nf,h.tb.gen λb o to e=>k.k _ _ (λz=>h.nX e to (kQ _ (kC _ (by unfold sf;exact gK _ z)))) e,h.ds,h.d1,h.d2⟩
theorem StAt.note{H H':Hp}{x:Sto}{r2 r3 r4 r5:V}{m:CM}{q q':QM}(h:StAt t H x r2 r3 r4 r5 m q)(hb:BkAt t H' x.k q')(k:Keep (bf x.k) H H'):StAt t H' x r2 r3 r4 r5 m q':=by have n2:∀b∈[x.s,x.tm],b∉bf x.k:=λb hb z=>h.d2 b hb (by unfold sf;exact kQ _ z);refine⟨k.k _ _ (n2 _ (by simp)) h.o,k.k _ _ (n2 _ (by simp)) h.te,h.ch.keep k h.d1,hb,h.tb.gen λb o to e=>k.k _ _ (λz=>h.nX e to (kQ _ (kC _ (by unfold sf;exact kQ _ z)))) e,h.ds,h.d1,h.d2⟩
theorem q3C(T:Txt K mg t)(S:Fns K t)(B:BmIn base mg):S.oH.OkE P w mg base 10 (qBW t):=by(
refine S.oH.F.okE vW (λvs H Q E h=>?_) (λcdv A outer s H vs Q E hr h=>?_)
·repeat obtain⟨_,h⟩:=h
 all_goals subst_vars;rfl
obtain⟨x,r2,r3,r4,r5,m,q,n,v,rfl,hs,ft,gd,hrc,k⟩:=h
refine⟨_,(qB (qX (i:=3) vW.nd rfl (Or.inl rfl) (qT (pv 0) T.eW T.aC1 (q6D T S B).mono hr S.aAO.b .nil qK)) (qB (jE (qU qA2 (pv 3) uY (qY _)) (qD j8) qQ) (qB (qV (y7 jC (qJ (pv 0) rfl) T.eZ T.aDJ (q9P T S).mono hr S.aB2.b .nil (qA (pv 3) (qA (yX (qA (j0 (qJ (pv 0) rfl) T.e9 T.aC7 (q8A T S).mono hr S.aBN.b .nil qK (qA (pv 1) qF)) (qA (pv 2) qF))) qF q2Y)))) (qB (qV (j0 (qJ (pv 0) rfl) T.e9 T.aDD (q8B T S).mono hr S.aBL.b .nil qK (qA (pv 3) (qA (pv 1) qF)))) (qD (qM (pv 3))))))),?_⟩
try dsimp-beta-proj-iota-zeta-eta only[wishK,cxK]
refine(iV rfl (iM hs.o rfl ⟨x,r2,r3,r4,r5,m,q,rfl,hs,ft,λl H1 hl k1 tb1=>?_⟩))
have hs1:=hs.kT k1 tb1
obtain⟨b,f,hsp,ef,hn,dk,kk⟩:=k l hl
rw[hsp]
obtain⟨hB,hbr,f0,f1⟩:=q9D hl ft.oq.p1 hsp
have hf:f<q.P:=by lia
have epg:pgV q.P q.fi (some b)=V.int ((b*q.P+f:Nat):Int):=by show V.int ((b:Int)*(q.P:Int)+q.fi.getD b 0)=_;rw[ef,bJ,dS]
rw[epg]
refine⟨_,rfl,rfl,_,rfl,iteF ?_⟩
refine(iV rfl (iF hs1.o T.eW T.fM rfl (iM hs1.ch.ins rfl ⟨_,rfl,?_⟩)))
refine(iV rfl (iF hs1.o T.eW T.fB rfl (iM hs1.bk.o rfl ⟨_,rfl,x.k,q,n,rfl,hs1.bk,_,rfl,sz2,λtp H2 n2 s2 e2=>?_⟩)))
have hs2:=hs1.same s2
have hpg:((b*q.P+f:Nat):Int)≤m.bl*m.pg-1:=by rw[ft.eB,ft.eP,←dS];have:b*q.P+f<q.B*q.P:=(lZ (by lia)).mp (by rw[yA hf];exact hB);lia
refine⟨x.c,x.a,m,_,.ref tp,rfl,hs2.ch,ft.ok,hrc,gd,hpg,hn,λz=>dk z H2 ((k1.mono (by simp)).trans (Keep.same s2)) hs2,λz H3 hc3 k3=>?_⟩
have hs3:=hs2.put hc3 k3 rfl rfl
refine(iV rfl (iF hs3.o T.eW T.fB rfl (iM hs3.bk.o rfl ⟨_,rfl,_,rfl,x.k,q,b,f,n,rfl,hs3.bk,ft.oq,hs3.ds,hB,hf,ef,λH4 hb4 k4=>⟨_,rfl,?_⟩⟩)))
exact kk z tp H4 (k4.tp _ _ (k3.tp _ _ e2)) ((((k1.mono (by simp)).trans (Keep.same s2)).trans (k3.mono (λb hb=>by unfold sf;exact kC _ (gK _ hb)))).trans (k4.mono (λb hb=>by unfold sf;exact kC _ (kQ _ hb)))) (hs3.note hb4 k4))
theorem q3D(T:Txt K mg t)(S:Fns K t)(B:BmIn base mg):S.aAH.OkE P w mg base 11 (qBW t):=by(
refine S.aAH.F.okE q80 (λvs H Q E h=>?_) (λcdv A outer s H vs Q E hr h=>?_)
·repeat obtain⟨_,h⟩:=h
 all_goals subst_vars;rfl
obtain⟨x,r2,r3,r4,r5,m,q,n,v,rfl,hs,k⟩:=h
refine⟨_,(qD (qM (y7 jC (pv 0) T.eW T.aBA (q3C T S B).mono hr S.oH.b .nil (qA (pv 1) (qA (pv 2) qF))))),?_⟩
try dsimp-beta-proj-iota-zeta-eta only[wishK,cxK]
exact(iV rfl (iM hs.o rfl ⟨_,rfl,_,rfl,x,r2,r3,r4,r5,m,q,n,v,rfl,hs,k⟩)))
theorem bor(a b:Nat):Builtin.bitOr (a:Int) (b:Int)=((a|||b:Nat):Int):=by(
have e:∀c:Nat,Builtin.bitNot (Builtin.bitNot (c:Int))=(c:Int):=λc=>by unfold Builtin.bitNot;lia
have n:∀c:Nat,decide (0≤Builtin.bitNot (c:Int))=false:=λc=>kE (by unfold Builtin.bitNot;lia)
unfold Builtin.bitOr Builtin.bitAnd
rw[n a,n b]
show Builtin.bitNot (Builtin.bitNot (((Builtin.bitNot (Builtin.bitNot (a:Int))).toNat|||(Builtin.bitNot (Builtin.bitNot (b:Int))).toNat:Nat):Int))=_
rw[e,e a,e b,mI,mI])
noncomputable abbrev vN(ks:List Nat):List V:=ks.map λ(k:Nat)=>V.int (k:Int)
noncomputable def spBo(K:W.Frag):Sp:=λvs H Q _=>∃l ss,vs=[.ref l]∧SqL K H l (vN ss)∧(∀s∈ss,s<64)∧Q (.int ((orB ss 0:Nat):Int)) H
theorem q9Q(s:Nat):∀(l:List Nat) (b:Nat),orB (l++[s]) b=orB l b|||2 ^ s
| [],b=>rfl
|x::r,b=>q9Q s r _
theorem qAU(T:Txt K mg t)(S:Fns K t):S.aDC.Ok0 P w mg base 1 (spBo K):=by(
refine S.aDC.F.ok0 q0H λcdv A _ s H vs Q E hr h=>?_
obtain⟨l,ss,rfl,hl,hs,q⟩:=h
refine⟨_,(qB (qX (i:=1) q0H.nd rfl (Or.inl rfl) qH) (qB (vD dD rfl (jN (pv 0)) (qW (i:=2) q0H.nd rfl (Or.inl rfl)) (qD (qX (i:=1) q0H.nd rfl (Or.inl rfl) (qR qK0 (pv 1) (qR qHV qH (pv 2)))))) (qD (qM (pv 1))))),?_⟩
try dsimp-beta-proj-iota-zeta-eta only[wishK,cxK]
refine⟨_,rfl,l,rfl,⟨_,hl⟩,?_⟩
refine zP (K:=K) (xs:=vN ss) (λi σ' H2=>∃y,σ'=[some (.ref l),some (.int ((orB (ss.take i) 0:Nat):Int)),y]∧H2=H) ⟨_,rfl,rfl⟩ (λi σ' H2 hi hp=>?_) (λi x σ' H2 hx hp=>?_) (λσ' H2 hp=>?_)
·obtain⟨y,rfl,rfl⟩:=hp;exact hl
·obtain⟨y,rfl,rfl⟩:=hp;rw[mG]at hx;obtain⟨n,hn,rfl⟩:=mO.mp hx;obtain⟨hi,rfl⟩:=kB.mp hn;have:=hs _ (m7 hi);refine⟨_,rfl,_,rfl,iI ⟨⟨by lia,by lia,by decide⟩,iI ?_⟩⟩;have e:(1:Int)*2 ^ ((ss[i]:Nat):Int).toNat=((2 ^ ss[i]:Nat):Int):=by rw[Int.one_mul,mI];exact(Int.natCast_pow 2 _).symm
 try dsimp only
 rw[e,bor];refine⟨some (.int ((ss[i]:Nat):Int)),?_,rfl⟩;rw[←mL hi,q9Q];rfl
obtain⟨y,rfl,rfl⟩:=hp
rw[show(vN ss).length=ss.length by simp[vN],gC]
exact⟨_,rfl,q⟩)
noncomputable def hdN(W:Mp):List Int:=(W.map (·.1)).filter λn=>decide (n≠64)
noncomputable def spHe(t:Adr):Sp:=λvs H Q _=>∃a,∃m:QM,vs=[.ref a.bk]∧BkAt t H a m∧m.Ok∧(hdN m.V).length<64∧∀l ns H',Same H H'→H l=none→H' l=some (.lst (List.map V.int ns))→ns.Perm (hdN m.V)→ns.Pairwise (·≤·)→Q (.ref l) H'
theorem q8C(T:Txt K mg t)(S:Fns K t):S.aBM.Ok0 P w mg base 1 (spHe t):=by(
refine S.aBM.F.ok0 q7Z λcdv A _ s H vs Q E hr h=>?_
obtain⟨a,m,rfl,hb,ok,hl64,q⟩:=h
have hu:=q6Z hr
have lV:m.V.length≤65:=ok.lenV
refine⟨_,(qD (qM (j9 q7L (by rfl) T.aAL (by kernel_rfl) (qA (qBB (yY ["name"] [] rfl (qFV (qJ (pv 0) rfl)) (λ_ _ _ _ _=>(qW (i:=0) (show List.Nodup (["name"]:List Str)from by decide) rfl (Or.inl rfl))) (λ_ _ _ _ _=>(uS (qU q8L (pv 0) (q1U rfl T.aDO ⟨_,rfl⟩ (v:=.int 64)) (qY _)))) (λ_ _ _ _ _=>(pv 0)) (by kernel_rfl) (y8 (by decide)))) qF)))),?_⟩
try dsimp-beta-proj-iota-zeta-eta only[wishK,cxK]
refine⟨a.wv,_,hb.w,iV rfl (iF hb.o T.e9 T.fV rfl ⟨a.wv,_,rfl,hb.w,λo D H2 nD s2 hD=>?_⟩)⟩
have kk:∀x u,x≠a.wv→H x=some u→H2 x=some u:=λx u nx e=>s2 _ _ (by rw[qC nx];exact e)
have fz:H2 a.wv=some (.frz o (.dK (dI m.V))):=s2 _ _ qI
have Dw:D≠a.wv:=λz=>by rw[z,fz]at hD;cases hD
have nDH:H D=none:=by rw[qC Dw]at nD;exact nD
refine qED (D:=D) (λi H3=>H3 a.wv=some (.frz o (.dK (dI m.V)))∧(∀x u,x≠a.wv→H x=some u→H3 x=some u)∧H3 D=some (.lst ((hdN (m.V.take i)).map V.int))) ⟨fz,kk,hD⟩ (λi H3 hp=>hp.1) (λi kv H3 hk hp=>?_) (λH3 hp=>?_)
·obtain⟨fz3,k3,hd⟩:=hp;have hi:i<m.V.length:=by have:=(kB.mp hk).1;rw[q5S]at this;exact this
 obtain rfl:((Sum.inl m.V[i].1:Key),V.int m.V[i].2)=kv:=by
  have e:(dI m.V)[i]?=some ((Sum.inl m.V[i].1:Key),V.int m.V[i].2):=by unfold dI;rw[mG,hX hi];rfl
  rw[e]at hk;exact kU hk
 have tk:m.V.take (i+1)=m.V.take i++[m.V[i]]:=(mL hi).symm;show q2B _ (V.int m.V[i].1) _ _ _;refine⟨_,rfl,rfl,_,rfl,?_⟩;rw[q0X];by_cases e:m.V[i].1=64
 ·rw[hV e];refine iteF ?_;refine⟨fz3,k3,?_⟩;have:hdN (m.V.take (i+1))=hdN (m.V.take i):=by unfold hdN;rw[tk,mW,g8];simp[e]
  rw[this];exact hd
 rw[kE e];refine iteT ?_;refine⟨_,rfl,_,hd,?_,?_,λx u nx e'=>?_,?_⟩
 ·rw[h9];have l2:(hdN (m.V.take i)).length≤65:=by unfold hdN;refine mF (mH _ _) ?_;rw[h9,mZ];lia
  have:(65:Nat)<sizeLine:=by decide
  lia
 ·rw[qC Dw.symm];exact fz3
 ·rw[qC (qG e' nDH)];exact k3 _ _ nx e'
 have:hdN (m.V.take (i+1))=hdN (m.V.take i)++[m.V[i].1]:=by unfold hdN;rw[tk,mW,g8];simp[e]
 rw[qI,this,mW];rfl
obtain⟨fz3,k3,hd⟩:=hp
rw[q5S,gC]at hd
refine⟨o,_,fz3,?_⟩
have sH:Same H (upd H3 a.wv (.dK (dI m.V))):=qEE hb.w k3
have hd4:(upd H3 a.wv (.dK (dI m.V))) D=some (.lst ((hdN m.V).map V.int)):=by rw[qC Dw];exact hd
generalize upd H3 a.wv (.dK (dI m.V))=H4 at sH hd4 ⊢
refine⟨D,hdN m.V,rfl,SqL.of hd4,by lia,λns pp pw l H5 n5 s5 h5=>?_⟩
exact q l ns H5 (sH.trans s5) (sH.free n5) h5 pp pw)
structure HeldIs(q:QM)(ns:List Int):Prop where
pm:ns.Perm (hdN q.V)
so:ns.Pairwise (·≤·)
noncomputable def spHd(t:Adr):Sp:=λvs H Q _=>∃x r2 r3 r4 r5 m q,vs=[.ref x.s]∧StAt t H x r2 r3 r4 r5 m q∧Fit m q∧(hdN q.V).length<64∧∀l ns H',HeldIs q ns→Same H H'→H l=none→H' l=some (.lst (List.map V.int ns))→Q (.ref l) H'
theorem q2G(T:Txt K mg t)(S:Fns K t):S.tM.Ok0 P w mg base 2 (spHd t):=by(
refine S.tM.F.ok0 q68 λcdv A _ s H vs Q E hr h=>?_
obtain⟨x,r2,r3,r4,r5,m,q,rfl,hs,ft,h64,k⟩:=h
refine⟨_,(qD (qM (qT (qJ (pv 0) rfl) T.e9 T.aDE (q8C T S).mono hr S.aBM.b .nil qK))),?_⟩
try dsimp-beta-proj-iota-zeta-eta only[wishK,cxK]
exact(iV rfl (iF hs.o T.eW T.fB rfl (iM hs.bk.o rfl ⟨x.k,q,rfl,hs.bk,ft.oq,h64,λl ns H' s' n' h' pm so=>k l ns H' ⟨pm,so⟩ s' n' h'⟩))))
noncomputable def spCs(t:Adr):Sp:=λvs H Q E=>∃x r3 r4 r5 m q v,∃sh:Int,vs=[.ref x.s,v]∧StAt t H x (.int sh) r3 r4 r5 m q∧Knd H v∧(if inB v 0 (sh-1)=true then Q .non H else False)
theorem q1O(T:Txt K mg t)(S:Fns K t):S.iN.Ok0 P w mg base 3 (spCs t):=by(
refine S.iN.F.ok0 q1I λcdv A _ s H vs Q E hr h=>?_
obtain⟨x,r3,r4,r5,m,q,v,sh,rfl,hs,kn,k⟩:=h
refine⟨_,(qD (jE (yE (jR (qS (jG T S).mono hr rfl T.fG T.fH S.fL.b .nil qK (qA (pv 1) (qA qH (qA (qR vE (qJ (qJ (pv 0) rfl) rfl) qH) qF)))))) (qD j8) qQ)),?_⟩
try dsimp-beta-proj-iota-zeta-eta only[wishK,cxK]
refine⟨_,rfl,iV rfl (iF hs.o T.eW T.fA rfl (iF hs.te T.fE T.o8 rfl (iI ⟨v,_,_,rfl,kn,_,rfl,?_⟩)))⟩
cases z:inB v 0 (sh-1)with
|true=>rw[z,kI rfl]at k;exact iteF k
|false=>rw[z,kF (by decide)]at k;exact k.elim)
theorem q9R(T:Txt K mg t)(S:Fns K t):S.aBX.Ok0 P w mg base 3 (λvs H Q _=>∃v,vs=[v]∧Knd H v∧Q (.bl (inB v 0 (10 ^ 30-1))) H):=by(
refine S.aBX.F.ok0 q9L λcdv A _ s H vs Q E hr h=>?_
obtain⟨v,rfl,kn,k⟩:=h
refine⟨_,(qD (qM (qS (jG T S).mono hr rfl T.fG T.fH S.fL.b .nil qK (qA (pv 0) (qA qH (qA (qR vE (qR qCY qH qH) qH) qF)))))),?_⟩
try dsimp-beta-proj-iota-zeta-eta only[wishK,cxK]
exact⟨_,rfl,iI ⟨⟨by decide,by decide,by decide⟩,iI ⟨v,_,_,rfl,kn,k⟩⟩⟩)
noncomputable def hold(q:QM)(s:Int):Bool:=decide (s∈hdN q.V)
theorem qBX{s:Int}:∀{ns:List Int},inV (.int s) (ns.map V.int)=decide (s∈ns)
| []=>rfl
|n::r=>by
 have ih:=qBX (s:=s) (ns:=r);unfold inV at ih ⊢;rw[mJ,cV,ih];by_cases e:n=s
 ·subst e;simp[eqV]
 have e':¬s=n:=λz=>e z.symm;simp[eqV,e,e']
theorem qKY{ns:List Int}:(ns.map V.int).all q0M=true:=by(
rw[dY]
intro v hv
obtain⟨n,_,rfl⟩:=mE.mp hv
rfl)
theorem HeldIs.hold{q:QM}{ns:List Int}(h:HeldIs q ns)(s:Int):decide (s∈ns)=hold q s:=by(
unfold W1.hold
by_cases z:s∈ns
·rw[hV z,hV (h.pm.mem_iff.mp z)]
rw[kE z,kE (λy=>z (h.pm.mem_iff.mpr y))])
noncomputable def spSh(t:Adr):Sp:=λvs H Q E=>∃x r2 r4 r5 m q,∃s sr:Int,vs=[.ref x.s,.int s]∧StAt t H x r2 (.int sr) r4 r5 m q∧Fit m q∧(hdN q.V).length<64∧∀H',Same H H'→if hold q s=false∧sr≤((hdN q.V).length:Int)then False else Q .non H'
theorem q1P(T:Txt K mg t)(S:Fns K t):S.iJ.Ok0 P w mg base 3 (spSh t):=by(
refine S.iJ.F.ok0 uX λcdv A _ s H vs Q E hr h=>?_
obtain⟨x,r2,r4,r5,m,q,s,sr,rfl,hs,ft,h64,k⟩:=h
refine⟨_,(qB (qX (i:=2) uX.nd rfl (Or.inl rfl) (qT (pv 0) T.eW T.aBI (q2G T S).mono hr S.tM.b .nil qK)) (qD (jE (PW.pt (qCV (qU q7H (pv 1) (pv 2) rfl) (qAX (qU qB2 (j9 jS (by rfl) T.aB7 rF (qA (pv 2) qF)) (qJ (qJ (pv 0) rfl) rfl) (qY _))))) (qD j8) qQ))),?_⟩
try dsimp-beta-proj-iota-zeta-eta only[wishK,cxK]
refine(iV rfl (iM hs.o rfl ⟨x,r2,.int sr,r4,r5,m,q,rfl,hs,ft,h64,λl ns H1 hn s1 n1 h1=>?_⟩))
refine⟨_,rfl,_,rfl,?_⟩
refine⟨l,_,rfl,.inl (SqL.of h1),rfl,qKY,_,rfl,?_⟩
have kk:=k H1 s1
have e:inV (.int s) (ns.map V.int)=hold q s:=by rw[qBX];exact hn.hold s
show if(!inV (.int s) (ns.map V.int))=true then _ else _
rw[e]
cases z:hold q s with
|true=>rw[z,kF (λy=>by cases y.1)]at kk;exact iteF kk
|false=>
 refine iteT ?_;refine⟨_,rfl,l,_,rfl,.inl (SqL.of h1),iV rfl (iF (hs.same s1).o T.eW T.fA rfl (iF (hs.same s1).te T.fE T.tV rfl (iI ⟨_,rfl,?_⟩)))⟩;rw[h9,hn.pm.length_eq];by_cases y:sr≤((hdN q.V).length:Int)
 ·rw[hV y];rw[kI ⟨z,y⟩]at kk;exact kk.elim
 rw[kE y];rw[kF (λw=>y w.2)]at kk;exact iteF kk)
noncomputable def spRs(t:Adr):Sp:=λvs H Q _=>∃x r2 r3 r5 m q,∃ie:Int,vs=[.ref x.s]∧StAt t H x r2 r3 (.int ie) r5 m q∧Q (.int (1+ie)) H
theorem zY(T:Txt K mg t)(S:Fns K t):S.iX.Ok0 P w mg base 1 (spRs t):=by(
refine S.iX.F.ok0 q3S λcdv A _ s H vs Q E hr h=>?_
obtain⟨x,r2,r3,r5,m,q,ie,rfl,hs,k⟩:=h
refine⟨_,(qD (qM (qR uN qH (qJ (qJ (pv 0) rfl) rfl)))),?_⟩
try dsimp-beta-proj-iota-zeta-eta only[wishK,cxK]
exact(iV rfl (iF hs.o T.eW T.fA rfl (iF hs.te T.fE T.tK rfl (iI k)))))
noncomputable def spRd(t:Adr):Sp:=λvs H Q _=>∃x r2 r3 r5 m q,∃ie:Int,vs=[.ref x.s]∧StAt t H x r2 r3 (.int ie) r5 m q∧Fit m q∧∀l H',FreeIs q.B m.br m.cl q.fi l→Keep [t.eT] H H'→TbF t H'→Q (.bl (rdy ie l (jJ q.B q.P m.br q.fi))) H'
theorem q5U(T:Txt K mg t)(S:Fns K t)(B:BmIn base mg):S.aAA.Ok0 P w mg base 9 (spRd t):=by(
refine S.aAA.F.ok0 q1H λcdv A _ s H vs Q E hr h=>?_
obtain⟨x,r2,r3,r5,m,q,ie,rfl,hs,ft,k⟩:=h
refine⟨_,(qB (qX (i:=1) q1H.nd rfl (Or.inl rfl) (qR vE (j9 jS (by rfl) T.aB7 rF (qA (qT (pv 0) T.eW T.aAB (zN T S B).mono hr S.o7 .nil qK) qF)) (qT (pv 0) T.eW T.tQ (zY T S).mono hr S.iX.b .nil qK))) (qD (qM (qH3 (q03 qK1 (pv 1) qH (qY _)) (q0S (q3G (q03 q0L (pv 1) qH (qY _)) (q0S (q03 q4E (qT (pv 0) T.eW T.aAF (zO T S).mono hr S.oN.b .nil qK) uY (qY _))))))))),?_⟩
try dsimp-beta-proj-iota-zeta-eta only[wishK,cxK]
refine(iV rfl (iM hs.o rfl ⟨x,r2,r3,_,r5,m,q,rfl,hs,ft,λl p H1 hl np k1 tb1 h1=>?_⟩))
have hs1:=hs.kT k1 tb1
refine⟨p,_,rfl,.inl (SqL.of h1),iV rfl (iM hs1.o rfl ⟨x,r2,r3,r5,m,q,ie,rfl,hs1,_,_,rfl,rfl,?_⟩)⟩
refine⟨_,rfl,_,_,rfl,rfl,_,rfl,?_⟩
have kk:=λH' s'=>k l H' hl (k1.trans (Keep.same s')) (tb1.same s')
unfold rdy at kk
rw[h9]
by_cases z:(l.length:Int)-(1+ie)>0
·rw[hV z];refine iteT ?_;have:=kk H1 (Same.refl H1);rw[hV z]at this;exact this
rw[kE z]
refine iteF ?_
rw[kE z]at kk
refine⟨_,rfl,rfl,_,rfl,?_⟩
rw[q0X]
by_cases e0:(l.length:Int)-(1+ie)=0
·rw[hV e0];rw[hV e0]at kk;refine iteT ?_;refine(iV rfl (iM hs1.o rfl ⟨x,r2,r3,_,r5,m,q,rfl,hs1,ft,λH2 s2=>⟨rfl,?_⟩⟩));have:=kk H2 s2;cases hp:jJ q.B q.P m.br q.fi with
 |none=>rw[hp]at this;exact this
 |some b=>rw[hp]at this;exact this
rw[kE e0]
rw[kE e0]at kk
refine iteF ?_
exact kk H1 (Same.refl H1))
noncomputable def spTy(t:Adr):Sp:=λvs H Q _=>∃x r2 r3 r4 r5 m q,∃b:Nat,vs=[.ref x.s,.int (b:Int)]∧StAt t H x r2 r3 r4 r5 m q∧Fit m q∧b<q.B∧NewO H (.tup (tyL m q b)) Q
theorem q5V(T:Txt K mg t)(S:Fns K t):S.t8.Ok0 P w mg base 5 (spTy t):=by(
refine S.t8.F.ok0 q5K λcdv A _ s H vs Q E hr h=>?_
obtain⟨x,r2,r3,r4,r5,m,q,b,rfl,hs,ft,hb,k⟩:=h
have eB:=ft.eB
refine⟨_,(qD (qM (yX (qA (pv 1) (qA (qZ jK (qJ (qJ (pv 0) rfl) rfl) (pv 1) (λ_ _=>rfl)) (qA (j0 (qJ (pv 0) rfl) T.eZ T.oF (v4 T S).mono hr S.iS.b .nil qK (qA (pv 1) qF)) (qA (qZ jK (qJ (qJ (pv 0) rfl) rfl) (pv 1) (λ_ _=>rfl)) qF))))))),?_⟩
try dsimp-beta-proj-iota-zeta-eta only[wishK,cxK]
refine⟨_,rfl,iV rfl (iF hs.o T.eW T.fB rfl (iF hs.bk.o T.e9 T.i7 rfl ⟨_,rfl,iL (k:=_) (v:=_) (SqL.of hs.bk.l) (atV (by rw[ft.oq.ll];exact hb)) ?_⟩))⟩
refine(iV rfl (iF hs.o T.eW T.fM rfl (iM hs.ch.ins rfl ⟨_,rfl,x.c,x.a,m,_,rfl,hs.ch,ft.ok,by lia,by lia,?_⟩)))
rw[mI]
refine(iV rfl (iF hs.o T.eW T.fB rfl (iF hs.bk.o T.e9 T.oA rfl ⟨_,rfl,iL (k:=_) (v:=_) (SqL.of hs.bk.b) (atV (by rw[ft.oq.lo];exact hb)) ?_⟩)))
exact⟨sz4,k⟩)
noncomputable def spSc(t:Adr):Sp:=λvs H Q _=>∃x r2 r3 r5 m q,∃ie:Int,vs=[.ref x.s]∧StAt t H x r2 r3 (.int ie) r5 m q∧Fit m q∧∀l H',FreeIs q.B m.br m.cl q.fi l→Keep [t.eT] H H'→TbF t H'→Q (.int (spcN ie l q.P q.fi (jJ q.B q.P m.br q.fi))) H'
theorem q5W(T:Txt K mg t)(S:Fns K t)(B:BmIn base mg):S.aAG.Ok0 P w mg base 9 (spSc t):=by(
refine S.aAG.F.ok0 q1J λcdv A _ s H vs Q E hr h=>?_
obtain⟨x,r2,r3,r5,m,q,ie,rfl,hs,ft,k⟩:=h
have eP:=ft.eP
refine⟨_,(qB (jE (qU qB2 (j9 jS (by rfl) T.aB7 rF (qA (qT (pv 0) T.eW T.aAB (zN T S B).mono hr S.o7 .nil qK) qF)) (qT (pv 0) T.eW T.tQ (zY T S).mono hr S.iX.b .nil qK) (qY _)) (qD (qM (qJ (qJ (pv 0) rfl) rfl))) qQ) (qB (qX (i:=1) q1J.nd rfl (Or.inl rfl) (qT (pv 0) T.eW T.aAF (zO T S).mono hr S.oN.b .nil qK)) (qB (jE (qU qA2 (pv 1) uY (qY _)) (qD (qM qH)) qQ) (qD (qM (qR vE (qJ (qJ (pv 0) rfl) rfl) (qZ jK (qJ (qJ (pv 0) rfl) rfl) (pv 1) (λ_ _=>rfl)))))))),?_⟩
try dsimp-beta-proj-iota-zeta-eta only[wishK,cxK]
refine(iV rfl (iM hs.o rfl ⟨x,r2,r3,_,r5,m,q,rfl,hs,ft,λl p H1 hl np k1 tb1 h1=>?_⟩))
have hs1:=hs.kT k1 tb1
refine⟨p,_,rfl,.inl (SqL.of h1),iV rfl (iM hs1.o rfl ⟨x,r2,r3,r5,m,q,ie,rfl,hs1,_,_,rfl,rfl,_,rfl,?_⟩)⟩
have kk:=λH' s'=>k l H' hl (k1.trans (Keep.same s')) (tb1.same s')
unfold spcN at kk
rw[h9]
by_cases z:1+ie≤(l.length:Int)
·rw[hV (show(l.length:Int)≥1+ie from z)];refine iteT ?_;refine(iV rfl (iF hs1.o T.eW T.fA rfl (iF hs1.te T.fE T.fD rfl ?_)));have:=kk H1 (Same.refl H1);rw[kI z,←eP]at this;exact this
rw[kE (show ¬(l.length:Int)≥1+ie from z)]
refine iteF ?_
refine(iV rfl (iM hs1.o rfl ⟨x,r2,r3,_,r5,m,q,rfl,hs1,ft,λH2 s2=>?_⟩))
have kk:=kk H2 s2
rw[kF z]at kk
cases hp:jJ q.B q.P m.br q.fi with
|none=>rw[hp]at kk;exact⟨_,rfl,rfl,_,rfl,iteT kk⟩
|some b=>rw[hp]at kk;have hs2:=hs1.same s2;refine⟨_,rfl,rfl,_,rfl,iteF ?_⟩;refine(iV rfl (iF hs2.o T.eW T.fA rfl (iF hs2.te T.fE T.fD rfl (iV rfl (iF hs2.o T.eW T.fB rfl (iF hs2.bk.o T.e9 T.fF rfl ⟨_,rfl,iL (k:=_) (v:=_) (SqL.of hs2.bk.f) (atV (by rw[ft.oq.lf];exact(q09 hp).1)) (iI ?_)⟩))))));rw[eP];exact kk)
noncomputable abbrev Tys(H:Hp)(m:CM)(q:QM):List V→List Nat→Prop:=Paired λv b=>∃p,v=.ref p∧H p=some (.tup (tyL m q b))
theorem q9S{F:List Addr}{H H':Hp}{m:CM}{q:QM}(k:Keep F H H'){rs:List V}{L:List Nat}(r:Tys H m q rs L):Tys H' m q rs L:=Paired.mapP r λv d ⟨p,e,h⟩=>⟨p,e,k.tp _ _ h⟩
noncomputable def spFo(t:Adr):Sp:=λvs H Q _=>∃x r2 r3 r5 m q,∃ie:Int,vs=[.ref x.s]∧StAt t H x r2 r3 (.int ie) r5 m q∧Fit m q∧∀l p rs H',FreeIs q.B m.br m.cl q.fi l→H p=none→Keep [t.eT] H H'→TbF t H'→H' p=some (.lst rs)→Tys H' m q rs ((jQ q.B q.P m.br q.fi).filter λb=>decide (q.lv.getD b 0≤spcN ie l q.P q.fi (jJ q.B q.P m.br q.fi)))→Q (.ref p) H'
theorem vS(T:Txt K mg t)(S:Fns K t)(B:BmIn base mg):S.iD.Ok0 P w mg base 10 (spFo t):=by(
refine S.iD.F.ok0 yI λcdv A _ s H vs Q E hr h=>?_
obtain⟨x,r2,r3,r5,m,q,ie,rfl,hs,ft,k⟩:=h
have b2:=ft.oq.b2
have eP:=ft.eP
have sz:(16:Nat)<sizeLine:=by decide
have fl:(jQ q.B q.P m.br q.fi).length≤16:=mF (mH _ _) (mF (q10 (B:=q.B) (br:=m.br)) b2)
refine⟨_,(qB (qX (i:=1) yI.nd rfl (Or.inr rfl) (qT (pv 0) T.eW T.aCN (q5W T S B).mono hr S.aAG.b .nil qK)) (qB (q57 (i:=2) ["self","block"] [0] rfl (jN (qT (pv 0) T.eW T.oS (uU T S).mono hr S.i3.b .nil qK)) (λ_ _ _ _ _=>(qW (i:=1) (show List.Nodup (["self","block"]:List Str)from by decide) rfl (Or.inl rfl))) (λ_ _ _ _ _=>(uS (qU q0L (qZ (q94 (K:=K) rfl) (yO (K:=K) rfl (yO (K:=K) rfl (pv 0) rfl) rfl) (pv 1) (λ_ _=>rfl)) (yO (K:=K) rfl (yO (K:=K) rfl (pv 0) rfl) rfl) (qY _)))) (λ_ _ _ _ _=>(pv 1)) (by kernel_rfl) (y8 (by decide)) yI.nd rfl (Or.inl rfl)) (qB (q57 (i:=3) ["self","block"] [0] rfl (jN (pv 2)) (λ_ _ _ _ _=>(qW (i:=1) (show List.Nodup (["self","block"]:List Str)from by decide) rfl (Or.inl rfl))) (λ_ _ _ _ _=>q2Z) (λ_ _ _ _ _=>(j0 (pv 0) T.eW T.aCM (q5V T S).mono hr S.t8.b .nil qK (qA (pv 1) qF))) (by kernel_rfl) (y8 (by decide)) yI.nd rfl (Or.inl rfl)) (qD (qM (yY ["space","tally"] [1] rfl (jN (pv 3)) (λ_ _ _ _ _=>(qW (i:=1) (show List.Nodup (["space","tally"]:List Str)from by decide) rfl (Or.inl rfl))) (λ_ _ _ _ _=>(uS (qU qD0 (qZ (vV (K:=K) rfl) (pv 1) qH (λ_ _=>rfl)) (pv 0) (qY _)))) (λ_ _ _ _ _=>(pv 1)) (by kernel_rfl) (y8 (by decide)))))))),?_⟩
try dsimp-beta-proj-iota-zeta-eta only[wishK,cxK]
refine(iV rfl (iM hs.o rfl ⟨x,r2,r3,r5,m,q,ie,rfl,hs,ft,λl H1 hl k1 tb1=>?_⟩))
have hs1:=hs.kT k1 tb1
have kk:=λp rs H' np k'=>k l p rs H' hl np (k1.trans k')
generalize spcN ie l q.P q.fi (jJ q.B q.P m.br q.fi)=sp at kk
refine(iV rfl (iM hs1.o rfl ⟨x,r2,r3,_,r5,m,q,rfl,hs1,ft,λp H2 n2 s2 h2=>?_⟩))
refine⟨p,rfl,⟨_,SqL.of h2⟩,λD H3 nD s3 hD=>?_⟩
refine vG (K:=K) (xs:=(yW q.B m.br).map vn) (D:=D) (λi H3=>Same H2 H3∧H3 D=some (.lst ((((yW q.B m.br).take i).filter λb=>decide (q.fi.getD b 0=(q.P:Int))).map vn))) ⟨s3,hD⟩ (λi H3 hp=>SqL.of (hp.1 _ _ h2)) (λi y H3 hy hp=>?_) (λH3 hp=>?_)
·obtain⟨sm,hd⟩:=hp;have h3:=(hs1.same s2).same sm;rw[mG]at hy;obtain⟨b,hb,rfl⟩:=mO.mp hy;have hi:=(kB.mp hb).1;have mb:=zT.mp (gE hb);refine(iV rfl (iF h3.o T.eW T.fB rfl (iF h3.bk.o T.e9 T.fF rfl ⟨_,rfl,iL (k:=_) (v:=_) (SqL.of h3.bk.f) (atV (by rw[ft.oq.lf];exact mb.1)) (iV rfl (iF h3.o T.eW T.fA rfl (iF h3.te T.fE T.fD rfl ⟨rfl,_,rfl,?_⟩)))⟩)));rw[q0X,eP,←mL hi,g8,mW];obtain rfl:(yW q.B m.br)[i]=b:=(kB.mp hb).2;by_cases z:q.fi.getD (yW q.B m.br)[i] 0=(q.P:Int)
 ·rw[hV z];refine iteT ?_;refine⟨_,rfl,_,hd,?_,λb o e=>?_,?_⟩
  ·rw[h9];have l1:(((yW q.B m.br).take i).filter λb=>decide (q.fi.getD b 0=(q.P:Int))).length≤q.B:=mF (mH _ _) (mF (by rw[mZ];lia) (q10 (B:=q.B) (br:=m.br)));lia
  ·rw[qC (qG e nD)];exact sm _ _ e
  rw[qI,gA,hV z];rfl
 rw[kE z];refine iteF ⟨sm,?_⟩;rw[hd,gA,kE z];simp
obtain⟨sm,hd⟩:=hp
rw[h9,gC]at hd
have hd:H3 D=some (.lst ((jQ q.B q.P m.br q.fi).map vn)):=hd
have s13:=s2.trans sm
have h3:=hs1.same s13
refine⟨_,rfl,D,rfl,⟨_,SqL.of hd⟩,λD2 H4 nD2 s4 hD2=>?_⟩
refine q30 (K:=K) (xs:=(jQ q.B q.P m.br q.fi).map vn) (D:=D2) (λi H5=>∃rs,Same H3 H5∧H5 D2=some (.lst rs)∧Tys H5 m q rs ((jQ q.B q.P m.br q.fi).take i)) ⟨_,s4,hD2,.nil⟩ (λi H5 hp=>by obtain⟨rs,sm5,_⟩:=hp;exact SqL.of (sm5 _ _ hd)) (λi y H5 hy hp=>?_) (λH5 hp=>?_)
·obtain⟨rs,sm5,hd5,ty⟩:=hp;have h5:=h3.same sm5;rw[mG]at hy;obtain⟨b,hb,rfl⟩:=mO.mp hy;have hi:=(kB.mp hb).1;have mb:=zT.mp (mP.mp (gE hb)).1;obtain rfl:(jQ q.B q.P m.br q.fi)[i]=b:=(kB.mp hb).2;have ln:=ty.len;rw[mZ]at ln;refine(iV rfl (iM h5.o rfl ⟨_,rfl,x,r2,r3,_,r5,m,q,_,rfl,h5,ft,mb.1,λtp H6 n6 s6 h6=>⟨_,s6 _ _ hd5,by lia,?_⟩⟩));have ne:∀b o,H6 b=some (.tup o)→b≠D2:=λb o e z=>by rw[z,s6 _ _ hd5]at e;cases e
 refine⟨_,λb o e=>?_,qI,?_⟩
 ·rw[qC (qG e nD2)];exact s6 _ _ (sm5 _ _ e)
 rw[←mL hi];refine L2.Paired.snoc (Paired.mapP ty λv d ⟨p,e,h⟩=>⟨p,e,?_⟩) ⟨tp,rfl,?_⟩
 ·rw[qC (ne _ _ (s6 _ _ h))];exact s6 _ _ h
 rw[qC (ne _ _ h6)];exact h6
obtain⟨rs,sm5,hd5,ty⟩:=hp
rw[h9,gC]at ty
have s15:=s13.trans sm5
have h5:=hs1.same s15
refine⟨_,rfl,D2,rfl,⟨_,SqL.of hd5⟩,λD3 H6 nD3 s6 hD3=>?_⟩
refine vG (K:=K) (xs:=rs) (D:=D3) (λi H7=>∃rs',Same H5 H7∧H7 D3=some (.lst rs')∧rs'.length≤i∧Tys H5 m q rs' (((jQ q.B q.P m.br q.fi).take i).filter λb=>decide (q.lv.getD b 0≤sp))) ⟨_,s6,hD3,kN _,.nil⟩ (λi H7 hp=>by obtain⟨_,sm7,_⟩:=hp;exact SqL.of (sm7 _ _ hd5)) (λi y H7 hy hp=>?_) (λH7 hp=>?_)
·obtain⟨rs',sm7,hd7,ln,ty'⟩:=hp;obtain⟨b,hb,tp,rfl,htp⟩:=Paired.at ty hy;have hi:=(kB.mp hb).1;obtain rfl:(jQ q.B q.P m.br q.fi)[i]=b:=(kB.mp hb).2;refine⟨_,rfl,iT (k:=_) (v:=_) (SqT.of (sm7 _ _ htp)) rfl ⟨_,rfl,iI ⟨_,rfl,?_⟩⟩⟩;have ln':=ty.len;have hir:=(kB.mp hy).1;have e1:((jQ q.B q.P m.br q.fi).take (i+1)).filter (λb=>decide (q.lv.getD b 0≤sp))=((jQ q.B q.P m.br q.fi).take i).filter (λb=>decide (q.lv.getD b 0≤sp))++(if q.lv.getD (jQ q.B q.P m.br q.fi)[i] 0≤sp then[(jQ q.B q.P m.br q.fi)[i]]else[]):=by
  rw[←mL hi,g8,gA];by_cases z:q.lv.getD (jQ q.B q.P m.br q.fi)[i] 0≤sp
  ·rw[hV z,kI z];rfl
  rw[kE z,kF z];rfl
 rw[e1];by_cases z:q.lv.getD (jQ q.B q.P m.br q.fi)[i] 0≤sp
 ·rw[hV z,kI z];refine iteT ?_;refine⟨_,rfl,_,hd7,by lia,_,λb o e=>?_,qI,?_,L2.Paired.snoc ty' ⟨tp,rfl,htp⟩⟩
  ·rw[qC (qG e nD3)];exact sm7 _ _ e
  rw[kZ];exact cO ln 1
 rw[kE z,kF z,dQ];exact iteF ⟨_,sm7,hd7,by lia,ty'⟩
obtain⟨rs',sm7,hd7,ln,ty'⟩:=hp
rw[ty.len,gC]at ty'
have s17:=s15.trans sm7
refine kk D3 rs' H7 ?_ (Keep.same s17) (tb1.same s17) hd7 (q9S (Keep.same (F:=[]) sm7) ty')
refine k1.none (λz=>?_) (Same.free s15 nD3)
obtain⟨ps',hT',_⟩:=tb1.same s15
rw[kD.mp z,hT']at nD3
cases nD3)
theorem q9T{L:List Nat}{p:Nat→Bool}{i:Nat}(hi:i<L.length):(L.take (i+1)).filter p=(L.take i).filter p++(if p L[i]=true then[L[i]]else[]):=by rw[←mL hi,g8,gA];rfl
noncomputable def spOp(t:Adr):Sp:=λvs H Q _=>∃x r2 r3 r5 m q,∃ie:Int,vs=[.ref x.s]∧StAt t H x r2 r3 (.int ie) r5 m q∧Fit m q∧∀l p rs H',FreeIs q.B m.br m.cl q.fi l→H p=none→Keep [t.eT] H H'→TbF t H'→H' p=some (.lst rs)→Tys H' m q rs (optN ie m q l)→Q (.ref p) H'
theorem zZ(T:Txt K mg t)(S:Fns K t)(B:BmIn base mg):S.fX.Ok0 P w mg base 11 (spOp t):=by(
refine S.fX.F.ok0 zV λcdv A _ s H vs Q E hr h=>?_
obtain⟨x,r2,r3,r5,m,q,ie,rfl,hs,ft,k⟩:=h
have b2:=ft.oq.b2
have eP:=ft.eP
have sz:(16:Nat)<sizeLine:=by decide
have fl:(jQ q.B q.P m.br q.fi).length≤16:=mF (mH _ _) (mF (q10 (B:=q.B) (br:=m.br)) b2)
refine⟨_,(qD (qM (yY ["self","tally"] [0] rfl (jN (qT (pv 0) T.eW T.oW (vS T S B).mono hr S.iD.b .nil qK)) (λ_ _ _ _ _=>(qW (i:=1) (show List.Nodup (["self","tally"]:List Str)from by decide) rfl (Or.inl rfl))) (λ_ _ _ _ _=>(uS (qU q4U (qZ (vV (K:=K) rfl) (pv 1) qH (λ_ _=>rfl)) (yO (K:=K) rfl (yO (K:=K) rfl (pv 0) rfl) rfl) (qY _)))) (λ_ _ _ _ _=>(pv 1)) (by kernel_rfl) (y8 (by decide))))),?_⟩
try dsimp-beta-proj-iota-zeta-eta only[wishK,cxK]
refine(iV rfl (iM hs.o rfl ⟨x,r2,r3,r5,m,q,ie,rfl,hs,ft,λl p0 rs H5 hl np k1 tb1 hd5 ty=>?_⟩))
have h5:=hs.kT k1 tb1
have kk:=λp rs H' np=>k l p rs H' hl np
unfold optN at kk
have fl':=mF (mH (λb=>decide (q.lv.getD b 0≤spcN ie l q.P q.fi (jJ q.B q.P m.br q.fi))) _) fl
generalize (jQ q.B q.P m.br q.fi).filter (λb=>decide (q.lv.getD b 0≤spcN ie l q.P q.fi (jJ q.B q.P m.br q.fi)))=L at kk ty fl'
refine⟨p0,rfl,⟨_,SqL.of hd5⟩,λD3 H6 nD3 s6 hD3=>?_⟩
refine vG (K:=K) (xs:=rs) (D:=D3) (λi H7=>∃rs',Same H5 H7∧H7 D3=some (.lst rs')∧rs'.length≤i∧Tys H5 m q rs' ((L.take i).filter λb=>decide (q.lv.getD b 0<(q.P:Int)))) ⟨_,s6,hD3,kN _,.nil⟩ (λi H7 hp=>by obtain⟨_,sm7,_⟩:=hp;exact SqL.of (sm7 _ _ hd5)) (λi y H7 hy hp=>?_) (λH7 hp=>?_)
·obtain⟨rs',sm7,hd7,ln,ty'⟩:=hp;obtain⟨b,hb,tp,rfl,htp⟩:=Paired.at ty hy;have hi:=(kB.mp hb).1;obtain rfl:L[i]=b:=(kB.mp hb).2;have h7:=h5.same sm7;refine⟨_,rfl,iT (k:=_) (v:=_) (SqT.of (sm7 _ _ htp)) rfl (iV rfl (iF h7.o T.eW T.fA rfl (iF h7.te T.fE T.fD rfl (iI ⟨_,rfl,?_⟩))))⟩;rw[eP,q9T hi];by_cases z:q.lv.getD L[i] 0<(q.P:Int)
 ·rw[hV z,kI rfl];refine iteT ?_;refine⟨_,rfl,_,hd7,by lia,_,λb o e=>?_,qI,?_,L2.Paired.snoc ty' ⟨tp,rfl,htp⟩⟩
  ·rw[qC (qG e nD3)];exact sm7 _ _ e
  rw[kZ];exact cO ln 1
 rw[kE z,kF (by decide),dQ];exact iteF ⟨_,sm7,hd7,by lia,ty'⟩
obtain⟨rs',sm7,hd7,ln,ty'⟩:=hp
rw[ty.len,gC]at ty'
refine kk D3 rs' H7 ?_ (k1.trans (Keep.same sm7)) (tb1.same sm7) hd7 (q9S (Keep.same (F:=[]) sm7) ty')
refine k1.none (λz=>?_) nD3
obtain⟨ps',hT',_⟩:=tb1
rw[kD.mp z,hT']at nD3
cases nD3)
theorem _root_.L2.ChipAt.has{C c:Addr}{a:CA}{m:CM}{H:Hp}(h:ChipAt C H c a m){b:Addr}(hb:b∈a.li::foot c a):∃o,H b=some o∧(b≠c→∀C d f,o≠ .ins C d f):=by(
obtain⟨rs,er,_⟩:=h.rc
have hb:b=a.li∨b=c∨b=a.bo∨b=a.cl∨b=a.dc∨b=a.br∨b=a.rc:=by simpa[foot]using hb
rcases hb with rfl|rfl|rfl|rfl|rfl|rfl|rfl
·exact⟨_,h.li,λ_ _ _ _ z=>by cases z⟩
·exact⟨_,h.ins,λn=>absurd rfl n⟩
·exact⟨_,h.bo,λ_ _ _ _ z=>by cases z⟩
·exact⟨_,h.cl,λ_ _ _ _ z=>by cases z⟩
·exact⟨_,h.dc,λ_ _ _ _ z=>by cases z⟩
·exact⟨_,h.br,λ_ _ _ _ z=>by cases z⟩
exact⟨_,er,λ_ _ _ _ z=>by cases z⟩)
theorem StAt.off{H:Hp}{x:Sto}{r2 r3 r4 r5:V}{m:CM}{q:QM}(h:StAt t H x r2 r3 r4 r5 m q){p:Addr}(n:H p=none):p∉t.eT::sf x:=λz=>by(
obtain⟨rs,er,_⟩:=h.ch.rc
obtain⟨ps,hT,_⟩:=h.tb
have z:p=t.eT∨p=x.c∨p=x.a.bo∨p=x.a.cl∨p=x.a.dc∨p=x.a.br∨p=x.a.rc∨p=x.k.bk∨p=x.k.wv∨p=x.k.lv∨p=x.k.fi∨p=x.k.bo:=by simpa[sf,bf,foot]using z
rcases z with rfl|rfl|rfl|rfl|rfl|rfl|rfl|rfl|rfl|rfl|rfl|rfl
·rw[hT]at n;cases n
·rw[h.ch.ins]at n;cases n
·rw[h.ch.bo]at n;cases n
·rw[h.ch.cl]at n;cases n
·rw[h.ch.dc]at n;cases n
·rw[h.ch.br]at n;cases n
·rw[er]at n;cases n
·rw[h.bk.o]at n;cases n
·rw[h.bk.w]at n;cases n
·rw[h.bk.l]at n;cases n
·rw[h.bk.f]at n;cases n
rw[h.bk.b]at n;cases n)
noncomputable def spPi(t:Adr):Sp:=λvs H Q E=>∃x dx tm td c a r2 r3 r4 r5,∃m:CM,∃B P:Nat,vs=[.ref x,.ref c,.ref tm]∧H x=some (.ins t.C_Even dx [])∧H tm=some (.ins t.C_Terms td (teF (.int (B:Int)) (.int (P:Int)) r2 r3 r4 r5))∧ChipAt t.C_Chip H c a m∧m.bl=(B:Int)∧m.pg=(P:Int)∧B≤16∧TbF t H∧∀k H',H' x=some (.ins t.C_Even dx [("chip",.ref c),("terms",.ref tm),("book",.ref k.bk)])→(∀ru pa H2,Keep [x] H' H2→H2 x=some (.ins t.C_Even dx [("chip",.ref c),("terms",.ref tm),("book",.ref k.bk),("rule",ru),("papers",pa)])→StAt t H2 ⟨x,dx,tm,td,c,a,k,ru,pa⟩ r2 r3 r4 r5 m (bk0 B P))→(∀b∈bf k,H b=none)→(∀b o,b≠x→H b=some o→H' b=some o)→Q .non H'
theorem q6E(T:Txt K mg t)(S:Fns K t):S.aAS.Ok0 P w mg base 3 (spPi t):=by(
refine S.aAS.F.ok0 q66 λcdv A _ s H vs Q E hr h=>?_
obtain⟨x,dx,tm,td,c,a,r2,r3,r4,r5,m,B,P',rfl,hx,htm,hc,eB,eP,hB,tb,k⟩:=h
refine⟨_,(qB (jE (PW.pt (qAY (qU q8L (qJ (pv 2) rfl) (qJ (pv 1) rfl) (qY _)) (q9Y (qU q8L (qJ (pv 2) rfl) (qJ (pv 1) rfl) (qY _))))) (qD j8) qQ) (qB (jI (pv 0) (pv 1) rfl) (qB (jI (pv 0) (pv 2) rfl) (qD (jI (pv 0) (q4G T.aD4 (q89 T S).mono hr rfl T.aD6 S.aBJ.b .nil qK (qA (qJ (pv 1) rfl) (qA (qJ (pv 1) rfl) qF))) rfl))))),?_⟩
try dsimp-beta-proj-iota-zeta-eta only[wishK,cxK]
refine(iV rfl (iF htm T.fE T.iA rfl (iV rfl (iF hc.ins T.eZ T.fY rfl ⟨rfl,_,rfl,?_⟩))))
rw[show(!decide (V.int (B:Int)=V.int m.bl))=false by rw[eB];simp]
refine iteF ?_
refine(iV rfl (iF htm T.fE T.fD rfl (iV rfl (iF hc.ins T.eZ T.fO rfl ⟨rfl,_,rfl,?_⟩))))
rw[show(!decide (V.int (P':Int)=V.int m.pg))=false by rw[eP];simp]
refine iteF ?_
refine⟨_,rfl,_,rfl,x,_,dx,_,rfl,hx,T.eW,T.fM,by decide,?_⟩
refine⟨_,rfl,_,rfl,x,_,dx,_,rfl,qI,T.eW,T.fA,by show 1<1000;decide,?_⟩
rw[q7C]
have tx:tm≠x:=jP htm hx (by intro z;injection z with z1 z2 z3;unfold teF at z3;cases z3)
have cx:c≠x:=jP hc.ins hx (by intro z;injection z with z1 z2 z3;unfold chF at z3;cases z3)
have k1:∀b o,b≠x→H b=some o→(upd H x (.ins t.C_Even dx [("chip",.ref c),("terms",.ref tm)])) b=some o:=λb o nb e=>by rw[qC nb];exact e
have o1:(upd H x (.ins t.C_Even dx [("chip",.ref c),("terms",.ref tm)])) x=some (.ins t.C_Even dx [("chip",.ref c),("terms",.ref tm)]):=qI
have f1:∀b,(upd H x (.ins t.C_Even dx [("chip",.ref c),("terms",.ref tm)])) b=none→H b=none:=λb e=>by
 by_cases z:b=x
 ·rw[z,qI]at e;cases e
 rw[qC z]at e;exact e
rw[show putF "terms" (.ref tm) (putF "chip" (.ref c) ([]:List (Str×V)))=([("chip",V.ref c),("terms",V.ref tm)]:List (Str×V))from rfl]
generalize upd H x (.ins t.C_Even dx [("chip",.ref c),("terms",.ref tm)])=H1 at k1 o1 f1 ⊢
have hc1:=k1 _ _ cx hc.ins
refine(iV rfl (iF hc1 T.eZ T.fY rfl (iV rfl (iF hc1 T.eZ T.fO rfl (λk' kd nk nkd nn=>?_)))))
rw[eB,eP]
refine⟨k',kd,B,P',rfl,hB,qI,λka H3 e1 e2 hb3 ds fr up=>⟨rfl,?_⟩⟩
have s0:Same H1 (upd (upd H1 kd (.own k')) k' (.ins t.C_Book kd [])):=q7M nk nkd
have up':∀b o,H1 b=some o→H3 b=some o:=λb o e=>up b o (qG e nk) (s0 b o e)
refine⟨_,rfl,x,_,dx,_,rfl,up' _ _ o1,T.eW,T.fB,by show 2<1000;decide,?_⟩
have hx3:=up' _ _ o1
have kx:ka.bk≠x:=by rw[e1];exact(qG o1 nk).symm
have lH:∀b∈bf ka,H b=none:=λb hb=>by
 have hb:b=ka.bk∨b∈[ka.wv,ka.lv,ka.fi,ka.bo]:=by simpa[bf]using hb
 rcases hb with rfl|hb
 ·rw[e1];exact f1 _ nk
 exact f1 _ (Same.free s0 (fr b hb))
have kpx:∀b o,b≠x→H3 b=some o→(upd H3 x (.ins t.C_Even dx (putF "book" (.ref k') [("chip",V.ref c),("terms",V.ref tm)]))) b=some o:=λb o nb e=>by rw[qC nb];exact e
have up2:∀b o,b≠x→H b=some o→(upd H3 x (.ins t.C_Even dx (putF "book" (.ref k') [("chip",V.ref c),("terms",V.ref tm)]))) b=some o:=λb o nb e=>kpx b o nb (up' b o (k1 b o nb e))
have nx:∀{b:Addr} {o:HO},H3 b=some o→(∀C d fs,o≠ .ins C d fs)→b≠x:=fun {b o} e n z=>by rw[z,hx3]at e;exact n _ _ _ (kU e).symm
have cfx:∀b∈a.li::foot c a,b≠x:=λb hb z=>by
 obtain⟨o,e,no⟩:=hc.has hb;by_cases y:b=c
 ·exact cx (y.symm.trans z)
 rw[z,hx]at e;exact no y _ _ _ (kU e).symm
refine k ka _ (by rw[e1];exact qI) (λru pa H2 kk hx2=>?_) lH up2
have kp2:∀b o,b≠x→H3 b=some o→H2 b=some o:=λb o nb e=>kk.k b o (by simpa using nb) (kpx b o nb e)
have up3:∀b o,b≠x→H b=some o→H2 b=some o:=λb o nb e=>kk.k b o (by simpa using nb) (up2 b o nb e)
have kK:Keep [x] H H2:=⟨λb o nb e=>up3 b o (λz=>nb (by rw[z];simp)) e,λb xs e=>up3 b _ (λz=>by rw[z,hx]at e;cases e) e⟩
refine⟨hx2,?_,?_,?_,?_,ds,?_,?_⟩
·rw[eB,eP];exact up3 _ _ tx htm
·exact hc.keep kK (λb hb z=>cfx b hb (kD.mp z))
·exact⟨kp2 _ _ kx hb3.o,kp2 _ _ (nx hb3.w (λ_ _ _ z=>by cases z)) hb3.w,kp2 _ _ (nx hb3.l (λ_ _ _ z=>by cases z)) hb3.l,kp2 _ _ (nx hb3.f (λ_ _ _ z=>by cases z)) hb3.f,kp2 _ _ (nx hb3.b (λ_ _ _ z=>by cases z)) hb3.b⟩
·exact tb.gen λb o to e=>up3 _ _ (yN to e hx q24) e
·intro b hb z;obtain⟨o,e,_⟩:=hc.has hb;rw[lH b z]at e;cases e
intro b hb z
have hb:b=x∨b=tm:=by simpa using hb
have y0:b∈foot c a∨b∈bf ka:=by simpa[sf]using z
clear z
rcases y0 with z|z
·rcases hb with rfl|rfl
 ·exact cfx _ (kC _ z) rfl
 obtain⟨o,e,no⟩:=hc.has (kC _ z);by_cases y:b=c
 ·rw[y,hc.ins]at htm;have htm:=kU htm;injection htm with z1 z2 z3
  unfold chF teF at z3;have:=rK List.length z3;simp at this
 rw[htm]at e;exact no y _ _ _ (kU e).symm
have n:=lH b z
rcases hb with rfl|rfl
·rw[hx]at n;cases n
rw[htm]at n;cases n)
noncomputable def spSi(t:Adr):Sp:=λvs H Q E=>∃x dx tm td c a r2 r3 r4 r5 ru,∃m:CM,∃B P:Nat,vs=[.ref x,.ref c,.ref tm,ru]∧H x=some (.ins t.C_Even dx [])∧H tm=some (.ins t.C_Terms td (teF (.int (B:Int)) (.int (P:Int)) r2 r3 r4 r5))∧ChipAt t.C_Chip H c a m∧m.bl=(B:Int)∧m.pg=(P:Int)∧B≤16∧TbF t H∧∀k p H',StAt t H' ⟨x,dx,tm,td,c,a,k,ru,.ref p⟩ r2 r3 r4 r5 m (bk0 B P)→H' p=some (.lst [])→H p=none→(∀b∈bf k,H b=none)→p∉t.eT::sf ⟨x,dx,tm,td,c,a,k,ru,.ref p⟩→(∀b o,b≠x→H b=some o→H' b=some o)→Q .non H'
theorem q6F(T:Txt K mg t)(S:Fns K t):S.aAQ.Ok0 P w mg base 4 (spSi t):=by(
refine S.aAQ.F.ok0 q69 λcdv A _ s H vs Q E hr h=>?_
obtain⟨x,dx,tm,td,c,a,r2,r3,r4,r5,ru,m,B,P',rfl,hx,htm,hc,eB,eP,hB,tb,k⟩:=h
refine⟨_,(qB (qV (qJD T.aDU (q6E T S).mono hr rfl T.aD1 S.aAS.b .nil qK (qA (pv 0) (qA (pv 1) (qA (pv 2) qF))))) (qB (jI (pv 0) (pv 3) rfl) (qD (jI (pv 0) (y6 qF) rfl)))),?_⟩
try dsimp-beta-proj-iota-zeta-eta only[wishK,cxK]
refine⟨_,rfl,_,rfl,_,rfl,x,dx,tm,td,c,a,r2,r3,r4,r5,m,B,P',rfl,hx,htm,hc,eB,eP,hB,tb,λka H1 hx1 st fk up=>?_⟩
refine⟨_,rfl,_,rfl,x,_,dx,_,rfl,hx1,T.eW,T.aAY,by show 3<1000;decide,?_⟩
refine⟨sz0,λp H2 np s2 h2=>?_⟩
have px:p≠x:=λz=>by rw[z,qI]at np;cases np
rw[qC px]at np
have hx2:=s2 _ _ qI
refine⟨_,rfl,x,_,dx,_,rfl,hx2,T.eW,T.iP,by show 4<1000;decide,?_⟩
have stA:=st ru .non (upd H1 x (.ins t.C_Even dx [("chip",.ref c),("terms",.ref tm),("book",.ref ka.bk),("rule",ru),("papers",.non)])) (Keep.upd hx1 (λ_ z=>by cases z) (by simp)) qI
have off:=stA.off (p:=p) (by rw[qC px];exact np)
have kA:Keep [x] H1 (upd H2 x (.ins t.C_Even dx (putF "papers" (.ref p) (putF "rule" ru [("chip",.ref c),("terms",.ref tm),("book",.ref ka.bk)])))):=((Keep.upd hx1 (λ_ z=>by cases z) (by simp)).trans (Keep.same s2)).trans (Keep.upd hx2 (λ_ z=>by cases z) (by simp))
refine k ka p _ (st ru (.ref p) _ kA qI) (by rw[qC px];exact h2) ?_ fk off (λb o nb e=>kA.k b o (by simpa using nb) (up b o nb e))
cases e:H p with
|none=>rfl
|some o=>rw[up p o px e]at np;cases np)
noncomputable def spEm(t:Adr):Sp:=λvs H Q _=>∃a,∃m:QM,∃b,vs=[.ref a.bk,.int ((b:Nat):Int)]∧BkAt t H a m∧m.Ok∧Dst a∧b<m.B∧∀H',BkAt t H' a (m.emptied b)→Keep [a.fi,a.bo] H H'→Q .non H'
theorem q4C(T:Txt K mg t)(S:Fns K t):S.tJ.Ok0 P w mg base 1 (spEm t):=by(
refine S.tJ.F.ok0 q43 λcdv A _ s H vs Q E hr h=>?_
obtain⟨a,m,b,rfl,hb,ok,ds,hB,q⟩:=h
have of':a.bk≠a.fi:=jP hb.o hb.f (by intro z;cases z)
have oo:a.bk≠a.bo:=jP hb.o hb.b (by intro z;cases z)
have wf:a.wv≠a.fi:=jP hb.w hb.f (by intro z;cases z)
have wb:a.wv≠a.bo:=jP hb.w hb.b (by intro z;cases z)
have hbf:b<m.fi.length:=by rw[ok.lf];exact hB
have hbo:b<m.bo.length:=by rw[ok.lo];exact hB
refine⟨_,(qB (q3H qH (q4R (qJ (pv 0) rfl) (pv 1) yV)) (qD (q3H qH (q4R (qJ (pv 0) rfl) (pv 1) yV)))),?_⟩
try dsimp-beta-proj-iota-zeta-eta only[wishK,cxK]
refine(iV rfl (iF hb.o T.e9 T.fF rfl ⟨_,rfl,a.fi,_,_,b,rfl,rfl,hb.f,q3M (by rw[h9];exact hbf),?_⟩))
rw[setV]
have b1:(upd H a.fi (.lst ((m.fi.set b 0).map V.int))) a.bo=some (.lst (m.bo.map V.int)):=by rw[qC ds.fb.symm];exact hb.b
have o1':∀o,H a.bk=some o→(upd H a.fi (.lst ((m.fi.set b 0).map V.int))) a.bk=some o:=λo e=>by rw[qC of'];exact e
have o1:=o1' _ hb.o
refine(iV rfl (iF o1 T.e9 T.oA rfl ⟨_,rfl,a.bo,_,_,b,rfl,rfl,b1,q3M (by rw[h9];exact hbo),?_⟩))
rw[setV]
refine q _ ⟨?_,?_,?_,?_,?_⟩ (Keep.trans (H1:=upd H a.fi (.lst ((m.fi.set b 0).map V.int))) (Keep.upd hb.f (λ_ z=>by cases z) (by simp)) (Keep.upd b1 (λ_ z=>by cases z) (by simp)))
·rw[qC oo];exact o1
·rw[qC wb,qC wf];exact hb.w
·rw[qC ds.lb,qC ds.lf];exact hb.l
·rw[qC ds.fb];exact qI
exact qI)
noncomputable def lpK(P b:Nat)(V:Mp):List (List Int):=(V.filter λq=>decide (q.2 / (P:Int)=(b:Int))).map λq=>[q.2,q.1]
theorem q9U{P b:Nat}{V:Mp}{q:Int×Int}:lpK P b (V++[q])=if q.2 / (P:Int)=(b:Int)then lpK P b V++[[q.2,q.1]]else lpK P b V:=by(
unfold lpK
rw[g8,mW]
by_cases e:q.2 / (P:Int)=(b:Int)
·rw[kI e];simp[e]
rw[kF e]
simp[e])
noncomputable def spLp(t:Adr):Sp:=λvs H Q _=>∃a,∃m:QM,∃b,vs=[.ref a.bk,.int ((b:Nat):Int)]∧BkAt t H a m∧m.Ok∧m.V.length<64∧∀l us rs H',Same H H'→H l=none→H' l=some (.lst us)→Paired (TupD H') us rs→rs.Perm (lpK m.P b m.V)→(rs.Pairwise λa b=>lx b a=false)→Q (.ref l) H'
theorem q2U(T:Txt K mg t)(S:Fns K t):S.i5.Ok0 P w mg base 1 (spLp t):=by(
refine S.i5.F.ok0 q2P λcdv A _ s H vs Q E hr h=>?_
obtain⟨a,m,b,rfl,hb,ok,lV,q⟩:=h
have hu:=q6Z hr
have p1:=ok.p1
have p2:=ok.p2
have ob:a.bk≠a.wv:=jP hb.o hb.w (by intro z;cases z)
refine⟨_,(qD (qM (j9 q7P (by rfl) T.aAL (by kernel_rfl) (qA (qBB (yY ["self","block","name","page"] [0,1] rfl (qIY (qDC nL nU PySem.F.type_dict_items qE5 (qJ (pv 0) rfl))) (λ_ _ _ _ _=>(qG0 (K:=K) (n:=2) rfl rfl (yU (qW (i:=2) (show List.Nodup (["self","block","name","page"]:List Str)from by decide) rfl (Or.inl rfl)) (yU (qW (i:=3) (show List.Nodup (["self","block","name","page"]:List Str)from by decide) rfl (Or.inl rfl)) q4D)) rfl rfl)) (λ_ _ _ _ _=>(uS (qU q0L (qR v7 (pv 3) (yO (K:=K) rfl (pv 0) rfl)) (pv 1) (qY _)))) (λ_ _ _ _ _=>(yX (qA (pv 3) (qA (pv 2) qF)))) (by kernel_rfl) (qFT (q92 (by decide) (q92 (by decide) qFS))))) qF)))),?_⟩
try dsimp-beta-proj-iota-zeta-eta only[wishK,cxK]
refine⟨a.wv,_,hb.w,iV rfl (iF hb.o T.e9 T.fV rfl ⟨.inr (.inr (.inl ⟨rfl,.inl ⟨_,hb.w⟩⟩)),a.wv,_,rfl,rfl,hb.w,λv nv=>?_⟩)⟩
have sv:Same H (upd H v (q3X v a.wv)):=Same.upd nv
have vv:(upd H v (q3X v a.wv)) v=some (q3X v a.wv):=qI
generalize upd H v (q3X v a.wv)=H1 at sv vv ⊢
refine⟨v,a.wv,_,rfl,vv,sv _ _ hb.w,λo D H2 nD s2 hD=>?_⟩
have kk:∀x u,x≠a.wv→H x=some u→H2 x=some u:=λx u nx e=>s2 _ _ (by rw[qC nx];exact sv _ _ e)
have fz:H2 a.wv=some (.frz o (.dK (dI m.V))):=s2 _ _ qI
have nDH:H D=none:=by
 cases z:H D with
 |none=>rfl
 |some u=>
  by_cases y:D=a.wv
  ·rw[y,qI]at nD;cases nD
  rw[qC y,sv _ _ z]at nD;cases nD
have Dw:D≠a.wv:=λz=>by rw[z,fz]at hD;cases hD
refine qG1 (D:=D) (λi H3=>H3 a.wv=some (.frz o (.dK (dI m.V)))∧(∀x u,x≠a.wv→H x=some u→H3 x=some u)∧∃us,H3 D=some (.lst us)∧Paired (TupD H3) us (lpK m.P b (m.V.take i))) ⟨fz,kk,[],hD,.nil⟩ (λi H3 hp=>hp.1) (λi kv W H3 hk hp nW=>?_) (λH3 hp=>?_)
·obtain⟨fz3,k3,us,hd,pr⟩:=hp;have hi:i<m.V.length:=by have:=(kB.mp hk).1;rw[q5S]at this;exact this
 obtain rfl:((Sum.inl m.V[i].1:Key),V.int m.V[i].2)=kv:=by
  have e:(dI m.V)[i]?=some ((Sum.inl m.V[i].1:Key),V.int m.V[i].2):=by unfold dI;rw[mG,hX hi];rfl
  rw[e]at hk;exact kU hk
 have sW:Same H3 (upd H3 W (.tup [.int m.V[i].1,.int m.V[i].2])):=Same.upd nW;have hW:(upd H3 W (.tup [.int m.V[i].1,.int m.V[i].2])) W=some (.tup [.int m.V[i].1,.int m.V[i].2]):=qI;show gTup _ _ _ _ _ (upd H3 W (.tup [.int m.V[i].1,.int m.V[i].2])) _;generalize upd H3 W (.tup [.int m.V[i].1,.int m.V[i].2])=H4 at sW hW ⊢;refine⟨W,_,rfl,SqT.of hW,rfl,_,_,rfl,_,_,rfl,rfl,?_⟩;refine⟨_,rfl,iV rfl (iF (sW _ _ (k3 _ _ ob hb.o)) T.e9 T.iZ rfl (iI ⟨⟨by lia,by lia⟩,_,rfl,rfl,_,rfl,?_⟩))⟩;rw[q0X];have tk:m.V.take (i+1)=m.V.take i++[m.V[i]]:=(mL hi).symm;by_cases e:m.V[i].2 / (m.P:Int)=(b:Int)
 ·rw[hV e];refine iteT ?_;refine⟨_,rfl,_,rfl,sz2,λtp H5 n5 s5 h5=>?_⟩;have s35:=sW.trans s5;have hd5:=s35 _ _ hd;have lu:us.length≤64:=by
   have:=pr.len;have l2:(lpK m.P b (m.V.take i)).length≤(m.V.take i).length:=by unfold lpK;rw[h9];exact mH _ _
   rw[mZ]at l2;lia
  refine⟨us,hd5,(by exact dW (m:=64) (by lia) (by decide)),?_,λx u nx e'=>?_,us++[.ref tp],qI,?_⟩
  ·rw[qC Dw.symm];exact s35 _ _ fz3
  ·rw[qC (qG e' nDH)];exact s35 _ _ (k3 _ _ nx e')
  rw[tk,q9U,kI e];exact L2.Paired.snoc (Paired.mapP (vH pr s35) λx k z=>z.upd hd5 (λ_ q=>by cases q)) (TupD.upd ⟨tp,rfl,h5⟩ hd5 (λ_ q=>by cases q))
 rw[kE e];refine iteF ?_;refine⟨sW _ _ fz3,λx u nx e'=>sW _ _ (k3 _ _ nx e'),us,sW _ _ hd,?_⟩;rw[tk,q9U,kF e];exact vH pr sW
obtain⟨fz3,k3,us,hd,pr⟩:=hp
rw[q5S,gC]at pr
refine⟨o,_,fz3,?_⟩
have sH:Same H (upd H3 a.wv (.dK (dI m.V))):=qEE hb.w k3
have hd4:(upd H3 a.wv (.dK (dI m.V))) D=some (.lst us):=by rw[qC Dw];exact hd
have pr4:Paired (TupD (upd H3 a.wv (.dK (dI m.V)))) us (lpK m.P b m.V):=Paired.mapP pr λx k z=>z.upd fz3 (λ_ q=>by cases q)
generalize upd H3 a.wv (.dK (dI m.V))=H4 at sH hd4 pr4 ⊢
have hl:(lpK m.P b m.V).length<64:=by unfold lpK;rw[h9];exact dW (mH _ _) lV
have ul:=pr4.len
refine⟨D,us,lpK m.P b m.V,2,rfl,SqL.of hd4,qBK pr4,λk hk=>?_,by decide,by lia,λqs pp pw l H5 n5 s5 h5=>?_⟩
·unfold lpK at hk;obtain⟨x,_,rfl⟩:=mE.mp hk;rfl
refine q l _ _ H5 (sH.trans s5) (sH.free n5) h5 (qAI (vH pr4 s5) λi hi=>mQ.mp (pp.mem_iff.mp hi)) (qAH ul.symm pp) pw)
theorem qBY(xs:List V)(i:Nat):∀n p,(clr xs i n).getD p .non=if i≤p∧p<i+n then .non else xs.getD p .non
|0,p=>by rw[kF (by lia)];rfl
|n+1,p=>by
 show((clr xs i n).set (i+n) .non).getD p .non=_;rw[jD,qBY xs i n p];by_cases e:i+n=p
 ·subst e;rw[kI (show i≤i+n∧i+n<i+(n+1) by lia),kF (show ¬(i≤i+n∧i+n<i+n) by lia)];by_cases z:i+n<(clr xs i n).length
  ·rw[kI ⟨rfl,z⟩]
  rw[kF (λy=>z y.2)];rw[q4H]at z;rw[kJ,rR (by lia)];rfl
 rw[kF (λy=>e y.1)];by_cases z:i≤p∧p<i+n
 ·rw[kI z,kI (by lia)]
 rw[kF z,kF (by lia)]
structure PgAt(H:Hp)(bs:List V)(pg:Nat→Option (Int×Int)):Prop where
n:∀i,pg i=none→bs.getD i .non=.non
v:∀i v,pg i=some v→∃tp,bs.getD i .non=.ref tp∧H tp=some (.tup [.int v.1,.int v.2])
theorem PgAt.keep{F:List Addr}{H H':Hp}{bs:List V}{pg:Nat→Option (Int×Int)}(h:PgAt H bs pg)(k:Keep F H H'):PgAt H' bs pg:=⟨h.n,λi v e=>by
 obtain⟨tp,e1,e2⟩:=h.v i v e;exact⟨tp,e1,k.tp _ _ e2⟩⟩
structure Cm(m:CM)(s:XS):Prop where
ft:Fit m s.q
br:m.br=noB s.q.B
li:∀b,valV m.lim (Sum.inl b)=none
mo:m.mo=1000000
cl:m.cl=s.cl
lf:m.lf=s.lf
rc:m.rc=s.rc
theorem Cm.gd{m:CM}{s:XS}(h:Cm m s):Gd m:=⟨λb=>by rw[h.br];exact rep8,h.li⟩
structure XR(t:Adr)(H:Hp)(x:Sto)(k:Tm)(sh sr:Int)(s:XS):Prop where
e:∃m:CM,StAt t H x (.int sh) (.int sr) (.int (k.ie:Int)) (.int k.sp) m s.q∧Cm m s∧PgAt H m.bo s.pg
w:WX k s
theorem Cm.pgs{m:CM}{s:XS}(h:Cm m s){b f:Nat}(hb:b<s.q.B)(hf:f<s.q.P):((b*s.q.P+f:Nat):Int)≤m.bl*m.pg-1∧b*s.q.P+f<m.bo.length:=by(
have nbo:=h.ft.ok.nbo
rw[h.ft.eB,h.ft.eP,←dS]at *
have:b*s.q.P+f<s.q.B*s.q.P:=(lZ (by lia)).mp (by rw[yA hf];exact hb)
lia)
section
variable{H H':Hp}{x:Sto}{k:Tm}{sh sr:Int}{s:XS}
theorem XR.keep(j:XR t H x k sh sr s){F:List Addr}(kk:Keep F H H')(n:∀b∈[x.s,x.tm]++(x.a.li::sf x),b∉F)(tb:TbF t H'):XR t H' x k sh sr s:=by obtain⟨m,st,c,pg⟩:=j.e;exact⟨⟨m,st.keep kk n tb,c,pg.keep kk⟩,j.w⟩
theorem XR.kT(j:XR t H x k sh sr s)(kk:Keep [t.eT] H H')(tb:TbF t H'):XR t H' x k sh sr s:=by obtain⟨m,st,c,pg⟩:=j.e;exact⟨⟨m,st.kT kk tb,c,pg.keep kk⟩,j.w⟩
theorem XR.tb(j:XR t H x k sh sr s):TbF t H:=by obtain⟨m,st,c,pg⟩:=j.e;exact st.tb
theorem XR.same(j:XR t H x k sh sr s)(ss:Same H H'):XR t H' x k sh sr s:=by obtain⟨m,st,c,pg⟩:=j.e;exact⟨⟨m,st.same ss,c,pg.keep (F:=[]) (Keep.same ss)⟩,j.w⟩
theorem XR.o(j:XR t H x k sh sr s):H x.s=some (.ins t.C_Even x.sd [("chip",.ref x.c),("terms",.ref x.tm),("book",.ref x.k.bk),("rule",x.ru),("papers",x.pa)]):=by obtain⟨m,st,c,pg⟩:=j.e;exact st.o
theorem XR.inH(j:XR t H x k sh sr s):∀y∈t.eT::sf x,∃o,H y=some o:=λy hy=>by(
obtain⟨m,hs,_⟩:=j.e
rcases kM.mp hy with e|e
·obtain⟨pt,hT,_⟩:=hs.tb;exact⟨_,by rw[e];exact hT⟩
unfold sf at e
rcases gH.mp e with e|e
·obtain⟨o,ho,_⟩:=hs.ch.has (kC _ e);exact⟨o,ho⟩
have e:y=x.k.bk∨y=x.k.wv∨y=x.k.lv∨y=x.k.fi∨y=x.k.bo:=by simpa[bf]using e
rcases e with rfl|rfl|rfl|rfl|rfl
·exact⟨_,hs.bk.o⟩
·exact⟨_,hs.bk.w⟩
·exact⟨_,hs.bk.l⟩
·exact⟨_,hs.bk.f⟩
exact⟨_,hs.bk.b⟩)
theorem XR.off(j:XR t H x k sh sr s){p:Addr}(n:H p=none):p∉t.eT::sf x:=λz=>by obtain⟨o,e⟩:=j.inH p z;rw[n]at e;cases e
theorem TbF.updL{H:Hp}{p:Addr}{xs:List V}{o:HO}(h:TbF t H)(e:H p=some (.lst xs)):TbF t (upd H p o):=by exact h.gen λb o' to e'=>by rw[qC (yN to e' e vA)];exact e'
theorem XR.lst(j:XR t H x k sh sr s){p:Addr}{xs:List V}{o:HO}(e:H p=some (.lst xs))(np:p∉t.eT::sf x):XR t (upd H p o) x k sh sr s:=by(
obtain⟨m,st,_⟩:=j.e
have k:=Keep.upd (F:=[p]) (o:=o) e (λ_ z=>by cases z) (by simp)
refine j.keep k (λy hy z=>?_) (TbF.updL st.tb e)
rw[kD.mp z]at hy
rcases gH.mp hy with hy|hy
·have hy:p=x.s∨p=x.tm:=by simpa using hy
 rcases hy with h|h
 ·rw[h,st.o]at e;cases e
 rw[h,st.te]at e;cases e
rcases kM.mp hy with h|h
·rw[h,st.ch.li]at e;cases e
exact np (kC _ h))
theorem XR.set(j:XR t H x k sh sr s){n v:Int}(n0:0≤n)(n1:n≤64)(rc:s.rc.length<1000000)(hr:k.ie*s.q.P<s.rmX)(hl:(∃p,(n,p)∈s.q.V)∨s.q.V.length<59){Q:VK}{E:XK}
 (dk:s.lf=some 0→∀H',XR t H' x k sh sr s→Keep (t.eT::sf x) H H'→E (.ref t.C_PowerGone) none H')
 (kk:s.lf≠some 0→∀H',XR t H' x k sh sr (s.put n v)→Keep (t.eT::sf x) H H'→Q (.int (s.np:Int)) H'):qBW t [.ref x.s,.int n,.int v] H Q E:=by(
obtain⟨m,st,c,pg⟩:=j.e
obtain⟨hb,hf,ef,_,sp⟩:=j.w.spot (by lia)
obtain⟨hp1,hp2⟩:=c.pgs hb hf
refine⟨x,_,_,_,_,m,s.q,n,v,rfl,st,c.ft,c.gd,by rw[c.rc];exact rc,λl hfr=>⟨s.pb,s.pf,?_,ef,pg.n _ (j.w.cr _ _ hb (by lia) hf),λz H' k' st'=>dk (by rw[←c.lf];exact z) H' ⟨⟨m,st',c,pg.keep k'⟩,j.w⟩ k',λz tp H' htp k' st'=>?_⟩⟩
·rw[c.br]at hfr ⊢;rw[c.cl]at hfr;exact sp l hfr
have dk':s.lf≠some 0:=by rw[←c.lf];exact z
obtain⟨w',_⟩:=j.w.put (v:=v) hr n0 n1 hl dk'
have okd:(m.deed "put" ((s.pb*s.q.P+s.pf:Nat):Int) (((s.pb*s.q.P+s.pf:Nat):Int) / m.pg) false).Ok:=c.ft.ok.deed (by rw[c.rc];exact rc)
refine kk dk' H' ⟨⟨_,st',⟨⟨⟨okd.bl1,okd.bl2,okd.pg1,okd.pg2,?_,okd.ncl,okd.ndc,okd.nbr,okd.lim,okd.nrc⟩,w'.qs.ok,c.ft.eB,c.ft.eP⟩,c.br,c.li,c.mo,c.cl,?_,?_⟩,⟨λi e=>?_,λi w e=>?_⟩⟩,w'⟩ k'
·show((m.bo.set _ _).length:Int)=_;rw[gL];exact c.ft.ok.nbo
·show m.lf.map _=_;rw[c.lf];rfl
·show m.rc++[_]=_;rw[c.rc];rfl
·have e:(if i=s.np then some (s.q.nx*128+n,v)else s.pg i)=none:=e;show(m.bo.set (s.pb*s.q.P+s.pf) (.ref tp)).getD i .non=.non;by_cases z:i=s.np
 ·rw[kI z]at e;cases e
 rw[kF z]at e;rw[jD,kF (λy=>z y.1.symm)];exact pg.n i e
have e:(if i=s.np then some (s.q.nx*128+n,v)else s.pg i)=some w:=e
show ∃tq,(m.bo.set (s.pb*s.q.P+s.pf) (.ref tp)).getD i .non=.ref tq∧_
by_cases z:i=s.np
·rw[kI z]at e;cases e;exact⟨tp,by rw[jD,kI ⟨z.symm,hp2⟩],htp⟩
rw[kF z]at e
obtain⟨tq,e1,e2⟩:=pg.v i w e
exact⟨tq,by rw[jD,kF (λy=>z y.1.symm)];exact e1,k'.tp _ _ e2⟩)
end
noncomputable def spCo(t:Adr):Sp:=λvs H Q E=>∃x k sh sr s,∃b:Nat,vs=[.ref x.s,.int (b:Int)]∧XR t H x k sh sr s∧b<s.q.B∧s.q.fi.getD b 0=(s.q.P:Int)∧s.rc.length<1000000∧(∀y∈s.q.V,¬y.2 / (s.q.P:Int)=(b:Int))∧(s.lf=some 0→E (.ref t.C_PowerGone) none H)∧(s.lf≠some 0→∀H',XR t H' x k sh sr (s.wip b)→Keep (t.eT::sf x) H H'→Q .non H')
theorem q2V(T:Txt K mg t)(S:Fns K t):S.i6.OkE P w mg base 5 (spCo t):=by(
refine S.i6.F.okE q2Q (λvs H Q E h=>?_) (λcdv A outer s H vs Q E hr h=>?_)
·repeat obtain⟨_,h⟩:=h
 all_goals subst_vars;rfl
obtain⟨x,k,sh,sr,s,b,rfl,j,hb,ef,rc,nl,dk,kk⟩:=h
obtain⟨m,hs,c,pg⟩:=j.e
have eB:=c.ft.eB
have clb:=(j.w.c0 b).2
refine⟨_,(qB (qV (y7 jC (qJ (pv 0) rfl) T.eZ T.aCW (q86 T S).mono hr S.aBD.b .nil (qA (pv 1) qF))) (qD (qV (j0 (qJ (pv 0) rfl) T.e9 T.aBR (q4C T S).mono hr S.tJ.b .nil qK (qA (pv 1) qF))))),?_⟩
try dsimp-beta-proj-iota-zeta-eta only[wishK,cxK]
refine(iV rfl (iF hs.o T.eW T.fM rfl (iM hs.ch.ins rfl ⟨_,rfl,x.c,x.a,m,_,rfl,hs.ch,c.ft.ok,by rw[c.rc];exact rc,c.gd,by lia,by rw[c.mo,c.cl];lia,λz=>dk (by rw[←c.lf];exact z),λz H1 hc1 k1=>?_⟩)))
have dk':s.lf≠some 0:=by rw[←c.lf];exact z
have hs1:=hs.put hc1 k1 rfl rfl
refine(iV rfl (iF hs1.o T.eW T.fB rfl (iM hs1.bk.o rfl ⟨_,rfl,x.k,s.q,b,rfl,hs1.bk,j.w.qs.ok,hs1.ds,hb,λH2 hb2 k2=>?_⟩)))
have k2':Keep (bf x.k) H1 H2:=k2.mono (by intro y hy;simp[bf]at hy ⊢;rcases hy with rfl|rfl<;>simp)
have kA:Keep (t.eT::sf x) H H2:=(k1.mono (λy hy=>by unfold sf;exact kC _ (gK _ hy))).trans (k2'.mono (λy hy=>by unfold sf;exact kC _ (kQ _ hy)))
have hs2:=hs1.note hb2 k2'
obtain⟨w',_⟩:=j.w.wip hb ef nl dk'
have okd:(m.deed "wipe" (b:Int) (b:Int) false).Ok:=c.ft.ok.deed (by rw[c.rc];exact rc)
have gbo:∀p,(wipC m b).bo.getD p .non=if p / s.q.P=b then .non else m.bo.getD p .non:=λp=>by
 show(clr m.bo ((b:Int)*m.pg).toNat m.pg.toNat).getD p .non=_;have p1:=j.w.qs.ok.p1;rw[c.ft.eP,←dS,mI,mI,qBY];have:(b*s.q.P≤p∧p<b*s.q.P+s.q.P)↔p / s.q.P=b:=by rw[Nat.div_eq_iff (by lia)];generalize b*s.q.P=z;lia
 by_cases z:p / s.q.P=b
 ·rw[kI z,kI (this.mpr z)]
 rw[kF z,kF (λy=>z (this.mp y))]
refine kk dk' H2 ⟨⟨_,hs2,⟨⟨⟨okd.bl1,okd.bl2,okd.pg1,okd.pg2,?_,?_,okd.ndc,okd.nbr,okd.lim,okd.nrc⟩,w'.qs.ok,c.ft.eB,c.ft.eP⟩,c.br,c.li,c.mo,?_,?_,?_⟩,⟨λi e=>?_,λi w e=>?_⟩⟩,w'⟩ kA
·show((clr m.bo _ _).length:Int)=_;rw[q4H];exact c.ft.ok.nbo
·show((m.cl.set _ _).length:Int)=_;rw[gL];exact c.ft.ok.ncl
·show m.cl.set b (m.cl.getD b 0+1)=_;rw[c.cl];rfl
·show m.lf.map _=_;rw[c.lf];rfl
·show m.rc++[_]=_;rw[c.rc];rfl
·have e:(if i / s.q.P=b then none else s.pg i)=none:=e;rw[gbo];by_cases z:i / s.q.P=b
 ·rw[kI z]
 rw[kF z]at e ⊢;exact pg.n i e
have e:(if i / s.q.P=b then none else s.pg i)=some w:=e
rw[gbo]
by_cases z:i / s.q.P=b
·rw[kI z]at e;cases e
rw[kF z]at e ⊢
obtain⟨tq,e1,e2⟩:=pg.v i w e
exact⟨tq,e1,kA.tp _ _ e2⟩)
theorem q5X(T:Txt K mg t)(S:Fns K t):S.aAE.OkE P w mg base 6 (λvs H Q E=>spCo t vs H (λv H'=>v=.non∧Q (.bl true) H') E):=by(
refine S.aAE.F.okE q5L (λvs H Q E h=>?_) (λcdv A outer s H vs Q E hr h=>?_)
·repeat obtain⟨_,h⟩:=h
 all_goals subst_vars;rfl
obtain⟨x,k,sh,sr,s,b,rfl,j,hb,ef,rc,nl,dk,kk⟩:=h
refine⟨_,(qB (qV (y7 jC (pv 0) T.eW T.aA6 (q2V T S).mono hr S.i6.b .nil (qA (pv 1) qF))) (qD (qM q0K))),?_⟩
try dsimp-beta-proj-iota-zeta-eta only[wishK,cxK]
exact(iV rfl (iM j.o rfl ⟨_,rfl,x,k,sh,sr,s,b,rfl,j,hb,ef,rc,nl,dk,λz H' j' k'=>(kk z H' j' k').2⟩)))
theorem qJK{s:XS}{ns:List Int}(h:HeldIs s.q ns):ns=s.hl:=by(
refine qBJ (h.pm.trans (xO _ _).symm) h.so ?_
have:=nY (le:=λa b:Int=>decide (a≤b)) (λa b c h1 h2=>hV (sD (mV h1) (mV h2))) (λa b=>by
 by_cases z:a≤b
 ·rw[hV z];rfl
 rw[kE z,hV (show b≤a by lia)];rfl) (hdN s.q.V)
exact this.imp λz=>mV z)
theorem hd64{k:Tm}{s:XS}(w:WX k s):(hdN s.q.V).length<64:=by(
unfold hdN
refine dW (mH _ _) ?_
have:=w.l6
rw[h9]
lia)
theorem qKZ{k:Tm}{s:XS}(w:WX k s):∀y∈s.hl,0≤y∧y<64:=λy hy=>by(
have hy:=sR.mp hy
obtain⟨a1,a2⟩:=mP.mp hy
obtain⟨y',hy',rfl⟩:=mE.mp a1
have:=w.qs.ok.nm y' hy'
have:=mV a2
lia)
theorem qL0{ns:List Int}(h:∀y∈ns,0≤y∧y<64):ns.map V.int=vN (ns.map Int.toNat)∧∀u∈ns.map Int.toNat,u<64:=by(
refine⟨?_,λu hu=>?_⟩
·unfold vN;rw[sG];refine wE λy hy=>?_;have:=h y hy;show V.int y=V.int ((y.toNat:Nat):Int);rw[show((y.toNat:Nat):Int)=y by lia]
obtain⟨y,hy,rfl⟩:=mE.mp hu
have:=h y hy
lia)
noncomputable def spVm(t:Adr):Sp:=λvs H Q E=>∃x k sh sr s,∃n p:Int,vs=[.ref x.s,.int p,.int n]∧XR t H x k sh sr s∧(n,p)∈s.q.V∧(s.lf=some 0→E (.ref t.C_PowerGone) none H)∧∀H',Same H H'→Q (.int (s.val p n)) H'
theorem q0J(T:Txt K mg t)(S:Fns K t):S.f6.OkE P w mg base 6 (spVm t):=by(
refine S.f6.F.okE q0I (λvs H Q E h=>?_) (λcdv A outer s H vs Q E hr h=>?_)
·repeat obtain⟨_,h⟩:=h
 all_goals subst_vars;rfl
obtain⟨x,k,sh,sr,s,n,p,rfl,j,hm,dk,kk⟩:=h
obtain⟨m,hs,c,pg⟩:=j.e
refine⟨_,(qB (jE (qU q0L (pv 2) (q1U rfl T.aDO ⟨_,rfl⟩ (v:=.int 64)) (qY _)) (qD (qM (qS (qAU T S).mono hr rfl T.aDM T.aDG S.aDC.b .nil qK (qA (qT (pv 0) T.eW T.aBI (q2G T S).mono hr S.tM.b .nil qK) qF)))) qQ) (qD (qM (qZ jX (y7 jC (qJ (pv 0) rfl) T.eZ T.aCZ (q85 T S).mono hr S.aBB.b .nil (qA (pv 1) qF)) qH (λ_ _=>rfl))))),?_⟩
try dsimp-beta-proj-iota-zeta-eta only[wishK,cxK]
refine⟨_,rfl,rfl,_,rfl,?_⟩
rw[q0X]
by_cases z:n=64
·rw[hV z];refine iteT ?_;refine(iV rfl (iM hs.o rfl ⟨x,_,_,_,_,m,s.q,rfl,hs,c.ft,hd64 j.w,λl ns H1 hn s1 n1 h1=>?_⟩));obtain rfl:=qJK hn;obtain⟨en,lt⟩:=qL0 (qKZ j.w);rw[en]at h1;refine⟨l,_,rfl,SqL.of h1,lt,?_⟩;have:=kk H1 s1;unfold XS.val at this;rw[kI z]at this;exact this
rw[kE z]
refine iteF ?_
obtain⟨b,f,v,a1,a2,a3,a4,a5⟩:=j.w.vl _ hm
have a3:p=_:=a3
obtain⟨tp,e1,e2⟩:=pg.v _ _ a5
have hp:=(c.pgs a1 a2).1
refine(iV rfl (iF hs.o T.eW T.fM rfl (iM hs.ch.ins rfl ⟨_,rfl,x.c,x.a,m,_,rfl,hs.ch,c.ft.ok,by rw[a3];lia,by rw[a3];exact hp,λy=>dk (by rw[←c.lf];exact y),λ_=>?_⟩)))
have:=kk H (Same.refl H)
unfold XS.val at this
rw[kF z]at this
rw[a3,mI,e1]
rw[a3,mI,a5]at this
exact(iT (k:=1) (v:=_) (SqT.of e2) rfl this))
noncomputable def spGa(f:Tl→Int):Sp:=λvs H Q _=>∃x a b p n A B,vs=[x,a,b,p,n]∧TlAt H a A∧TlAt H b B∧Q (.bl (decide (f A<f B))) H
theorem q1Q(T:Txt K mg t)(S:Fns K t):S.iK.Ok0 P w mg base 1 (spGa Tl.lv):=by(
refine S.iK.F.ok0 q1M λcdv A _ s H vs Q E hr h=>?_
obtain⟨x,a,b,p,n,A,B,rfl,⟨ad,rfl,ha⟩,⟨bd,rfl,hb⟩,q⟩:=h
refine⟨_,(qD (qM (q03 q4U (qZ jX (pv 1) qH (λ_ _=>rfl)) (qZ jX (pv 2) qH (λ_ _=>rfl)) (qY _)))),?_⟩
try dsimp-beta-proj-iota-zeta-eta only[wishK,cxK]
exact⟨_,rfl,iT (k:=1) (v:=_) (SqT.of ha) rfl ⟨_,rfl,iT (k:=1) (v:=_) (SqT.of hb) rfl (iI q)⟩⟩)
noncomputable def RuAt(t:Adr)(H:Hp)(r:Addr)(pg nw:Int)(f:Tl→Int):Prop:=(∃dx,H r=some (.ins t.C_Fewest dx [])∧f=Tl.lv)
noncomputable def spUn(t:Adr)(K:W.Frag):Sp:=λvs H Q _=>∃r v l pg nw T us ts f,vs=[.ref r,v,.ref l,.int pg,.int nw]∧RuAt t H r pg nw f∧TlAt H v T∧SqL K H l us∧Tls H us ts∧T.Ok pg nw∧(∀o∈ts,o.Ok pg nw)∧pg≤16∧Q (.bl (unb f ts T)) H
theorem q5Y(T:Txt K mg t)(S:Fns K t):S.aAD.Ok0 P w mg base 2 (spUn t K):=by(
refine S.aAD.F.ok0 q1L λcdv A _ s H vs Q E hr h=>?_
obtain⟨r,v,l,pg,nw,A,us,ts,f,rfl,hR,hv,hl,hts,oa,os,hpg,q⟩:=h
obtain⟨va,rfl,hva⟩:=id hv
have hlen:=hts.len
refine⟨_,(qB (vD dD rfl (jN (pv 2)) (qW (i:=5) q1L.nd rfl (Or.inl rfl)) (qD (jE (PW.pt (qCV (qU (qFX hr.units) (pv 5) (pv 1) (qY _)) (qAX (jR (qDS (j0 (pv 0) T.aCE T.tX (q1Q T S).mono hr S.iK.b .nil qK (qA (pv 5) (qA (pv 1) (qA (pv 3) (qA (pv 4) qF)))))))))) (qD (qM q0K)) qQ))) (qD (qM q0K))),?_⟩
try dsimp-beta-proj-iota-zeta-eta only[wishK,cxK]
refine⟨_,rfl,l,rfl,⟨us,hl⟩,?_⟩
refine zP (K:=K) (xs:=us) (λi σ' H2=>∃y,σ'=[some (.ref r),some (.ref va),some (.ref l),some (.int pg),some (.int nw),y]∧H2=H∧∀j,∀hj:j<ts.length,j<i→¬f ts[j] <f A) ⟨_,rfl,rfl,λj _ z=>absurd z (bD _)⟩ (λi σ' H2 hi hp=>?_) (λi x σ' H2 hx hp=>?_) (λσ' H2 hp=>?_)
·obtain⟨y,rfl,rfl,_⟩:=hp;exact hl
·obtain⟨y,rfl,rfl,hm⟩:=hp;obtain⟨O,hO,ho⟩:=Paired.at hts hx;obtain⟨xa,rfl,hxa⟩:=id ho;have hi:i<ts.length:=(kB.mp hO).1;obtain rfl:ts[i]=O:=(kB.mp hO).2;have ok:(ts[i]).Ok pg nw:=os _ (m7 hi);refine⟨_,rfl,_,rfl,xa,va,(ts[i]).ns,A.ns,rfl,rfl,SqT.of hxa,SqT.of hva,rfl,_,rfl,?_⟩;by_cases e:(ts[i]).ns=A.ns
 ·rw[hV e];refine iteF (iteF ⟨_,rfl,rfl,λj hj z=>?_⟩);by_cases ej:j=i
  ·subst ej;rw[Tl.eq_of e];exact Int.lt_irrefl _
  exact hm j hj (by lia)
 rw[kE e];refine iteT ?_;refine⟨λv' H'=>v'=.bl (decide (f ts[i] <f A))∧H'=H2,?_,?_⟩
 ·obtain⟨dx,hins,rfl⟩:=hR;exact⟨_,rfl,r,dx,_,rfl,hins,rfl,_,rfl,_,rfl,_,rfl,_,rfl,_,_,_,_,_,ts[i],A,rfl,ho,hv,rfl,rfl⟩
 rintro v' H' ⟨rfl,rfl⟩
 refine⟨_,rfl,?_⟩;by_cases g:f ts[i] <f A
 ·rw[hV g];refine iteT ?_;have z:unb f ts A=false:=by
   cases z:unb f ts A with
   |false=>rfl
   |true=>exact absurd (q4K.mp z _ (m7 hi)) (by lia)
  rw[z]at q;exact q
 rw[kE g];refine iteF ⟨_,rfl,rfl,λj hj z=>?_⟩;by_cases ej:j=i
 ·subst ej;exact g
 exact hm j hj (by lia)
obtain⟨y,rfl,rfl,hm⟩:=hp
have z:unb f ts A=true:=q4K.mpr λo ho=>by obtain⟨j,hj,rfl⟩:=wD ho;have:=hm j hj (by lia);lia
rw[z]at q
exact q)
noncomputable def spFu(t:Adr)(K:W.Frag):Sp:=λvs H Q _=>∃r l pg nw us ts f,vs=[.ref r,.ref l,.int pg,.int nw]∧RuAt t H r pg nw f∧SqL K H l us∧Tls H us ts∧(∀o∈ts,o.Ok pg nw)∧pg≤16∧ts≠[]∧Q (.int (pk f ts)) H
theorem q3E(T:Txt K mg t)(S:Fns K t):S.oG.Ok0 P w mg base 3 (spFu t K):=by(
refine S.oG.F.ok0 uM λcdv A _ s H vs Q E hr h=>?_
obtain⟨r,l,pg,nw,us,ts,f,rfl,hR,hl,hts,os,hpg,hne,q⟩:=h
have hlen:=hts.len
obtain⟨i,hi,hu,hn⟩:=q56 f ts hne
have at':∀j,∀hj:j<ts.length,∃x,us[j]?=some x∧TlAt H x ts[j]:=λj hj=>by have e:us[j]?=some (us[j]'(by lia)):=hX (by lia);obtain⟨O,hO,ho⟩:=Paired.at hts e;obtain rfl:ts[j]=O:=(kB.mp hO).2;exact⟨_,e,ho⟩
refine⟨_,(qB (qX (i:=4) uM.nd rfl (Or.inl rfl) qH) (qB (q8J dD (yE (jR (qS (q5Y T S).mono hr rfl T.aBU T.aBQ S.aAD.b .nil qK (qA (pv 0) (qA (qZ jK (pv 1) (pv 4) (λ_ _=>rfl)) (qA (pv 1) (qA (pv 2) (qA (pv 3) qF)))))))) (qD (qHS (i:=4) uM.nd rfl (Or.inl rfl) qH q4S))) (qD (qM (qZ jX (qZ jK (pv 1) (pv 4) (λ_ _=>rfl)) qH (λ_ _=>rfl)))))),?_⟩
try dsimp-beta-proj-iota-zeta-eta only[wishK,cxK]
refine⟨λm σ' H2=>H2=H∧∃p:Nat,σ'=[some (.ref r),some (.ref l),some (.int pg),some (.int nw),some (.int p)]∧p≤i∧m=i-p,⟨i,rfl,0,rfl,mM _,rfl⟩,?_⟩
rintro m σ' H2 ⟨rfl,p,rfl,hpi,rfl⟩
obtain⟨x,hx,tx⟩:=at' p (by lia)
refine⟨_,rfl,_,rfl,_,rfl,l,us,p,x,rfl,rfl,hl,uR hx,_,rfl,_,rfl,_,rfl,r,x,l,pg,nw,ts[p],us,ts,f,rfl,hR,tx,hl,hts,os _ (m7 _),os,hpg,?_⟩
by_cases e:p=i
·subst e;rw[hu];refine⟨_,rfl,iteF ?_⟩;obtain⟨xa,rfl,hxa⟩:=tx;refine⟨_,rfl,_,rfl,l,us,p,_,rfl,rfl,hl,uR hx,iT (k:=0) (v:=_) (SqT.of hxa) rfl ?_⟩;rw[qHC hi hu hn]at q;exact q
rw[hn p (by lia)]
refine⟨_,rfl,iteT ⟨_,λ_ _ z=>z,?_⟩⟩
exact⟨_,rfl,iI ⟨i-(p+1),by lia,rfl,p+1,rfl,by lia,rfl⟩⟩)
theorem q5Z(T:Txt K mg t)(S:Fns K t):S.t9.Ok0 P w mg base 4 (spFu t K):=by(
refine S.t9.F.ok0 q5O λcdv A _ s H vs Q E hr h=>?_
obtain⟨r,l,pg,nw,us,ts,f,rfl,z⟩:=h
refine⟨_,(qD (qM (qS (q3E T S).mono hr rfl T.aAR T.aAP S.oG.b .nil qK (qA (pv 0) (qA (pv 1) (qA (pv 2) (qA (pv 3) qF))))))),?_⟩
try dsimp-beta-proj-iota-zeta-eta only[wishK,cxK]
exact⟨_,rfl,_,rfl,_,rfl,_,rfl,r,l,pg,nw,us,ts,f,rfl,z⟩)
theorem q8D{H:Hp}{m:CM}{q:QM}:∀{rs:List V} {L:List Nat},Tys H m q rs L→Tls H rs (L.map (tlOf m q))
|_,_,.nil=>.nil
|_,_,.cons ⟨p,e,h⟩ r=>.cons ⟨p,e,h⟩ (q8D r)
noncomputable def RuX(t:Adr)(H:Hp)(r:Addr)(rl:List Addr):Rl→Prop
| .rk f=>(∃dx,H r=some (.ins t.C_Fewest dx [])∧f=λ_ _=>Tl.lv)
|_=>False
theorem RuX.ok{H:Hp}{r:Addr}{rl:List Addr}{g:Rl}(h:RuX t H r rl g):g.Ok:=by(
cases g with
|rk f=>trivial
|win m=>exact h.elim
|fol row u=>exact h.elim)
theorem RuX.map{H H':Hp}{r:Addr}{rl:List Addr}{g:Rl}(h:RuX t H r rl g)(h1:∀y∈r::rl,∀o,H y=some o→H' y=some o):RuX t H' r rl g:=by(
have h2:=h1
have h1:=h1 r kX
cases g with
|rk f=>obtain⟨dx,a,b⟩:=h;exact⟨dx,h1 _ a,b⟩
|win m=>exact h.elim
|fol row u=>exact h.elim)
theorem RuX.keep{H H':Hp}{r:Addr}{rl:List Addr}{F:List Addr}{g:Rl}(h:RuX t H r rl g)(k:Keep F H H')(n:∀y∈r::rl,y∉F):RuX t H' r rl g:=h.map λy hy o e=>k.k _ _ (n y hy) e
theorem RuX.ins{H:Hp}{r:Addr}{rl:List Addr}{g:Rl}(h:RuX t H r rl g):∃C d fs,H r=some (.ins C d fs):=by(
cases g with
|rk f=>obtain⟨dx,a,b⟩:=h;exact⟨_,_,_,a⟩
|win m=>exact h.elim
|fol row u=>exact h.elim)
noncomputable def spCr(t:Adr)(K:W.Frag):Sp:=λvs H Q _=>∃x r2 r3 r4 r5 m q r rl g op rs ts,vs=[.ref x.s,.ref op]∧StAt t H x r2 r3 r4 r5 m q∧Fit m q∧x.ru=.ref r∧RuX t H r rl g∧H op=some (.lst rs)∧Tls H rs ts∧ts≠[]∧ts.length≤16∧(∀o∈ts,o.Ok (q.P:Int) q.nx)∧(∀a∈ts,∀c∈ts,a.b=c.b→a=c)∧∀p H',Keep [r] H H'→RuX t H' r rl (g.ch (q.P:Int) q.nx ts).2→H' p=some (.tup [.str "rule",.int (g.ch (q.P:Int) q.nx ts).1])→Q (.ref p) H'
theorem q00(T:Txt K mg t)(S:Fns K t):S.fW.Ok0 P w mg base 5 (spCr t K):=by(
refine S.fW.F.ok0 zW λcdv A _ s H vs Q E hr h=>?_
obtain⟨x,r2,r3,r4,r5,m,q,r,rl,g,op,rs,ts,rfl,hs,ft,er,hR,hop,tl,ne,l16,ok,unl,k⟩:=h
have eP:=ft.eP
have p1:=ft.oq.p1
have p2:=ft.oq.p2
have te:=hs.te
rw[eP]at te
refine⟨_,(qD (qM (yX (qA q0Q (qA (j0 (qJ (pv 0) rfl) T.aCE T.aBH (q5Z T S).mono hr S.t9.b .nil qK (qA (pv 1) (qA (qJ (qJ (pv 0) rfl) rfl) (qA (qJ (qJ (pv 0) rfl) rfl) qF)))) qF))))),?_⟩
try dsimp-beta-proj-iota-zeta-eta only[wishK,cxK]
cases g with
|rk f=>
 have sz2:2≤sizeLine:=by decide
 obtain⟨dx,hins,rfl⟩:=id hR;exact(iV rfl (iF hs.o T.eW T.aAY rfl ⟨r,dx,_,er,hins,rfl,_,rfl,iV rfl (iF hs.o T.eW T.fA rfl (iF te T.fE T.fD rfl (iV rfl (iF hs.o T.eW T.fB rfl (iF hs.bk.o T.e9 T.iC rfl ⟨r,op,_,_,rs,ts,_,(by rw[er];rfl),⟨dx,hins,rfl⟩,SqL.of hop,tl,ok,by lia,ne,sz2,λp H2 n2 s2 e2=>k p H2 (Keep.same s2) (hR.keep (Keep.same s2) (F:=[]) (by simp)) e2⟩)))))⟩))
|win m=>exact hR.elim
|fol row u=>exact hR.elim)
section
variable{H H':Hp}{x:Sto}{k:Tm}{sh sr:Int}{s:XS}{r:Addr}{rl:List Addr}{g:Rl}
theorem TbF.keepR(h:TbF t H){C d:Addr}{fs:List (Str×V)}(e:H r=some (.ins C d fs))(k:Keep [r] H H'):TbF t H':=by refine h.gen λb o to e'=>k.k _ _ (λz=>yN to e' e q24 (kD.mp z)) e'
noncomputable def Off(t:Adr)(x:Sto)(R:List Addr):Prop:=∀y∈[x.s,x.tm]++(x.a.li::t.eT::t.eU::sf x),y∉R
theorem Off.n{R:List Addr}(o:Off t x R){y:Addr}(hy:y∈R):y∉t.eT::sf x:=λz=>o y (by simp at z ⊢;rcases z with z|z<;>simp[z]) hy
theorem XR.kR(j:XR t H x k sh sr s)(o:Off t x (r::rl))(kk:Keep [r] H H')(hR:RuX t H r rl g):XR t H' x k sh sr s:=by(
obtain⟨C,d,fs,e⟩:=hR.ins
refine j.keep kk (λy hy z=>o y ?_ (by rw[kD.mp z];exact kX)) (j.tb.keepR e kk)
have hy:y=x.s∨y=x.tm∨y=x.a.li∨y∈sf x:=by simpa using hy
rcases hy with h|h|h|h<;>simp[h])
theorem q1R{H H':Hp}{F:List Addr}(k:Keep F H H'):∀{rs:List V} {ts:List Tl},Tls H rs ts→Tls H' rs ts
|_,_,.nil=>.nil
|_,_,.cons ⟨p,e,h⟩ r=>.cons ⟨p,e,k.tp _ _ h⟩ (q1R k r)
end
noncomputable def spLs(t:Adr):Sp:=λvs H Q _=>∃x k sh sr s,vs=[.ref x.s]∧XR t H x k sh sr s∧∀H',Same H H'→Q (.int s.lst) H'
theorem qJL{s:XS}{M:Int}(lc:s.cl.length=s.q.B)(b1:1≤s.q.B)(hM:M∈(List.range s.q.B).map λb=>s.cl.getD b 0)(le:∀a∈(List.range s.q.B).map λb=>s.cl.getD b 0,M≤a):M=s.lst:=by(
have ecl:((List.range s.q.B).map λb=>s.cl.getD b 0)=s.cl:=by rw[←lc];refine wI (by simp) λi h1 h2=>?_;simp[hX h2]
rw[ecl]at hM le
obtain⟨m,e,h1,h2⟩:=q7R (l:=s.cl) (λz=>by rw[z]at hM;cases hM)
unfold XS.lst
rw[e]
have:=h2 M hM
have:=le m h1
show M=m
lia)
theorem q6G(T:Txt K mg t)(S:Fns K t):S.aAU.Ok0 P w mg base 6 (spLs t):=by(
refine S.aAU.F.ok0 q6A λcdv A _ s H vs Q E hr h=>?_
obtain⟨x,k,sh,sr,s,rfl,j,kk⟩:=h
obtain⟨m,hs,c,_⟩:=j.e
have b1:=c.ft.ok.bl1
have b2:=j.w.qs.ok.b2
have eB:=c.ft.eB
refine⟨_,(qD (qM (qGT rfl (by rfl) T.aD0 qH (qA (yY ["self","block"] [0] rfl (jN (qT (pv 0) T.eW T.oS (uU T S).mono hr S.i3.b .nil qK)) (λ_ _ _ _ _=>(qW (i:=1) (show List.Nodup (["self","block"]:List Str)from by decide) rfl (Or.inl rfl))) (λ_ _ _ _ _=>q2Z) (λ_ _ _ _ _=>(j0 (yO (K:=K) rfl (pv 0) rfl) T.eZ T.oF (v4 T S).mono hr S.iS.b .nil qK (qA (pv 1) qF))) (by kernel_rfl) (y8 (by decide))) qF)))),?_⟩
try dsimp-beta-proj-iota-zeta-eta only[wishK,cxK]
refine(iV rfl (iM hs.o rfl ⟨x,_,_,_,_,m,s.q,rfl,hs,c.ft,λp H1 n1 s1 h1=>?_⟩))
rw[c.br,yB]at h1
refine⟨p,rfl,⟨_,SqL.of h1⟩,λD H2 nD s2 hD=>?_⟩
refine q30 (K:=K) (xs:=(List.range s.q.B).map vn) (D:=D) (λi H3=>Same H1 H3∧H3 D=some (.lst ((((List.range s.q.B).take i).map λb=>s.cl.getD b 0).map V.int))) ⟨s2,hD⟩ (λi H3 hp=>SqL.of (hp.1 _ _ h1)) (λi y H3 hy hp=>?_) (λH3 hp=>?_)
·obtain⟨sm,hd⟩:=hp;have h3:=hs.same (s1.trans sm);rw[mG]at hy;obtain⟨b,hb,rfl⟩:=mO.mp hy;obtain⟨hi,eb⟩:=kB.mp hb;have bB:b<s.q.B:=mQ.mp (gE hb);refine(iV rfl (iF h3.o T.eW T.fM rfl (iM h3.ch.ins rfl ⟨_,rfl,x.c,x.a,m,_,rfl,h3.ch,c.ft.ok,by lia,by lia,?_⟩)));rw[mI,c.cl];refine⟨_,hd,?_,λb o e=>?_,?_⟩
 ·rw[h9,h9,mZ,gD];have:(16:Nat)<sizeLine:=by decide
  lia
 ·rw[qC (qG e nD)];exact sm _ _ e
 rw[qI,←mL hi,mW,mW,eb];rfl
obtain⟨sm,hd⟩:=hp
rw[h9,gC]at hd
refine⟨D,_,rfl,SqL.of hd,λe=>?_,λM hM le=>?_⟩
·have e:(List.range s.q.B).map (λb=>s.cl.getD b 0)=[]:=by simpa using e
 have:=rK List.length e;rw[h9,gD]at this;simp at this;lia
rw[qJL j.w.lc (by lia) hM le]
exact kk H3 (s1.trans sm))
noncomputable def spCb(t:Adr):Sp:=λvs H Q _=>∃x k sh sr s p rs,∃L:List Nat,vs=[.ref x.s,.ref p]∧XR t H x k sh sr s∧H p=some (.lst rs)∧Tls H rs (L.map s.tl)∧L.length≤16∧∀p' rs' H',H p'=none→Same H H'→H' p'=some (.lst rs')→Tls H' rs' ((s.clb k L).map s.tl)→Q (.ref p') H'
theorem vY(T:Txt K mg t)(S:Fns K t):S.iO.Ok0 P w mg base 7 (spCb t):=by(
refine S.iO.F.ok0 vX λcdv A _ s H vs Q E hr h=>?_
obtain⟨x,k,sh,sr,s,p,rs,L,rfl,j,hp0,ty,l16,kk⟩:=h
have sz:(16:Nat)<sizeLine:=by decide
refine⟨_,(qB (qX (i:=2) vX.nd rfl (Or.inr rfl) (qR uN (qT (pv 0) T.eW T.aCF (q6G T S).mono hr S.aAU.b .nil qK) (qJ (qJ (pv 0) rfl) rfl))) (qD (qM (yY ["bound","tally"] [2] rfl (jN (pv 1)) (λ_ _ _ _ _=>(qW (i:=1) (show List.Nodup (["bound","tally"]:List Str)from by decide) rfl (Or.inl rfl))) (λ_ _ _ _ _=>(uS (qU q4U (qZ (vV (K:=K) rfl) (pv 1) qH (λ_ _=>rfl)) (pv 0) (qY _)))) (λ_ _ _ _ _=>(pv 1)) (by kernel_rfl) (y8 (by decide)))))),?_⟩
try dsimp-beta-proj-iota-zeta-eta only[wishK,cxK]
refine(iV rfl (iM j.o rfl ⟨x,k,sh,sr,s,rfl,j,λH1 s1=>?_⟩))
obtain⟨m,h1,c,_⟩:=(j.same s1).e
refine(iV rfl (iF h1.o T.eW T.fA rfl (iF h1.te T.fE T.tI rfl (iI ?_))))
refine⟨_,rfl,p,rfl,⟨_,SqL.of (s1 _ _ hp0)⟩,λD H2 nD s2 hD=>?_⟩
have ty1:=ty.same s1
unfold XS.clb at kk
refine vG (K:=K) (xs:=rs) (D:=D) (λi H3=>∃rs',Same H1 H3∧H3 D=some (.lst rs')∧rs'.length≤i∧Tls H1 rs' (((L.take i).filter λb=>decide (s.cl.getD b 0<s.lst+k.sp)).map s.tl)) ⟨_,s2,hD,kN _,.nil⟩ (λi H3 hp=>by obtain⟨_,sm,_⟩:=hp;exact SqL.of (sm _ _ (s1 _ _ hp0))) (λi y H3 hy hp=>?_) (λH3 hp=>?_)
·obtain⟨rs',sm,hd,ln,ty'⟩:=hp;obtain⟨o,ho,tp,rfl,htp⟩:=Paired.at ty1 hy;rw[mG]at ho;obtain⟨b,hb,rfl⟩:=mO.mp ho;have hi:=(kB.mp hb).1;obtain rfl:L[i]=b:=(kB.mp hb).2;refine⟨_,rfl,iT (k:=_) (v:=_) (SqT.of (sm _ _ htp)) rfl ⟨_,rfl,iI ⟨_,rfl,?_⟩⟩⟩;rw[q9T hi];have e2:(s.tl L[i]).cl=s.cl.getD L[i] 0:=rfl;by_cases z:s.cl.getD L[i] 0<s.lst+k.sp
 ·rw[hV (show(s.tl L[i]).cl<s.lst+k.sp from z),hV z,kI rfl,mW];refine iteT ?_;refine⟨_,rfl,_,hd,by lia,_,λb o e=>?_,qI,?_,L2.Paired.snoc ty' ⟨tp,rfl,htp⟩⟩
  ·rw[qC (qG e nD)];exact sm _ _ e
  rw[kZ];exact cO ln 1
 rw[kE (show ¬(s.tl L[i]).cl<s.lst+k.sp from z),kE z,kF (by decide),dQ];exact iteF ⟨_,sm,hd,by lia,ty'⟩
obtain⟨rs',sm,hd,ln,ty'⟩:=hp
have lr:=ty.len
rw[h9]at lr
rw[lr,gC]at ty'
exact kk D rs' H3 (s1.free nD) (s1.trans sm) hd (ty'.same sm))
noncomputable def qHH(t:Adr):Sp:=λvs H Q _=>∃x k sh sr s,vs=[.ref x.s]∧XR t H x k sh sr s∧k.ev=true∧∀p rs H',H p=none→XR t H' x k sh sr s→Keep [t.eT] H H'→H' p=some (.lst rs)→Tls H' rs (s.ots k)→Q (.ref p) H'
theorem XR.opts{H:Hp}{x:Sto}{k:Tm}{sh sr:Int}{s:XS}(j:XR t H x k sh sr s)(ev:k.ev=true){Q:VK}{E:XK}(kk:∀p rs H',H p=none→XR t H' x k sh sr s→Keep [t.eT] H H'→H' p=some (.lst rs)→Tls H' rs (s.ots k)→Q (.ref p) H'):qHH t [.ref x.s] H Q E:=⟨x,k,sh,sr,s,rfl,j,ev,kk⟩
theorem qF7{k:Tm}{s:XS}(h:WX k s):(s.ded k).length≤16∧(s.ful k).length≤16:=by
 have b2:=h.qs.ok.b2;have:(s.ful k).length≤16:=by unfold XS.ful;refine mF (mH _ _) ?_;rw[gD];exact b2
 exact⟨mF (mH _ _) this,this⟩
theorem qGZ{H H':Hp}{p:Addr}(k1:Keep [t.eT] H H')(tb:TbF t H')(np:H' p=none):H p=none:=by(
refine k1.none (λz=>?_) np
obtain⟨ps',hT',_⟩:=tb
rw[kD.mp z,hT']at np
cases np)
theorem q0P(T:Txt K mg t)(S:Fns K t)(B:BmIn base mg):S.oC.Ok0 P w mg base 12 (qHH t):=by(
refine S.oC.F.ok0 q44 λcdv A _ s H vs Q E hr h=>?_
obtain⟨x,k,sh,sr,s,rfl,j,ev,kk⟩:=h
refine⟨_,(qD (qM (j0 (pv 0) T.eW T.oU (vY T S).mono hr S.iO.b .nil qK (qA (qT (pv 0) T.eW T.o9 (zZ T S B).mono hr S.fX.b .nil qK) qF)))),?_⟩
try dsimp-beta-proj-iota-zeta-eta only[wishK,cxK]
obtain⟨m,hs,c,_⟩:=j.e
refine(iV rfl (iM hs.o rfl (iV rfl (iM hs.o rfl ⟨x,_,_,_,m,s.q,_,rfl,hs,c.ft,λl p rs H1 hl np k1 tb1 h1 ty=>?_⟩))))
have j1:=j.kT k1 tb1
have ty:=q8D ty
rw[c.br,c.cl]at hl
rw[qEU j.w c.br hl,qHG c.cl]at ty
refine⟨x,k,sh,sr,s,p,rs,s.ded k,rfl,j1,h1,ty,(qF7 j.w).1,λp' rs' H2 np' s2 h2 ty2=>?_⟩
refine kk p' rs' H2 (qGZ k1 tb1 np') (j1.same s2) (k1.trans (Keep.same s2)) h2 ?_
unfold XS.ots XS.opt
rw[ev]
exact ty2)
theorem qL1:FnScope ["tally"] ["tally"] lbSc:=⟨rfl,rfl,rfl,by decide+kernel,rfl,by decide+kernel,by decide+kernel⟩
noncomputable def spLb(g c:Addr)(pm ct:Value):Sp:=λvs H Q _=>∃v T,vs=[v]∧TlAt H v T∧H g=some (fnO g (lbFd pm ct c))∧H c=some (cdO c lbQ)∧NewO H (.tup [.int (Tl.cl T),.int (Tl.b T)]) Q
theorem qL2{g c:Addr}{pm ct:Value}{bs:Heap}:FnOk P w K mg bs CX0 1 g (lbFd pm ct c) ["tally"] (spLb g c pm ct):=by(
refine qJ2 (k:=0) qL1 (λvs H Q E h=>?_) (λvs H Q E h=>?_) (λA outer s H vs Q E hr h=>?_)
·repeat obtain⟨_,h⟩:=h
 all_goals subst_vars;rfl
·obtain⟨v,T,rfl,_,a,b,_⟩:=h;exact⟨a,b⟩
obtain⟨v,T,rfl,⟨ad,rfl,ha⟩,_,_,q⟩:=h
refine⟨_,yX (qA (qZ jX (pv 0) qH (λ_ _=>rfl)) (qA (qZ jX (pv 0) qH (λ_ _=>rfl)) qF)),?_⟩
exact⟨_,rfl,iT (k:=2) (v:=_) (SqT.of ha) rfl ⟨_,rfl,iT (k:=0) (v:=_) (SqT.of ha) rfl ⟨sz2,q⟩⟩⟩)
theorem qF8{c:Addr}{pm ct:Value}:jO K (lbFd pm ct c) ["tally"] []:=jO.all λus hl=>match us,hl with| [_],_=>rfl
theorem qH0{H:Hp}(h:TbB t H):∃ps,H t.eU=some (.tbl ps)∧TriplesOk ps.toList∧((codeAmong lbP ps.toList=none∧∀c H',H' t.eU=some (.tbl (ps++triB c))→H' c=some (cdO c lbQ)→TbB t H')∨∃c,codeAmong lbP ps.toList=some (.ref c)∧H c=some (cdO c lbQ)):=by(
obtain⟨ps,hT,h⟩:=h
rcases h with rfl|⟨c,rfl,a⟩
·exact⟨_,hT,trivial,.inl ⟨rfl,λc H' e1 e2=>⟨_,e1,.inr ⟨c,rfl,e2⟩⟩⟩⟩
exact⟨_,hT,trivial,.inr ⟨c,rfl,a⟩⟩)
theorem qH1{cl:List Int}{L:List Nat}{i:Nat}(pw:L.Pairwise (· < ·))(hi:i<L.length)(h:∀j,j<L.length→lx (keyN cl (L.getD j 0)) (keyN cl (L.getD i 0))=false):minF cl L=some (L.getD i 0):=by(
have gd:∀{j},(hj:j<L.length)→L.getD j 0=L[j]:=fun {j} hj=>by rw[kJ,hX hj];rfl
obtain⟨h1,h2⟩:=q1Z (cl:=cl) pw
cases z:minF cl L with
|none=>rw[h1 z]at hi;cases hi
|some b=>
 obtain⟨m1,m2⟩:=h2 b z;obtain⟨j,hj,rfl⟩:=wD m1;have a1:=h j hj;have a2:=m2 (L.getD i 0) (by rw[gd hi];exact m7 hi);rw[gd hj]at a1;have e:=q3J _ _ a1 a2;unfold keyN at e;injection e with _ e
 injection e with e _
 rw[show L[j]=L.getD i 0 by lia])
theorem qJM{k:Tm}{s:XS}:(s.clb k (s.ful k)).Pairwise (· < ·):=by unfold XS.clb XS.ful;exact(dM.filter _).filter _
theorem qBZ{kn:Nat}{cells:List (Str×Addr)}{σ:St}{H4:Hp}{D f c':Addr}{k:Tm}{s:XS}{rs:List V}{L:List Nat}{pm ct:Value}{Q:VK}(hk:1≤kn)(ne:L≠[])(pw:L.Pairwise (· < ·))(hD:H4 D=some (.lst rs))(ty:Tls H4 rs (L.map s.tl))(hf:H4 f=some (fnO f (lbFd pm ct c')))(hc:H4 c'=some (cdO c' lbQ))
 (kk:∀b v H',minF s.cl L=some b→Same H4 H'→TlAt H' v (s.tl b)→Q v H'):
 ∃(f':Addr) (fd:FuncData) (sp:Heap→Sp),V.ref f=.ref f'∧(∀base',(∀b o,base.get? b=some o→base'.get? b=some o)→q0Z cells σ base' []→FnOk P w K mg base' CX0 kn f' fd ["tally"] (sp base'))∧jO K fd ["tally"] []∧∃(l:Addr) (us:List V) (kf:Nat→List Int) (Pv:Nat→List V→Hp→Prop),[V.ref D]=[.ref l]∧0<us.length∧Pv 0 [] H4∧(∀i zs H',Pv i zs H'→SqL K H' l us∧zs.length=i∧KeyI K kf H' zs)∧(∀base' i x zs H',q0Z cells σ base' []→us[i]?=some x→Pv i zs H'→sp base' [x] H' (λz H''=>Pv (i+1) (zs++[z]) H'') E0)∧∀i zs H',i<us.length→(∀j,j<us.length→lx (kf j) (kf i)=false)→Pv us.length zs H'→Q (us.getD i .non) H':=by(
have ln:=ty.len
rw[h9]at ln
refine⟨f,lbFd pm ct c',λ_=>spLb f c' pm ct,rfl,λ_ _ _=>qL2.mono hk,qF8,D,rs,λj=>keyN s.cl (L.getD j 0),λi zs H'=>Same H4 H'∧i≤L.length∧Paired (TupD H') zs ((L.take i).map (keyN s.cl)),rfl,by have:=xP.mpr ne;lia,⟨Same.refl H4,mM _,.nil⟩,λi zs H' hp=>?_,λbase' i y zs H' _ hy hp=>?_,λi zs H' hi hm hp=>?_⟩
·obtain⟨sm,le,pr⟩:=hp;have lz:=pr.len;rw[h9,mZ]at lz;refine⟨SqL.of (sm _ _ hD),by lia,λj z hz=>?_⟩;have hj:=(kB.mp hz).1;obtain⟨kv,hk,tp,rfl,htp⟩:=Paired.at pr hz;rw[mG,List.getElem?_take,kI (by lia)]at hk;obtain⟨b,hb,rfl⟩:=mO.mp hk;show TupI K H' (V.ref tp) (keyN s.cl (L.getD j 0));rw[kJ,hb];exact⟨tp,rfl,SqT.of htp⟩
·obtain⟨sm,le,pr⟩:=hp;obtain⟨o,ho,hv⟩:=Paired.at ty hy;rw[mG]at ho;obtain⟨b,hb,rfl⟩:=mO.mp ho;have hi:=(kB.mp hb).1;refine⟨y,s.tl b,rfl,hv.same sm,sm _ _ hf,sm _ _ hc,λtp H5 ntp s5 e5=>⟨sm.trans s5,hi,?_⟩⟩;rw[q77 (f:=keyN s.cl) hb];exact L2.Paired.snoc (vH pr s5) ⟨tp,rfl,e5⟩
obtain⟨sm,le,pr⟩:=hp
have hiL:i<L.length:=by lia
obtain⟨o,ho,hv⟩:=Paired.at ty (hX hi)
rw[mG]at ho
obtain⟨b,hb,rfl⟩:=mO.mp ho
have e:L.getD i 0=b:=by rw[kJ,hb];rfl
have:=qH1 (cl:=s.cl) pw hiL (λj hj=>hm j (by lia))
rw[e]at this
refine kk b _ H' this sm ?_
rw[kJ,hX hi]
exact hv.same sm)
noncomputable def spBc(t:Adr):Sp:=λvs H Q E=>∃x k sh sr s,vs=[.ref x.s]∧XR t H x k sh sr s∧k.ev=true∧(match s.chg k with
|none=>∀H',XR t H' x k sh sr s→Keep [t.eT] H H'→E (.ref t.C_NoRoom) none H'
|some b=>∀H',XR t H' x k sh sr s→Keep [t.eT,t.eU] H H'→Q (.int (b:Int)) H')
theorem q01(T:Txt K mg t)(S:Fns K t)(B:BmIn base mg):FnOk P w K mg base (CXe P w) 11 t.f_Even_block_to_change S.fN ["self"] (spBc t):=by(
refine S.oZ.okE uC (λvs H Q E h=>?_) (λA outer s H vs Q E hr h=>?_)
·repeat obtain⟨_,h⟩:=h
 all_goals subst_vars;rfl
obtain⟨x,k,sh,sr,s,rfl,j,ev,kk⟩:=h
refine⟨_,(qB (qX (i:=1) uC.nd rfl (Or.inl rfl) (j0 (pv 0) T.eW T.oU (vY T S).mono hr S.iO.b .nil qK (qA (qT (pv 0) T.eW T.oW (vS T S B).mono hr S.iD.b .nil qK) qF))) (qB (jE (qU (qA9 hr.units) (pv 1) (y6 qF) (qY _)) (qD (q8X jC rfl rfl T.aCQ T.aDX (qA q0Q qF))) qQ) (qD (qM (qZ jX (qDS (qGX (k:=9) (x:="tally") [] (by intro p hp;cases hp) rfl hr.units hr (by rfl) T.aD0 (qBL (clos:=[]) rfl T.oP B rfl rfl) (qA (pv 1) qF))) qH (λ_ _=>rfl)))))),?_⟩
try dsimp-beta-proj-iota-zeta-eta only[wishK,cxK]
obtain⟨m,hs,c,_⟩:=j.e
refine(iV rfl (iM hs.o rfl (iV rfl (iM hs.o rfl ⟨x,_,_,_,m,s.q,_,rfl,hs,c.ft,λl p rs H1 hl np k1 tb1 h1 ty=>?_⟩))))
have j1:=j.kT k1 tb1
have ty:=q8D ty
rw[c.br,c.cl]at hl
rw[c.br,qET j.w hl,qHG c.cl]at ty
refine⟨x,k,sh,sr,s,p,rs,s.ful k,rfl,j1,h1,ty,(qF7 j.w).2,λp' rs' H2 np' s2 h2 ty2=>?_⟩
have j2:=j1.same s2
have k2:Keep [t.eT] H H2:=k1.trans (Keep.same s2)
refine⟨_,rfl,sz0,λe6 H6 n6 s6 h6=>⟨p',_,e6,rfl,rfl,SqL.of (s6 _ _ h2),SqL.of h6,_,rfl,?_⟩⟩
have k6:Keep [t.eT] H H6:=k2.trans (Keep.same s6)
have j6:=j2.same s6
have ty6:=ty2.same s6
have h26:=s6 _ _ h2
have ln:=ty6.len
rw[h9]at ln
have pw:=qJM (k:=k) (s:=s)
unfold XS.chg at kk
generalize s.clb k (s.ful k)=L at kk ty6 ln pw
cases rs' with
|nil=>obtain rfl:L=[]:=pV ln.symm;exact iteT ⟨sz1,kk H6 j6 k6⟩
|cons u us=>
 have ne:L≠[]:=λz=>by rw[z]at ln;cases ln
 refine iteF ?_;obtain⟨J,eJ⟩:∃J:VK,J=λv H5=>∃tp b,v=.ref tp∧H5 tp=some (.tup ((s.tl b).ns.map V.int))∧minF s.cl L=some b∧XR t H5 x k sh sr s∧Keep [t.eT,t.eU] H H5:=⟨_,rfl⟩;refine⟨J,?_,?_⟩
 ·refine⟨_,rfl,?_⟩;obtain⟨pf,hTf,hf0,tB⟩:=j6.tb;obtain⟨ps,hT,ht,hcc⟩:=qH0 tB;have nT:p'≠t.eU:=λz=>by rw[z,hT]at h26;cases h26
  refine⟨ps,hT,ht,?_⟩;have fin:∀b v H4 H5,Keep [t.eT,t.eU] H6 H4→XR t H4 x k sh sr s→minF s.cl L=some b→Same H4 H5→TlAt H5 v (s.tl b)→J v H5:=λb v H4 H5 k4 j4 e s5 hv=>by obtain⟨tp,rfl,h5⟩:=hv;rw[eJ];exact⟨tp,b,rfl,h5,e,j4.same s5,((k6.mono (by simp)).trans k4).trans (Keep.same s5)⟩
  rcases hcc with⟨hn,tb⟩|⟨c0,hn,hc0⟩
  ·refine .inl ⟨hn,λf c' ctv H4 nf hf hc' hT4 kp=>?_⟩;have nTT:t.eT≠t.eU:=T.tS;have k4:Keep [t.eT,t.eU] H6 H4:=⟨λb o nb e=>kp b o (λz=>nb (by rw[z];simp)) e,λb xs e=>kp b _ (λz=>by rw[z,hT]at e;cases e) e⟩;have k4':Keep [t.eU] H6 H4:=⟨λb o nb e=>kp b o (λz=>nb (by rw[z];simp)) e,k4.tp⟩;have tb4:TbF t H4:=by
    refine⟨pf,kp _ _ nTT hTf,?_,tb c' H4 hT4 hc'⟩;rcases hf0 with z|⟨c1,z,a⟩
    ·exact .inl z
    exact .inr ⟨c1,z,kp _ _ (λz=>by rw[z,hT]at a;cases a) a⟩
   obtain⟨m6,st6,_⟩:=j6.e;have j4:=j6.keep k4' (λb hb z=>st6.nX hT (.inl ⟨_,rfl⟩) (by rw[←kD.mp z];exact hb)) tb4;exact qBZ (k:=k) (s:=s) (show 1≤11-2 by decide) ne pw (kp _ _ nT h26) (Paired.mapP ty6 λv o ⟨a,e,z⟩=>⟨a,e,k4.tp _ _ z⟩) hf hc' λb v H5 e s5 hv=>fin b v H4 H5 k4 j4 e s5 hv
  refine .inr ⟨c0,hn,λf ctv H4 nf hf s4=>?_⟩;exact qBZ (k:=k) (s:=s) (show 1≤11-2 by decide) ne pw (s4 _ _ h26) (ty6.same s4) hf (s4 _ _ hc0) λb v H5 e s5 hv=>fin b v H4 H5 (Keep.same s4) (j6.same s4) e s5 hv
 rw[eJ];rintro v H5 ⟨tp,b,rfl,h5,e,j5,k5⟩
 rw[e]at kk;exact(iT (k:=0) (v:=_) (SqT.of h5) rfl (kk H5 j5 k5)))
noncomputable def spCh(t:Adr):Sp:=λvs H Q E=>∃x k sh sr s r rl g,vs=[.ref x.s]∧XR t H x k sh sr s∧k.ev=true∧x.ru=.ref r∧RuX t H r rl g∧Off t x (r::rl)∧s.rc.length<1000000∧(match s.tk k g with
|none=>∀H',XR t H' x k sh sr s→Keep [t.eT] H H'→E (.ref t.C_NoRoom) none H'
|some (y,b,g')=>∀p H',Keep [t.eT,t.eU,r] H H'→XR t H' x k sh sr s→RuX t H' r rl g'→H' p=some (.tup [.str y,.int (b:Int)])→Q (.ref p) H')
theorem q60(T:Txt K mg t)(S:Fns K t)(B:BmIn base mg):S.t7.OkE P w mg base 13 (spCh t):=by(
refine S.t7.F.okE q1K (λvs H Q E h=>?_) (λcdv A outer s H vs Q E hr h=>?_)
·repeat obtain⟨_,h⟩:=h
 all_goals subst_vars;rfl
obtain⟨x,k,sh,sr,s,r,rl,g,rfl,j,ev,er,hR,of,rc,kk⟩:=h
refine⟨_,(qB (qX (i:=1) q1K.nd rfl (Or.inl rfl) (qT (pv 0) T.eW T.tW (q0P T S B).mono hr S.oC.b .nil qK)) (qB (jE (qU (qA9 hr.units) (pv 1) (y6 qF) (qY _)) (qD (qM (yX (qA q0Q (qA (uA jC (pv 0) T.eW T.oY (q01 T S B).mono hr S.o6 .nil) qF))))) qQ) (qD (qM (j0 (pv 0) T.eW T.tE (q00 T S).mono hr S.fW.b .nil qK (qA (pv 1) qF)))))),?_⟩
try dsimp-beta-proj-iota-zeta-eta only[wishK,cxK]
refine(iV rfl (iM j.o rfl ?_))
dsimp only[tNil,g9]
refine j.opts ev λp rs H1 np j1 k1 h1 ty=>?_
refine⟨_,rfl,sz0,λe6 H6 n6 s6 h6=>⟨p,_,e6,rfl,rfl,SqL.of (s6 _ _ h1),SqL.of h6,_,rfl,?_⟩⟩
have k6:Keep [t.eT] H H6:=k1.trans (Keep.same s6)
have j6:=j1.same s6
have ln:=ty.len
unfold XS.tk at kk
cases rs with
|nil=>
 have e0:s.opt k=[]:=p9.mp (pV ln.symm);rw[kI e0,ev,kI rfl]at kk;refine iteT ?_;refine(iV rfl (iM j6.o rfl ⟨x,k,sh,sr,s,rfl,j6,ev,?_⟩));have oT:=of t.eT (by simp);have oB:=of t.eU (by simp);cases z:s.chg k with
 |none=>rw[z]at kk;exact λH7 j7 k7=>kk H7 j7 (k6.trans k7)
 |some b=>
  rw[z]at kk;refine λH7 j7 k7=>⟨sz2,λtp H8 n8 s8 h8=>?_⟩;have k8:Keep [t.eT,t.eU] H H8:=((k6.mono (by simp)).trans k7).trans (Keep.same s8);refine kk tp H8 (k8.mono (by intro y hy;simp at hy ⊢;rcases hy with e|e<;>simp[e])) (j7.same s8) (hR.keep k8 λy hy z=>?_) h8;have z:y=t.eT∨y=t.eU:=by simpa using z
  rcases z with z|z
  ·exact oT (by rw[←z];exact hy)
  exact oB (by rw[←z];exact hy)
|cons u us=>
 have ne:s.opt k≠[]:=λz=>by unfold XS.ots at ln;rw[z]at ln;cases ln
 rw[kF ne]at kk;refine iteF ?_;obtain⟨m,hs6,c,_⟩:=j6.e;have oT:=of t.eT (by simp);have hR6:=hR.keep k6 (λy hy z=>oT (by rw[←kD.mp z];exact hy));have ne':s.ots k≠[]:=λz=>ne (p9.mp z);have okT:∀o∈s.ots k,o.Ok (s.q.P:Int) s.q.nx:=λo ho=>by obtain⟨b,hb,rfl⟩:=mE.mp ho;exact qKN j.w rc (uT.mp hb).1.1.b
 refine(iV rfl (iM hs6.o rfl ⟨_,rfl,x,_,_,_,_,m,s.q,r,rl,g,p,_,_,rfl,hs6,c.ft,er,hR6,s6 _ _ h1,ty.same s6,ne',by unfold XS.ots;rw[h9];exact qJB j.w,okT,qGM,λpp H7 k7 hR7 h7=>?_⟩));have cm:=qEW (pg:=(s.q.P:Int)) (nw:=s.q.nx) hR.ok ne';refine kk pp H7 ((k6.mono (by simp)).trans (k7.mono (by simp))) (j6.kR of k7 hR6) hR7 ?_;rw[h7];obtain⟨b,hb,e⟩:=mE.mp cm;obtain⟨c',_,rfl⟩:=mE.mp hb;have e:(c':Int)=(g.ch (s.q.P:Int) s.q.nx (s.ots k)).1:=e;rw[←e,mI])
noncomputable def spPp(K:W.Frag):Sp:=λvs H Q _=>∃wy bl wi l1 l2 rs us,vs=[wy,.ref l1,bl,.ref l2,wi]∧H l1=some (.lst rs)∧H l2=some (.lst us)∧∀pa a1 a2 H',Same H H'→H pa=none→H a1=none→H a2=none→H' pa=some (.tup [wy,.ref a1,bl,.ref a2,wi])→H' a1=some (.lst rs)→H' a2=some (.lst us)→Q (.ref pa) H'
theorem q41(T:Txt K mg t)(S:Fns K t):S.aA9.Ok0 P w mg base 1 (spPp K):=by(
refine S.aA9.F.ok0 q9M λcdv A _ s H vs Q E hr h=>?_
obtain⟨wy,bl,wi,l1,l2,rs,us,rfl,h1,h2,k⟩:=h
refine⟨_,(qD (qM (yX (qA (pv 0) (qA (q1V q2C (by rfl) T.aDF (by kernel_rfl) (qA (pv 1) qF)) (qA (pv 2) (qA (q1V q2C (by rfl) T.aDF (by kernel_rfl) (qA (pv 3) qF)) (qA (pv 4) qF)))))))),?_⟩
try dsimp-beta-proj-iota-zeta-eta only[wishK,cxK]
refine⟨_,rfl,_,rfl,l1,rs,rfl,.inl (SqL.of h1),λa1 H1 n1 s1 e1=>?_⟩
refine⟨_,rfl,_,rfl,l2,us,rfl,.inl (SqL.of (s1 _ _ h2)),λa2 H2 n2 s2 e2=>?_⟩
refine⟨_,rfl,sz5,λpa H3 n3 s3 e3=>?_⟩
exact k pa a1 a2 H3 ((s1.trans s2).trans s3) ((s1.trans s2).free n3) n1 (s1.free n2) e3 (s3 _ _ (s2 _ _ e1)) (s3 _ _ e2))
theorem qH2{s:XS}{k:Tm}{b:Nat}{rs:List (List Int)}(w:WX k s)(pm:rs.Perm (lpK s.q.P b s.q.V))(so:rs.Pairwise λa b=>lx b a=false):rs=lvP s.q.P b s.q.V:=by(
refine qGL w.qs.ok.p1 w.pd ?_ (λkk=>?_) so
·refine pm.nodup_iff.mpr ?_;unfold lpK;refine gZ.mpr (((gZ.mp w.qs.ok.nd).imp fun {a c} hne z=>hne ?_).filter _);injection z with _ z
 injection z with z _
rw[pm.mem_iff]
unfold lpK
rw[mE]
constructor
·rintro⟨y,hy,rfl⟩
 obtain⟨a1,a2⟩:=mP.mp hy;exact⟨y.1,y.2,rfl,a1,mV a2⟩
rintro⟨n,p,rfl,a1,a2⟩
exact⟨(n,p),mP.mpr ⟨a1,hV a2⟩,rfl⟩)
noncomputable def spMv(t:Adr):Sp:=λvs H Q E=>∃x k sh sr s,∃b:Nat,vs=[.ref x.s,.int (b:Int)]∧XR t H x k sh sr s∧Full k s b∧s.rc.length+100<1000000∧(match XS.mvs (lvP s.q.P b s.q.V) s with
|(s',none)=>∀H',XR t H' x k sh sr s'→Keep (t.eT::sf x) H H'→E (.ref t.C_PowerGone) none H'
|(s',some ms)=>∀ml us H',XR t H' x k sh sr s'→H ml=none→H' ml=some (.lst us)→Paired (TupD H') us ms→Mvd k s b s' (lvP s.q.P b s.q.V).length→(∀y∈s'.q.V,¬y.2 / (s'.q.P:Int)=(b:Int))→Keep (t.eT::sf x) H H'→Q (.ref ml) H')
theorem q61(T:Txt K mg t)(S:Fns K t)(B:BmIn base mg):S.t6.OkE P w mg base 12 (spMv t):=by(
refine S.t6.F.okE uL (λvs H Q E h=>?_) (λcdv A outer s H vs Q E hr h=>?_)
·repeat obtain⟨_,h⟩:=h
 all_goals subst_vars;rfl
obtain⟨x,k,sh,sr,s,b,rfl,j,fl,rc,kk⟩:=h
have s9:(99999:Nat)<sizeLine:=by decide
have spR:=fl.sp j.w
have l6:=j.w.l6
refine⟨_,(qB (qX (i:=2) uL.nd rfl (Or.inl rfl) (y6 qF)) (qB (vD nH rfl (jN (j0 (qJ (pv 0) rfl) T.e9 T.aAT (q2U T S).mono hr S.i5.b .nil qK (qA (pv 1) qF))) (qA0 rfl (yU (qW (i:=3) uL.nd rfl (Or.inl rfl)) (yU (qW (i:=4) uL.nd rfl (Or.inl rfl)) q4D))) (qD (qV (q8N dH rB rC vB (pv 2) (qA (yX (qA (pv 4) (qA (pv 3) (qA (y7 jC (pv 0) T.eW T.aBW (q3D T S B).mono hr S.aAH.b .nil (qA (pv 4) (qA (y7 jC (pv 0) T.eW T.tN (q0J T S).mono hr S.f6.b .nil (qA (pv 3) (qA (pv 4) qF))) qF))) qF)))) qF q2Y))))) (qD (qM (pv 2))))),?_⟩
try dsimp-beta-proj-iota-zeta-eta only[wishK,cxK]
refine⟨sz0,λml H1 n1 s1 h1=>?_⟩
obtain⟨m,hs1,c,_⟩:=(j.same s1).e
refine(iV rfl (iF hs1.o T.eW T.fB rfl (iM hs1.bk.o rfl ⟨_,rfl,x.k,s.q,b,rfl,hs1.bk,j.w.qs.ok,by lia,λll ps rs H2 s2 n2 h2 pr2 pm so=>?_⟩)))
obtain rfl:=qH2 j.w pm so
have s02:=s1.trans s2
have mlF:=j.off n1
have llF:=(j.same s1).off n2
have llm:ll≠ml:=(qG h1 n2).symm
have lps:=pr2.len
have lr:(lvP s.q.P b s.q.V).length≤16:=by have:=j.w.qs.ok.p2;unfold lvP;refine mF (rA _ _) ?_;rw[gD];exact this
refine⟨ll,rfl,⟨_,SqL.of h2⟩,?_⟩
refine zP (K:=K) (xs:=ps) (λi σ' H'=>∃y3 y4 us s' ms,σ'=[some (.ref x.s),some (.int (b:Int)),some (.ref ml),y3,y4]∧XR t H' x k sh sr s'∧MvI k s b (lvP s.q.P b s.q.V) i s' ms∧H' ml=some (.lst us)∧Paired (TupD H') us ms∧Keep (ml::t.eT::sf x) H2 H') ⟨_,_,[],s,[],rfl,j.same s02,MvI.zero j.w fl.f,s2 _ _ h1,.nil,Keep.refl⟩ (λi σ' H' hi hp=>?_) (λi v σ' H' hv hp=>?_) (λσ' H' hp=>?_)
·obtain⟨y3,y4,us,s',ms,rfl,j',mi,hml,pr,kk'⟩:=hp;refine SqL.of (kk'.k _ _ (λz=>?_) h2);rcases kM.mp z with e|e
 ·exact llm e
 exact llF e
·obtain⟨y3,y4,us,s',ms,rfl,j',mi,hml,pr,kk'⟩:=hp;obtain⟨kv,hk,tp,rfl,htp⟩:=Paired.at pr2 hv;obtain⟨hi,ekv⟩:=kB.mp hk;obtain⟨n,p,er,hnp,n0,n64⟩:=mi.at hi;rw[er]at ekv;subst ekv;have htp':=kk'.tp _ _ htp;have rce:=mi.rc;have rme:=mi.rm;have kH:∀{G},Keep (t.eT::sf x) H' G→Keep (t.eT::sf x) H G:=fun {G} kG=>by
  refine⟨λy o ny e=>kG.k y o ny (kk'.k y o (λz=>?_) (s02 _ _ e)),λy ys e=>kG.tp _ _ (kk'.tp _ _ (s02 _ _ e))⟩;rcases kM.mp z with z|z
  ·rw[z,n1]at e;cases e
  exact ny z
 refine⟨tp,_,rfl,SqT.of htp',rfl,_,_,rfl,_,_,rfl,rfl,?_⟩;refine⟨_,rfl,.inl ⟨rfl,_,SqL.of hml⟩,_,rfl,_,rfl,iV rfl (iM j'.o rfl ⟨_,rfl,iV rfl (iM j'.o rfl ⟨_,rfl,_,rfl,x,k,sh,sr,s',n,p,rfl,j',hnp,λdk=>?_,λH3 s3=>?_⟩)⟩)⟩
 ·rw[mi.dark hi dk]at kk;exact kk H' j' (kH Keep.refl)
 dsimp only[tNil,d3,g9,dQ];have hml3:=s3 _ _ hml;refine(j'.same s3).set n0 n64 (by lia) (by rw[mi.eP];lia) (.inl ⟨p,hnp⟩) (λdk H5 j5 k5=>?_) (λdk H5 j5 k5=>?_)
 ·rw[mi.dark hi dk]at kk;exact kk H5 j5 (kH ((Keep.same s3).trans k5))
 have hml5:=k5.k _ _ mlF hml3;refine⟨sz3,λtu H6 n6 s6 h6=>⟨ml,us,_,rfl,rfl,s6 _ _ hml5,by have:=pr.len;have:=mi.l;lia,?_⟩⟩;have hml6:=s6 _ _ hml5;have k7:=Keep.upd (F:=[ml]) (o:=.lst (us++[.ref tu])) hml6 (λ_ z=>by cases z) (by simp);have hml7:(upd H6 ml (.lst (us++[.ref tu]))) ml=_:=qI;have j7:=(j5.same s6).lst (o:=.lst (us++[.ref tu])) hml6 mlF;generalize upd H6 ml (.lst (us++[.ref tu]))=H7 at k7 hml7 j7 ⊢;have kA:Keep (ml::t.eT::sf x) H' H7:=(((Keep.same s3).trans (k5.mono (λy hy=>kC _ hy))).trans (Keep.same s6)).trans (k7.mono (by simp));exact⟨some (.int p),some (.int n),us++[.ref tu],_,_,rfl,j7,mi.step q5I hi spR dk er,hml7,L2.Paired.snoc (Paired.mapP pr λv d ⟨p',e',h'⟩=>⟨p',e',kA.tp _ _ h'⟩) ⟨tu,rfl,k7.tp _ _ h6⟩,kk'.trans kA⟩
obtain⟨y3,y4,us,s',ms,rfl,j',mi,hml,pr,kk'⟩:=hp
rw[lps]at mi
obtain⟨e,nl⟩:=mi.fin rfl
rw[e]at kk
have kH:Keep (t.eT::sf x) H H':=by
 refine⟨λy o ny e=>kk'.k y o (λz=>?_) (s02 _ _ e),λy ys e=>kk'.tp _ _ (s02 _ _ e)⟩;rcases kM.mp z with z|z
 ·rw[z,n1]at e;cases e
 exact ny z
exact⟨_,rfl,kk ml us H' j' n1 hml pr (mi.mvd (kN _)) nl kH⟩)
noncomputable abbrev fx(t:Adr)(x:Sto)(r pp:Addr):List Addr:=pp::r::t.eU::t.eT::sf x
noncomputable def PapA(H:Hp)(F:List Addr)(v:V)(p:Pa):Prop:=∃pa l1 l2 us rs,v=.ref pa∧H pa=some (.tup [.str p.why,.ref l1,.int (p.b:Int),.ref l2,.bl true])∧H l1=some (.lst rs)∧Tls H rs p.ts∧H l2=some (.lst us)∧Paired (TupD H) us p.mv∧l1∉F∧l2∉F
theorem PapA.keep{H H':Hp}{F G:List Addr}{v:V}{p:Pa}(h:PapA H F v p)(k:Keep G H H')(s:∀y∈G,y∈F):PapA H' F v p:=by obtain⟨pa,l1,l2,us,rs,e,a,b,c,d,f,g1,g2⟩:=h;exact⟨pa,l1,l2,us,rs,e,k.tp _ _ a,k.k _ _ (λz=>g1 (s _ z)) b,q1R k c,k.k _ _ (λz=>g2 (s _ z)) d,Paired.mapP f λv d ⟨p',e',h'⟩=>⟨p',e',k.tp _ _ h'⟩,g1,g2⟩
structure XX(t:Adr)(H:Hp)(x:Sto)(k:Tm)(sh sr:Int)(r:Addr)(rl:List Addr)(pp:Addr)(X:Sx):Prop where
j:XR t H x k sh sr X.s
er:x.ru=.ref r
ru:RuX t H r rl X.g
of:Off t x (r::rl)
ep:x.pa=.ref pp
hp:∃ps,H pp=some (.lst ps)∧Paired (PapA H (fx t x r pp)) ps X.ps
np:pp∉t.eT::sf x
nr:pp∉r::rl
section
variable{H H':Hp}{x:Sto}{k:Tm}{sh sr:Int}{r:Addr}{rl:List Addr}{pp:Addr}{X:Sx}
theorem XX.kT(h:XX t H x k sh sr r rl pp X)(kk:Keep [t.eT] H H')(tb:TbF t H'):XX t H' x k sh sr r rl pp X:=by obtain⟨ps,h1,h2⟩:=h.hp;have oT:=h.of t.eT (by simp);exact⟨h.j.kT kk tb,h.er,h.ru.keep kk (λy hy z=>oT (by rw[←kD.mp z];exact hy)),h.of,h.ep,⟨ps,kk.k _ _ (λz=>h.np (by rw[kD.mp z];simp)) h1,Paired.mapP h2 λ_ _ z=>z.keep kk (by simp)⟩,h.np,h.nr⟩
theorem XX.same(h:XX t H x k sh sr r rl pp X)(s:Same H H'):XX t H' x k sh sr r rl pp X:=h.kT (Keep.same s) (h.j.tb.same s)
theorem XX.on(h:XX t H x k sh sr r rl pp X){s:XS}(kk:Keep (t.eT::sf x) H H')(j:XR t H' x k sh sr s):XX t H' x k sh sr r rl pp ⟨s,X.g,X.ps⟩:=by obtain⟨ps,h1,h2⟩:=h.hp;exact⟨j,h.er,h.ru.keep kk (λy hy=>h.of.n hy),h.of,h.ep,⟨ps,kk.k _ _ h.np h1,Paired.mapP h2 λ_ _ z=>z.keep kk (by intro y hy;simp at hy ⊢;rcases hy with e|e<;>simp[e])⟩,h.np,h.nr⟩
end
noncomputable def rfE(t:Adr)(e:Rf)(E:XK)(H:Hp):Prop:=match e with
| .dark=>E (.ref t.C_PowerGone) none H
| .room=>E (.ref t.C_NoRoom) none H
noncomputable def qL3(t:Adr):Sp:=λvs H Q E=>∃x k sh sr r rl pp X,vs=[.ref x.s]∧XX t H x k sh sr r rl pp X∧k.ev=true∧X.s.rc.length+200<1000000∧X.ps.length<90000∧(match X.room k with
|(Y,.error e)=>∀H',XX t H' x k sh sr r rl pp Y→Keep (fx t x r pp) H H'→rfE t e E H'
|(Y,.ok p)=>∀v H',XX t H' x k sh sr r rl pp Y→Keep (fx t x r pp) H H'→Q v H')
theorem vT(T:Txt K mg t)(S:Fns K t)(B:BmIn base mg):S.f7.OkE P w mg base 14 (qL3 t):=by(
refine S.f7.F.okE jU (λvs H Q E h=>?_) (λcdv A outer s H vs Q E hr h=>?_)
·repeat obtain⟨_,h⟩:=h
 all_goals subst_vars;rfl
obtain⟨x,k,sh,sr,r,rl,pp,X,rfl,h,ev,rc,lp,kk⟩:=h
have s9:(99999:Nat)<sizeLine:=by decide
refine⟨_,(qB (qX (i:=1) jU.nd rfl (Or.inl rfl) (qT (pv 0) T.eW T.tW (q0P T S B).mono hr S.oC.b .nil qK)) (qB (qX (i:=2) jU.nd rfl (Or.inl rfl) (uA jC (pv 0) T.eW T.aCA (q60 T S B).mono hr S.t7.b .nil)) (qB (qX (i:=3) jU.nd rfl (Or.inl rfl) (y7 jC (pv 0) T.eW T.aCU (q61 T S B).mono hr S.t6.b .nil (qA (qZ jX (pv 2) qH (λ_ _=>rfl)) qF))) (qB (qX (i:=4) jU.nd rfl (Or.inl rfl) (y7 jC (pv 0) T.eW T.aCH (q5X T S).mono hr S.aAE.b .nil (qA (qZ jX (pv 2) qH (λ_ _=>rfl)) qF))) (qB (qV (q8N dH rB rC vB (qJ (pv 0) rfl) (qA (qS (q41 T S).mono hr rfl T.aBE T.aBP S.aA9.b .nil qK (qA (qZ jX (pv 2) qH (λ_ _=>rfl)) (qA (pv 1) (qA (qZ jX (pv 2) qH (λ_ _=>rfl)) (qA (pv 3) (qA (pv 4) qF)))))) qF))) (qD (qM (qS (q41 T S).mono hr rfl T.aBE T.aBP S.aA9.b .nil qK (qA (qZ jX (pv 2) qH (λ_ _=>rfl)) (qA (pv 1) (qA (qZ jX (pv 2) qH (λ_ _=>rfl)) (qA (pv 3) (qA (pv 4) qF))))))))))))),?_⟩
try dsimp-beta-proj-iota-zeta-eta only[wishK,cxK]
refine(iV rfl (iM h.j.o rfl ?_))
dsimp only[tNil,g9]
refine h.j.opts ev λop rs H1 np j1 k1 h1 ty=>?_
have h1':=h.kT k1 j1.tb
have mT:∀y∈[t.eT],y∈fx t x r pp:=by simp
refine(iV rfl (iM j1.o rfl ⟨x,k,sh,sr,X.s,r,rl,X.g,rfl,j1,ev,h.er,h1'.ru,h.of,by lia,?_⟩))
unfold Sx.room at kk
cases htk:X.s.tk k X.g with
|none=>rw[htk]at kk;exact λH2 j2 k2=>kk H2 (h1'.kT k2 j2.tb) ((k1.mono mT).trans (k2.mono mT))
|some ybg=>
 obtain⟨y,b,g'⟩:=ybg;rw[htk]at kk;have fb:=q21 h.ru.ok htk;refine λcp H2 k2 j2 hR2 h2=>?_;have m2:∀y∈[t.eT,t.eU,r],y∈fx t x r pp:=by simp
 have mS:∀y∈t.eT::sf x,y∈fx t x r pp:=λy hy=>kC _ (kC _ (kC _ hy));have k02:Keep (fx t x r pp) H H2:=(k1.mono mT).trans (k2.mono m2);have npr:pp∉r::t.eT::sf x:=λz=>(kM.mp z).elim (λe=>h.nr (by rw[e];exact kX)) h.np;obtain⟨ps,hp0,hpp0⟩:=h.hp;obtain⟨_,hTF,_,pB,hTB,_⟩:=h.j.tb;have np2:pp∉[t.eT,t.eU,r]:=λz=>by
  have z:pp=t.eT∨pp=t.eU∨pp=r:=by simpa using z
  rcases z with z|z|z
  ·exact npr (by rw[z];simp)
  ·rw[z,hTB]at hp0;cases hp0
  exact npr (by rw[z];simp)
 have lps:=hpp0.len;have h2':XX t H2 x k sh sr r rl pp ⟨X.s,g',X.ps⟩:=⟨j2,h.er,hR2,h.of,h.ep,⟨ps,k2.k _ _ np2 (k1.k _ _ (λz=>h.np (by rw[kD.mp z];simp)) hp0),Paired.mapP hpp0 λ_ _ z=>(z.keep k1 mT).keep k2 m2⟩,h.np,h.nr⟩;have opn:=h.j.off np;obtain⟨C0,d0,f0,er0⟩:=h.ru.ins;have opr:op≠r:=λz=>by rw[z,er0]at np;cases np
 have opp:op≠pp:=λz=>by rw[z,hp0]at np;cases np
 have opH2:H2 op=some (.lst rs):=k2.k _ _ (λz=>by
  have z:op=t.eT∨op=t.eU∨op=r:=by simpa using z
  rcases z with z|z|z
  ·exact opn (by rw[z];simp)
  ·rw[z,hTB]at np;cases np
  exact opr z) h1
 refine(iV rfl (iM j2.o rfl ⟨_,rfl,iT (k:=1) (v:=.int (b:Int)) (SqT.of h2) rfl ⟨x,k,sh,sr,X.s,b,rfl,j2,fb,by lia,?_⟩⟩));cases hmv:XS.mvs (lvP X.s.q.P b X.s.q.V) X.s with
 |mk s o=>
  dsimp only at kk;rw[hmv]at kk;cases o with
  |none=>exact λH3 j3 k3=>kk H3 (h2'.on k3 j3) (k02.trans (k3.mono mS))
  |some ms=>
   refine λml us H3 j3 nm hml prm md nl k3=>?_;dsimp only at kk;have h3:=k3.tp _ _ h2;have mrc:=md.rc;have l16:(lvP X.s.q.P b X.s.q.V).length≤16:=by have:=h.j.w.qs.ok.p2;unfold lvP;refine mF (rA _ _) ?_;rw[gD];exact this
   refine(iV rfl (iM j3.o rfl ⟨_,rfl,iT (k:=1) (v:=.int (b:Int)) (SqT.of h3) rfl ⟨x,k,sh,sr,s,b,rfl,j3,by rw[md.eB];exact fb.b,by rw[md.eP];exact md.fb,by lia,nl,λdk=>?_,λdk H4 j4 k4=>⟨rfl,?_⟩⟩⟩))
   ·rw[kI dk]at kk;exact kk H3 (h2'.on k3 j3) (k02.trans (k3.mono mS))
   rw[kF dk]at kk;have k34:Keep (t.eT::sf x) H2 H4:=k3.trans k4;have h4x:=h2'.on k34 j4;obtain⟨ps4,hpp4,prp4⟩:=h4x.hp;have lps4:=prp4.len;have hR4:=h4x.ru;obtain⟨C4,d4,f4,er4⟩:=hR4.ins;have h4:=k34.tp _ _ h2;have hop4:=k34.k _ _ opn opH2;have mln:=j2.off nm;have hml4:=k4.k _ _ mln hml;have o4:=j4.o;rw[h.ep]at o4;refine(iV rfl (iF o4 T.eW T.iP rfl ⟨.inl ⟨rfl,_,SqL.of hpp4⟩,_,rfl,iT (k:=0) (v:=_) (SqT.of h4) rfl ⟨_,rfl,_,rfl,iT (k:=1) (v:=_) (SqT.of h4) rfl ⟨_,rfl,_,rfl,.str y,.int (b:Int),.bl true,op,ml,rs,us,rfl,hop4,hml4,λpa a1 a2 H5 s5 npa na1 na2 e5 e51 e52=>⟨pp,ps4,_,rfl,rfl,s5 _ _ hpp4,by simp only at lps4;lia,?_⟩⟩⟩⟩));have hpp5:=s5 _ _ hpp4;have k6:=Keep.upd (F:=[pp]) (o:=.lst (ps4++[.ref pa])) hpp5 (λ_ z=>by cases z) (by simp);have hpp6:(upd H5 pp (.lst (ps4++[.ref pa]))) pp=_:=qI;have j6:=(j4.same s5).lst (o:=.lst (ps4++[.ref pa])) hpp5 h.np;generalize upd H5 pp (.lst (ps4++[.ref pa]))=H6 at k6 hpp6 j6 ⊢;have m6:∀y∈[pp],y∈fx t x r pp:=by simp
   have npp:∀{y:Addr},H4 y=none→y∉[pp]:=fun {y} e z=>by rw[kD.mp z,hpp4]at e;cases e
   have inF:∀{y:Addr},H4 y=none→y∉fx t x r pp:=fun {y} e z=>by
    rcases kM.mp z with z|z
    ·rw[z,hpp4]at e;cases e
    rcases kM.mp z with z|z
    ·rw[z,er4]at e;cases e
    rcases kM.mp z with z|z
    ·obtain⟨_,_,_,_,hTB4,_⟩:=j4.tb;rw[z,hTB4]at e;cases e
    exact(j4.off e) z
   have opp6:op∉[pp]:=λz=>opp (kD.mp z);have mlp:ml∉[pp]:=λz=>by obtain⟨ps2,e2,_⟩:=h2'.hp;rw[kD.mp z,e2]at nm;cases nm
   refine⟨_,rfl,iT (k:=0) (v:=_) (SqT.of (k6.tp _ _ (s5 _ _ h4))) rfl ⟨_,rfl,_,rfl,iT (k:=1) (v:=_) (SqT.of (k6.tp _ _ (s5 _ _ h4))) rfl ⟨_,rfl,_,rfl,.str y,.int (b:Int),.bl true,op,ml,rs,us,rfl,k6.k _ _ opp6 (s5 _ _ hop4),k6.k _ _ mlp (s5 _ _ hml4),λpb c1 c2 H7 s7 npb nc1 nc2 e7 e71 e72=>?_⟩⟩⟩;have k47:Keep [pp] H4 H7:=((Keep.same s5).trans k6).trans (Keep.same s7);have k07:Keep (fx t x r pp) H H7:=(k02.trans (k34.mono mS)).trans (k47.mono m6);have ty7:Tls H7 rs (X.s.ots k):=q1R k47 (q1R k34 (q1R k2 ty));have prm7:Paired (TupD H7) us ms:=Paired.mapP prm λv d ⟨p',e',h'⟩=>⟨p',e',k47.tp _ _ (k4.tp _ _ h')⟩;exact kk (.ref pb) H7 ⟨j6.same s7,h.er,(hR4.keep k47 (λy hy z=>h.nr (by rw[←kD.mp z];exact hy))),h.of,h.ep,⟨ps4++[.ref pa],s7 _ _ hpp6,L2.Paired.snoc (Paired.mapP prp4 λ_ _ z=>z.keep k47 m6) ⟨pa,a1,a2,us,rs,rfl,s7 _ _ (k6.tp _ _ e5),s7 _ _ (k6.k _ _ (npp na1) e51),ty7,s7 _ _ (k6.k _ _ (npp na2) e52),prm7,inF na1,inF na2⟩⟩,h.np,h.nr⟩ k07)
noncomputable def spMr(t:Adr):Sp:=λvs H Q E=>∃x k sh sr r rl pp X,∃i Z,vs=[.ref x.s]∧XX t H x k sh sr r rl pp X∧k.ev=true∧X.s.rc.length+100*i+200<1000000∧X.ps.length+i<90000∧X.rooms k i=some Z∧(match Z with
|(Y,.error e)=>∀H',XX t H' x k sh sr r rl pp Y→Keep (fx t x r pp) H H'→rfE t e E H'
|(Y,.ok _)=>∀H',XX t H' x k sh sr r rl pp Y→Keep (fx t x r pp) H H'→Q .non H')
theorem q29(T:Txt K mg t)(S:Fns K t)(B:BmIn base mg):S.iU.OkE P w mg base 15 (spMr t):=by(
refine S.iU.F.okE q26 (λvs H Q E h=>?_) (λcdv A outer s H vs Q E hr h=>?_)
·repeat obtain⟨_,h⟩:=h
 all_goals subst_vars;rfl
obtain⟨x,k,sh,sr,r,rl,pp,X,i,Z,rfl,h,ev,rc,lp,hZ,kk⟩:=h
refine⟨_,(qD (q8J nH (yE (jR (qT (pv 0) T.eW T.aCK (q5U T S B).mono hr S.aAA.b .nil qK))) (qD (qV (uA jC (pv 0) T.eW T.oX (vT T S B).mono hr S.f7.b .nil))))),?_⟩
try dsimp-beta-proj-iota-zeta-eta only[wishK,cxK]
refine⟨λn σ' H2=>σ'=[some (.ref x.s)]∧∃Y,XX t H2 x k sh sr r rl pp Y∧Keep (fx t x r pp) H H2∧Y.rooms k n=some Z∧Y.s.rc.length+100*n+200<1000000∧Y.ps.length+n<90000,⟨i,rfl,X,h,Keep.refl,hZ,rc,lp⟩,?_⟩
rintro n σ' H2 ⟨rfl,Y,hY,k2,eY,rcY,lpY⟩
obtain⟨m,hs,c,_⟩:=hY.j.e
have mT:∀y∈[t.eT],y∈fx t x r pp:=by simp
refine(iV rfl (iM hs.o rfl ⟨x,_,_,_,m,Y.s.q,_,rfl,hs,c.ft,λl H3 hl k3 tb3=>⟨_,rfl,?_⟩⟩))
rw[c.br,c.cl]at hl
rw[c.br,qJA hY.j.w hl]
have hY3:=hY.kT k3 tb3
have k03:=k2.trans (k3.mono mT)
cases n with
|zero=>
 unfold Sx.rooms at eY;cases z:Y.s.rd k with
 |false=>rw[z,kF (by decide)]at eY;cases eY
 |true=>rw[z,kI rfl]at eY;cases eY;exact iteF (kk H3 hY3 k03)
|succ n=>
 unfold Sx.rooms at eY;cases z:Y.s.rd k with
 |true=>rw[z,kI rfl]at eY;cases eY;exact iteF (kk H3 hY3 k03)
 |false=>
  rw[z,kF (by decide)]at eY;refine iteT ⟨_,λ_ _ z=>z,?_⟩;refine(iV rfl (iM hY3.j.o rfl ⟨x,k,sh,sr,r,rl,pp,Y,rfl,hY3,ev,by lia,by lia,?_⟩));cases hr':Y.room k with
  |mk W o=>
   rw[hr']at eY;cases o with
   |error e=>cases eY;exact λH4 h4 k4=>kk H4 h4 (k03.trans k4)
   |ok p=>obtain⟨r1,r2⟩:=qEY hY.j.w hY.ru.ok hr';exact λv H4 h4 k4=>⟨n,rO _,rfl,W,h4,k03.trans k4,eY,by lia,by lia⟩)
theorem q2A(T:Txt K mg t)(S:Fns K t)(B:BmIn base mg):S.iW.OkE P w mg base 16 (spMr t):=by(
refine S.iW.F.okE q25 (λvs H Q E h=>?_) (λcdv A outer s H vs Q E hr h=>?_)
·repeat obtain⟨_,h⟩:=h
 all_goals subst_vars;rfl
obtain⟨x,k,sh,sr,r,rl,pp,X,i,Z,rfl,h⟩:=h
refine⟨_,(qD (qV (uA jC (pv 0) T.eW T.aAN (q29 T S B).mono hr S.iU.b .nil))),?_⟩
try dsimp-beta-proj-iota-zeta-eta only[wishK,cxK]
exact(iV rfl (iM h.1.j.o rfl ⟨x,k,sh,sr,r,rl,pp,X,i,Z,rfl,h⟩)))
noncomputable def qHI(t:Adr):Sp:=λvs H Q E=>∃x k sh sr r rl pp X,∃n v:Int,∃i Z,vs=[.ref x.s,.int n,.int v]∧XX t H x k sh sr r rl pp X∧k.ev=true∧X.s.rc.length+100*i+300<1000000∧X.ps.length+i<90000∧sh≤64∧inB (.int n) 0 (sh-1)=true∧inB (.int v) 0 (10 ^ 30-1)=true∧¬(hold X.s.q n=false∧sr≤((hdN X.s.q.V).length:Int))∧((∃p,(n,p)∈X.s.q.V)∨X.s.q.V.length<59)∧X.ask k i n v=some Z∧(match Z with
|(Y,.error e)=>∀H',XX t H' x k sh sr r rl pp Y→Keep (fx t x r pp) H H'→rfE t e E H'
|(Y,.ok p)=>∀H',XX t H' x k sh sr r rl pp Y→Keep (fx t x r pp) H H'→Q (.int (p:Int)) H')
theorem XX.lay{H H2:Hp}{x:Sto}{k:Tm}{sh sr:Int}{r:Addr}{rl:List Addr}{pp:Addr}{X Y:Sx}{i:Nat}{n v:Int}{Z:Sx×Except Rf Nat}(h:XX t H x k sh sr r rl pp X)(rc:X.s.rc.length+100*i+300<1000000)(hl:(∃p,(n,p)∈X.s.q.V)∨X.s.q.V.length<59)(hZ:X.ask k i n v=some Z)(hY:X.rooms k i=some (Y,.ok ()))(n0:0≤n)(n1:n≤64)(h2:XX t H2 x k sh sr r rl pp Y){Q:VK}{E:XK}
 (kk:match Z with
  |(Y,.error e)=>∀H',XX t H' x k sh sr r rl pp Y→Keep (t.eT::sf x) H2 H'→rfE t e E H'
  |(Y,.ok p)=>∀H',XX t H' x k sh sr r rl pp Y→Keep (t.eT::sf x) H2 H'→Q (.int (p:Int)) H'):qBW t [.ref x.s,.int n,.int v] H2 Q E:=by(
obtain⟨_,_,kp,r1,_,rd⟩:=q22 h.j.w h.ru.ok hY
have rd:=mV (rd rfl)
rw[dA,rD]at rd
unfold Sx.ask at hZ
rw[hY]at hZ
dsimp only at hZ
refine h2.j.set n0 n1 (by lia) (by lia) ?_ (λdk H' j' k'=>?_) (λdk H' j' k'=>?_)
·rw[kp.lV];exact hl.imp (λz=>(kp.nm n).mpr z) id
·rw[kI dk]at hZ;cases hZ;exact kk H' (h2.on k' j') k'
rw[kF dk]at hZ
cases hZ
exact kk H' (h2.on k' j') k')
theorem q1S(T:Txt K mg t)(S:Fns K t)(B:BmIn base mg):S.oR.OkE P w mg base 17 (qHI t):=by(
refine S.oR.F.okE q5J (λvs H Q E h=>?_) (λcdv A outer s H vs Q E hr h=>?_)
·repeat obtain⟨_,h⟩:=h
 all_goals subst_vars;rfl
obtain⟨x,k,sh,sr,r,rl,pp,X,n,v,i,Z,rfl,h,ev,rc,lp,sh64,z,w,ff,hl,hZ,kk⟩:=h
obtain⟨m,hs,c,_⟩:=h.j.e
refine⟨_,(qB (qV (j0 (pv 0) T.eW T.aAI (q1O T S).mono hr S.iN.b .nil qK (qA (pv 1) qF))) (qB (jE (yE (jR (qS (q9R T S).mono hr rfl T.aC6 T.aCY S.aBX.b .nil qK (qA (pv 2) qF)))) (qD j8) qQ) (qB (qV (j0 (pv 0) T.eW T.aAJ (q1P T S).mono hr S.iJ.b .nil qK (qA (pv 1) qF))) (qB (qV (uA jC (pv 0) T.eW T.aAV (q2A T S B).mono hr S.iW.b .nil)) (qD (qM (y7 jC (pv 0) T.eW T.aBW (q3D T S B).mono hr S.aAH.b .nil (qA (pv 1) (qA (pv 2) qF))))))))),?_⟩
try dsimp-beta-proj-iota-zeta-eta only[wishK,cxK]
refine(iV rfl (iM hs.o rfl ⟨_,rfl,x,.int sr,_,_,m,X.s.q,.int n,sh,rfl,hs,.int _,?_⟩))
rw[kI z]
obtain⟨n',e,n0,n1⟩:=qFO z
injection e with e
subst e
refine⟨_,rfl,.int v,rfl,.int _,_,rfl,?_⟩
rw[w]
refine iteF ?_
refine(iV rfl (iM hs.o rfl ⟨_,rfl,x,.int sh,_,_,m,X.s.q,n,sr,rfl,hs,c.ft,hd64 h.j.w,λH1 s1=>?_⟩))
rw[kF ff]
have h1:=h.same s1
have hZ':=hZ
unfold Sx.ask at hZ'
cases hR:X.rooms k i with
|none=>rw[hR]at hZ';cases hZ'
|some YR=>
 obtain⟨Y,o⟩:=YR;refine(iV rfl (iM h1.j.o rfl ⟨x,k,sh,sr,r,rl,pp,X,i,(Y,o),rfl,h1,ev,by lia,lp,hR,?_⟩));rw[hR]at hZ';cases o with
 |error e=>cases hZ';exact λH2 h2 k2=>kk H2 h2 ((Keep.same s1).trans k2)
 |ok u=>
  refine λH2 h2 k2=>?_;refine(iV rfl (iM h2.j.o rfl ⟨_,rfl,_,rfl,?_⟩));dsimp only[tNil,d3,g9,dQ];refine h.lay rc hl hZ hR n0 (by lia) h2 ?_;have mS:∀y∈t.eT::sf x,y∈fx t x r pp:=λy hy=>kC _ (kC _ (kC _ hy));obtain⟨W,o⟩:=Z;cases o with
  |error e=>exact λH3 h3 k3=>kk H3 h3 (((Keep.same s1).trans k2).trans (k3.mono mS))
  |ok p=>exact λH3 h3 k3=>kk H3 h3 (((Keep.same s1).trans k2).trans (k3.mono mS)))
section
variable{H H':Hp}{x:Sto}{k:Tm}{sh sr:Int}{r:Addr}{rl:List Addr}{pp:Addr}{X:Sx}
theorem XX.inF(h:XX t H x k sh sr r rl pp X):∀y∈fx t x r pp,∃o,H y=some o:=λy hy=>by(
rcases kM.mp hy with e|hy
·obtain⟨ps,e',_⟩:=h.hp;exact⟨_,by rw[e];exact e'⟩
rcases kM.mp hy with e|hy
·obtain⟨_,_,_,z⟩:=h.ru.ins;exact⟨_,by rw[e];exact z⟩
rcases kM.mp hy with e|hy
·obtain⟨ps,_,_,ps',z,_⟩:=h.j.tb;exact⟨_,by rw[e];exact z⟩
exact h.j.inH y hy)
end
structure KX(t:Adr)(H:Hp)(x:Sto)(k:Tm)(sh:Int)(sr:Nat)(r:Addr)(rl:List Addr)(pp:Addr)(X:Sx)(kd:Addr)(KD:Mp)(n:Nat):Prop where
h:XX t H x k sh (sr:Int) r rl pp X
d:Kd k sh sr X KD
hk:H kd=some (.dK (dI KD))
nk:kd∉x.a.li::fx t x r pp
nr:kd∉rl
rcn:X.s.rc.length≤300*n
psn:X.ps.length≤20*n
theorem qJN{H:Hp}{x:Sto}{k:Tm}{sh sr:Int}{r:Addr}{rl:List Addr}{pp:Addr}{B P:Nat}{g:Rl}(st:StAt t H x (.int sh) (.int sr) (.int (k.ie:Int)) (.int k.sp) (CM.new (B:Int) (P:Int) 1000000 []) (bk0 B P))(er:x.ru=.ref r)(ru:RuX t H r rl g)(of:Off t x (r::rl))(ep:x.pa=.ref pp)(hp:H pp=some (.lst []))(np:pp∉t.eT::sf x)(nr:pp∉r::rl)
 (b1:2≤B) (b2:B≤16) (p1:1≤P) (p2:P≤16) (w:WX k (newX B P)):XX t H x k sh sr r rl pp ⟨newX B P,g,[]⟩:=by(
have nok:(CM.new (B:Int) (P:Int) 1000000 []).Ok:=qIS (by lia) (by lia) (by lia) (by lia) (λb v e=>by cases e)
refine⟨⟨⟨_,st,⟨⟨nok,w.qs.ok,rfl,rfl⟩,?_,λb=>rfl,rfl,?_,rfl,rfl⟩,⟨λi _=>rep8,λi v e=>by cases e⟩⟩,w⟩,er,ru,of,ep,⟨[],hp,.nil⟩,np,nr⟩
·show List.replicate (B:Int).toNat false=_;rw[mI];rfl
show List.replicate (B:Int).toNat (0:Int)=_
rw[mI]
rfl)
theorem qJO{H7 H8 HM:Hp}{sA sd tm td ch pa:Addr}{ca:CA}{kb:BkA}{ru:V}{m:CM}{R:List Addr}{o1 o2 o3:HO}(hc:ChipAt t.C_Chip H7 ch ca m)(htm:H7 tm=some o1)(hT:H7 t.eT=some o2)(hB:H7 t.eU=some o3)(nR:∀u∈R,H7 u=none)(eR:∀u∈R,∃o,H8 u=some o)(nA:H8 sA=none)(sM:Same H8 HM)(fk:∀b∈bf kb,HM b=none):Off t ⟨sA,sd,tm,td,ch,ca,kb,ru,.ref pa⟩ R:=λy hy hu=>by(
obtain⟨o,e8⟩:=eR y hu
have n7:=nR y hu
have hy:y=sA∨y=tm∨y=ca.li∨y=t.eT∨y=t.eU∨y∈foot ch ca∨y∈bf kb:=by simpa[sf]using hy
rcases hy with h|h|h|h|h|h|h
·rw[h,nA]at e8;cases e8
·rw[h,htm]at n7;cases n7
·obtain⟨o',e',_⟩:=hc.has (show ca.li∈ca.li::foot ch ca by simp);rw[←h,n7]at e';cases e'
·rw[h,hT]at n7;cases n7
·rw[h,hB]at n7;cases n7
·obtain⟨o',e',_⟩:=hc.has (kC ca.li h);rw[n7]at e';cases e'
rw[Same.free sM (fk y h)]at e8;cases e8)
noncomputable def spSz(K:W.Frag):Sp:=λvs H Q _=>∃a ns,vs=[.ref a]∧SqL K H a (List.map V.int ns)∧∀c P i s:Nat,1≤c→c≤4→1≤P→P≤4→i≤2→1≤s→s+2≤c*P→NewO H (.lst [.int ((c+1+i:Nat):Int),.int (P:Int),.int (s:Int),.int (i:Int)]) Q
theorem q8E(T:Txt K mg t)(S:Fns K t):S.aBK.Ok0 P w mg base 2 (spSz K):=by(
refine S.aBK.F.ok0 yJ λcdv A _ s H vs Q E hr h=>?_
obtain⟨a,ns,rfl,hS,k⟩:=h
refine⟨_,(qB (qX (i:=1) yJ.nd rfl (Or.inl rfl) (qR uN qH (qR uD (qS (jV T S).mono hr rfl T.fI T.fK S.fP.b .nil qK (qA (pv 0) (qA qH qF))) qH))) (qB (qX (i:=2) yJ.nd rfl (Or.inl rfl) (qR uN qH (qR uD (qS (jV T S).mono hr rfl T.fI T.fK S.fP.b .nil qK (qA (pv 0) (qA qH qF))) qH))) (q4I (jE (qU q4U (qR vF (pv 2) (pv 1)) qH (qY _)) (qD (qX (i:=2) yJ.nd rfl (Or.inl rfl) qH)) qQ) (qB (qX (i:=3) yJ.nd rfl (Or.inl rfl) (qR uD (qS (jV T S).mono hr rfl T.fI T.fK S.fP.b .nil qK (qA (pv 0) (qA qH qF))) qH)) (qB (qX (i:=4) yJ.nd rfl (Or.inl rfl) (qR vE (qR vF (pv 2) (pv 1)) qH)) (q4I (jE (qU q0L (qR uD (qS (jV T S).mono hr rfl T.fI T.fK S.fP.b .nil qK (qA (pv 0) (qA qH qF))) qH) qH (qY _)) (qD (qX (i:=4) yJ.nd rfl (Or.inl rfl) (qR uN qH (qR uD (qR v7 (qS (jV T S).mono hr rfl T.fI T.fK S.fP.b .nil qK (qA (pv 0) (qA qH qF))) qH) (pv 4))))) qQ) (qD (qM (y6 (qA (qR uN (qR uN (pv 2) qH) (pv 3)) (qA (pv 1) (qA (pv 4) (qA (pv 3) qF))))))))))))),?_⟩
try dsimp-beta-proj-iota-zeta-eta only[wishK,cxK]
refine⟨_,rfl,a,ns,0,rfl,hS,by decide,_,_,rfl,rfl,(by show(0:Int)<4;decide),iI ?_⟩
refine⟨_,rfl,a,ns,1,rfl,hS,by decide,_,_,rfl,rfl,(by show(0:Int)<4;decide),iI ?_⟩
try dsimp only
have c0:=q07 (yD ns 0) 4 (by decide)
have c1:=q07 (yD ns 1) 4 (by decide)
obtain⟨P0,eP0⟩:∃n:Nat,1+yD ns 0%4=(n:Int):=⟨(1+yD ns 0%4).toNat,by lia⟩
obtain⟨c',ec⟩:∃n:Nat,1+yD ns 1%4=(n:Int):=⟨(1+yD ns 1%4).toNat,by lia⟩
rw[eP0,ec]
have hP1:1≤P0:=by lia
have hP2:P0≤4:=by lia
have hc1:1≤c':=by lia
have hc2:c'≤4:=by lia
clear c0 c1 eP0 ec
refine⟨λσ' H'=>∃c:Nat,σ'=[some (.ref a),some (.int (P0:Int)),some (.int (c:Int)),none,none]∧H=H'∧1≤c∧c≤4∧3≤c*P0,?_,?_⟩
·refine⟨_,rfl,_,rfl,iI ⟨.inl ⟨by lia,by lia⟩,iI ⟨_,rfl,?_⟩⟩⟩;refine ite2 (λz=>?_) (λz=>?_)
 ·exact⟨3,rfl,rfl,by decide,by decide,by lia⟩
 have z:¬(c':Int)*(P0:Int)<3:=λy=>z (hV y);rw[←dS]at z;exact⟨c',rfl,rfl,hc1,hc2,by lia⟩
rintro σ' _ ⟨c,rfl,rfl,p1,p2,cp⟩
refine⟨_,rfl,a,ns,2,rfl,hS,by decide,_,_,rfl,rfl,(by show(0:Int)<3;decide),?_⟩
have c2:=q07 (yD ns 2) 3 (by decide)
try dsimp only
obtain⟨i,ei⟩:∃n:Nat,yD ns 2%3=(n:Int):=⟨(yD ns 2%3).toNat,by lia⟩
rw[ei]
have hi:i≤2:=by lia
clear c2 ei
refine⟨_,rfl,_,rfl,iI ⟨.inl ⟨by lia,by lia⟩,iI ?_⟩⟩
try dsimp only
obtain⟨M,eM⟩:∃n:Nat,(c:Int)*(P0:Int)-2=(n:Int):=⟨c*P0-2,by rw[←dS];lia⟩
rw[eM]
have hM:M+2=c*P0:=by rw[←dS]at eM;lia
refine⟨λσ' H'=>∃s:Nat,σ'=[some (.ref a),some (.int (P0:Int)),some (.int (c:Int)),some (.int (i:Int)),some (.int (s:Int))]∧H=H'∧1≤s∧s≤M,?_,?_⟩
·refine⟨_,rfl,a,ns,3,rfl,hS,by decide,_,_,rfl,rfl,(by show(0:Int)<3;decide),rfl,_,rfl,?_⟩;refine ite2 (λz=>?_) (λz=>?_)
 ·refine⟨_,rfl,a,ns,3,rfl,hS,by decide,_,_,rfl,rfl,⟨by decide,by decide⟩,_,rfl,iI ⟨(by show(0:Int)<(M:Int);lia),iI ?_⟩⟩;have c3:=q07 (yD ns 3 / 3) (M:Int) (by lia);try dsimp only
  obtain⟨s,es⟩:∃n:Nat,1+yD ns 3 / 3%(M:Int)=(n:Int):=⟨(1+yD ns 3 / 3%(M:Int)).toNat,by lia⟩;rw[es];exact⟨s,rfl,rfl,by lia,by lia⟩
 exact⟨M,rfl,rfl,by lia,by lia⟩
rintro σ' _ ⟨s,rfl,rfl,s1,s2⟩
refine⟨_,rfl,iI ⟨_,rfl,iI ⟨_,rfl,_,rfl,_,rfl,sz4,?_⟩⟩⟩
exact k c P0 i s p1 p2 hP1 hP2 hi s1 (by lia))
noncomputable def spNm(K:W.Frag):Sp:=λvs H Q _=>∃a ns,∃sh:Nat,vs=[.ref a,.int (sh:Int)]∧SqL K H a (List.map V.int ns)∧sh≤14∧∀ms:List Int,ms.length=sh→(∀n∈ms,0≤n∧n<64)→NewO H (.lst (ms.map V.int)) Q
theorem q8F(T:Txt K mg t)(S:Fns K t):S.aBC.Ok0 P w mg base 2 (spNm K):=by(
refine S.aBC.F.ok0 q84 λcdv A _ s H vs Q E hr h=>?_
obtain⟨a,ns,sh,rfl,hS,s14,k⟩:=h
refine⟨_,(qD (qM (yY ["_law_script","_law_k"] [0] rfl (q6K rfl T.aBY (qA (pv 1) qF)) (λ_ _ _ _ _=>(qW (i:=1) (show List.Nodup (["_law_script","_law_k"]:List Str)from by decide) rfl (Or.inl rfl))) (λ_ _ _ _ _=>q2Z) (λ_ _ _ _ _=>(qR uD (qR uN (qS (jV T S).mono hr rfl T.fI T.fK S.fP.b .nil qK (qA (pv 0) (qA qH qF))) (qR vF qH (pv 1))) qH)) (by kernel_rfl) (y8 (by decide))))),?_⟩
try dsimp-beta-proj-iota-zeta-eta only[wishK,cxK]
refine⟨_,rfl,_,rfl,by lia,by lia,λD H2 nD s2 hD=>?_⟩
refine q75 (D:=D) (λi H3=>∃ms:List Int,Same H H3∧H3 D=some (.lst (ms.map V.int))∧ms.length=i∧∀n∈ms,0≤n∧n<64) ⟨[],s2,hD,rfl,by simp⟩ (λi H3 hi hp=>?_) (λH3 hp=>?_)
·obtain⟨ms,sm,hd,ln,bd⟩:=hp;have hi:i<sh:=by lia
 refine⟨_,rfl,a,ns,5,rfl,sm.seq hS,by decide,_,rfl,iI ⟨.inl ⟨by decide,by decide⟩,iI (iI ⟨(by show(0:Int)<64;decide),_,hd,?_,ms++[(yD ns 5+5*(0+(i:Int)))%64],λb o e=>?_,?_,?_,λn hn=>?_⟩)⟩⟩
 ·rw[h9];have:(16:Nat)<sizeLine:=by decide
  lia
 ·rw[qC (qG e nD)];exact sm _ _ e
 ·rw[qI,mW];rfl
 ·rw[kZ,ln];rfl
 rcases gH.mp hn with hn|hn
 ·exact bd n hn
 rw[kD.mp hn];exact q07 _ 64 (by decide)
obtain⟨ms,sm,hd,ln,bd⟩:=hp
exact k ms (by lia) bd D H3 nD sm hd)
noncomputable def spPk(K:W.Frag):Sp:=λvs H Q _=>∃l,∃ns:List Int,∃c:Int,vs=[.int c,.ref l]∧H l=some (.lst (ns.map V.int))∧1≤ns.length∧ns.length≤14∧∀n∈ns,Q (.int n) H
theorem q9V(T:Txt K mg t)(S:Fns K t):S.aCC.Ok0 P w mg base 1 (spPk K):=by(
refine S.aCC.F.ok0 q9N λcdv A _ s H vs Q E hr h=>?_
obtain⟨l,ns,c,rfl,hl,l1,l14,k⟩:=h
have at1:∀z:Int,0≤z→z<(ns.length:Int)→∃n∈ns,atI (ns.map V.int) z=some (.int n):=λz z0 z1=>by
 obtain⟨j,rfl⟩:=rG z0;have hj:j<ns.length:=by lia
 refine⟨ns[j],m7 hj,uR ?_⟩;rw[mG,hX hj];rfl
refine⟨_,(qB (jE (qU q0L (qR uD (pv 0) qH) qH (qY _)) (qD (qM (qZ jK (pv 1) (qR uD (qR v7 (pv 0) qH) (j9 jS (by rfl) T.aB7 rF (qA (pv 1) qF))) (λ_ _=>rfl)))) qQ) (qD (qM (qZ jK (pv 1) (qR uD (qR uD (qR v7 (pv 0) qH) qH) (j9 (q6N rfl) (by rfl) T.aD0 (by kernel_rfl) (qA qH (qA (j9 jS (by rfl) T.aB7 rF (qA (pv 1) qF)) qF)))) (λ_ _=>rfl))))),?_⟩
try dsimp-beta-proj-iota-zeta-eta only[wishK,cxK]
refine⟨_,rfl,iI ⟨(by show(0:Int)<8;decide),rfl,_,rfl,ite2 (λ_=>?_) (λ_=>?_)⟩⟩
·have mv:=q07 (c / 8) (ns.length:Int) (by lia);obtain⟨n,hn,e⟩:=at1 _ mv.1 mv.2;refine⟨_,rfl,_,rfl,iI ⟨⟨by decide,by decide⟩,_,rfl,l,_,rfl,.inl (SqL.of hl),?_⟩⟩;rw[h9];exact(iI ⟨(by show(0:Int)<(ns.length:Int);lia),iL (k:=_) (v:=.int n) (SqL.of hl) e (k n hn)⟩)
obtain⟨h,eh,h1,h2⟩:∃h:Int,(if((ns.length:Nat):Int)<2 then((ns.length:Nat):Int)else 2)=h∧1≤h∧h≤(ns.length:Int):=by
 by_cases z:((ns.length:Nat):Int)<2
 ·exact⟨_,kI z,by lia,by lia⟩
 exact⟨_,kF z,by lia,by lia⟩
have mv:=q07 (c / 8%6) h (by lia)
obtain⟨n,hn,e⟩:=at1 _ mv.1 (by lia)
refine⟨_,rfl,_,rfl,iI ⟨⟨by decide,by decide⟩,iI ⟨(by show(0:Int)<6;decide),_,rfl,l,_,rfl,.inl (SqL.of hl),?_⟩⟩⟩
rw[h9]
refine⟨_,_,rfl,?_⟩
rw[eh]
exact(iI ⟨(by show(0:Int)<h;lia),iL (k:=_) (v:=.int n) (SqL.of hl) e (k n hn)⟩))
noncomputable def qL4(t:Adr):Sp:=λvs H Q _=>∃x k sh sr s l us ms,∃B:Nat,vs=[.ref x.s,.ref l]∧XR t H x k sh sr s∧H l=some (.lst us)∧Paired (TupD H) us ms∧Pg8 s.q.P B ms∧s.q.P≤4∧B≤8∧NewO H (.lst ((tkL (tgt s.q.P ms)).map vn)) Q
theorem q9W{P:Nat}{ms:List (List Int)}{i:Nat}(hi:i<ms.length):tgt P (ms.take (i+1))=tgt P (ms.take i)++[(ms[i].getD 2 0).toNat / P]:=by unfold tgt;rw[←mL hi,mW];rfl
theorem q62(T:Txt K mg t)(S:Fns K t):S.tZ.Ok0 P w mg base 1 (qL4 t):=by(
refine S.tZ.F.ok0 q5M λcdv A _ s H vs Q E hr h=>?_
obtain⟨x,k,sh,sr,s,l,us,ms,B,rfl,j,hl,pr,pg,p4,b8,kk⟩:=h
have lu:=pr.len
have p1:=j.w.qs.ok.p1
obtain⟨g1,g2⟩:=qAO pg p4 b8
refine⟨_,(qD (qM (j9 (q35 rfl) (by rfl) T.aAL (by kernel_rfl) (qA (q1V (q74 rfl) (by rfl) T.aEC (by kernel_rfl) (qA (yY ["self","move"] [0] rfl (jN (pv 1)) (λ_ _ _ _ _=>(qW (i:=1) (show List.Nodup (["self","move"]:List Str)from by decide) rfl (Or.inl rfl))) (λ_ _ _ _ _=>q2Z) (λ_ _ _ _ _=>(qR v7 (qZ (vV (K:=K) rfl) (pv 1) qH (λ_ _=>rfl)) (yO (K:=K) rfl (yO (K:=K) rfl (pv 0) rfl) rfl))) (by kernel_rfl) (y8 (by decide))) qF)) qF)))),?_⟩
try dsimp-beta-proj-iota-zeta-eta only[wishK,cxK]
refine⟨_,rfl,l,rfl,⟨_,SqL.of hl⟩,λD H2 nD s2 hD=>?_⟩
refine q30 (K:=K) (xs:=us) (D:=D) (λi H3=>Same H H3∧H3 D=some (.lst ((tgt s.q.P (ms.take i)).map vn))) ⟨s2,hD⟩ (λi H3 hp=>SqL.of (hp.1 _ _ hl)) (λi y H3 hy hp=>?_) (λH3 hp=>?_)
·obtain⟨sm,hd⟩:=hp;obtain⟨m,hm,tp,rfl,htp⟩:=Paired.at pr hy;obtain⟨hi,em⟩:=kB.mp hm;obtain⟨n,p,y,e2,lt⟩:=pg.2 m (em▸m7 hi);obtain⟨_,hs,c,_⟩:=(j.same sm).e;refine⟨_,rfl,iT (k:=_) (v:=_) (SqT.of (sm _ _ htp)) (by rw[e2];rfl) (iV rfl (iF hs.o T.eW T.fA rfl (iF hs.te T.fE T.fD rfl ?_)))⟩;rw[c.ft.eP];refine(iI ⟨⟨by lia,by lia⟩,_,hd,?_,λb o e=>?_,?_⟩)
 ·rw[h9];have:(16:Nat)<sizeLine:=by decide
  have:(tgt s.q.P (ms.take i)).length≤ms.length:=by unfold tgt;rw[h9,mZ];lia
  have:=pg.1;lia
 ·rw[qC (qG e nD)];exact sm _ _ e
 rw[qI,q9W hi,mW,em,e2];show some (HO.lst (_++[V.int ((y:Int) / (s.q.P:Int))]))=some (HO.lst (_++[V.int (((y:Nat) / s.q.P:Nat):Int)]));rw[dG]
obtain⟨sm,hd⟩:=hp
rw[lu,gC]at hd
refine⟨D,tgt s.q.P ms,rfl,SqL.of hd,g1,g2,λa H4 na s4 ha=>?_⟩
refine⟨a,_,rfl,ha,qAP pg p4 b8,λp H5 np s5 hp5=>?_⟩
exact kk p H5 (sm.free (s4.free np)) (sm.trans (s4.trans s5)) hp5)
noncomputable def ChN(H H':Hp)(D:Addr)(v:V)(q:Nat×List Nat):Prop:=∃a l,v=.ref a∧H' a=some (.tup [.int (q.1:Int),.ref l])∧H' l=some (.lst (q.2.map vn))∧H l=none∧l≠D
noncomputable def qHJ(t:Adr):Sp:=λvs H Q _=>∃x k sh sr r rl pp X,vs=[.ref x.s]∧XX t H x k sh sr r rl pp X∧M8 X.s.q.P X.s.q.B X.ps∧X.s.q.P≤4∧X.s.q.B≤8∧X.ps.length<90000∧∀D us H',H D=none→Same H H'→H' D=some (.lst us)→Paired (ChN H H' D) us (chL X.s.q.P X.ps)→Q (.ref D) H'
theorem v5(T:Txt K mg t)(S:Fns K t):S.iR.Ok0 P w mg base 2 (qHJ t):=by(
refine S.iR.F.ok0 q45 λcdv A _ s H vs Q E hr h=>?_
obtain⟨x,k,sh,sr,r,rl,pp,X,rfl,h,m8,p4,b8,lp,kk⟩:=h
obtain⟨ps,h1,h2⟩:=h.hp
refine⟨_,(qD (qM (yY ["self","paper"] [0] rfl (jN (qJ (pv 0) rfl)) (λ_ _ _ _ _=>(qW (i:=1) (show List.Nodup (["self","paper"]:List Str)from by decide) rfl (Or.inl rfl))) (λ_ _ _ _ _=>(uS (qU q0L (qZ (vV (K:=K) rfl) (pv 1) qH (λ_ _=>rfl)) q0Q (qY _)))) (λ_ _ _ _ _=>(yX (qA (qZ (vV (K:=K) rfl) (pv 1) qH (λ_ _=>rfl)) (qA (j0 (pv 0) T.eW T.aB5 (q62 T S).mono hr S.tZ.b .nil qK (qA (qZ (vV (K:=K) rfl) (pv 1) qH (λ_ _=>rfl)) qF)) qF)))) (by kernel_rfl) (y8 (by decide))))),?_⟩
try dsimp-beta-proj-iota-zeta-eta only[wishK,cxK]
obtain⟨_,hs,_⟩:=h.j.e
refine(iV rfl (iF hs.o T.eW T.iP rfl ⟨pp,h.ep,⟨_,SqL.of h1⟩,λD H2 nD s2 hD=>?_⟩))
refine vG (K:=K) (xs:=ps) (D:=D) (λi H3=>∃us,Same H H3∧H3 D=some (.lst us)∧Paired (ChN H H3 D) us (chL X.s.q.P (X.ps.take i))) ⟨_,s2,hD,.nil⟩ (λi H3 hp=>by obtain⟨_,sm,_⟩:=hp;exact SqL.of (sm _ _ h1)) (λi y H3 hy hp=>?_) (λH3 hp=>?_)
·obtain⟨us,sm,hd,pd⟩:=hp;obtain⟨q,hq,pa,l1,l2,us2,rs2,rfl,hpa,_,_,hl2,pr2,_⟩:=Paired.at h2 hy;obtain⟨hi,rfl⟩:=kB.mp hq;refine⟨_,rfl,iT (k:=_) (v:=_) (SqT.of (sm _ _ hpa)) rfl ⟨rfl,_,rfl,?_⟩⟩;rw[q9I hi];by_cases z:X.ps[i].why=Str.ofString "even"
 ·rw[show decide (V.str X.ps[i].why=V.str (Str.ofString "even"))=true from hV (by rw[z]),kI z];refine iteT ⟨_,rfl,iT (k:=_) (v:=_) (SqT.of (sm _ _ hpa)) rfl ⟨_,rfl,x.s,x.sd,_,rfl,sm _ _ hs.o,rfl,_,rfl,iT (k:=_) (v:=_) (SqT.of (sm _ _ hpa)) rfl ⟨x,k,sh,sr,X.s,l2,us2,X.ps[i].mv,X.s.q.B,rfl,h.j.same sm,sm _ _ hl2,Paired.mapP pr2 λv d ⟨p',e',h'⟩=>⟨p',e',sm _ _ h'⟩,m8 _ (m7 hi),p4,b8,λl H4 nl s4 hl4=>⟨sz2,λa H5 na s5 ha=>⟨us,s5 _ _ (s4 _ _ hd),?_,us++[.ref a],λb o e=>?_,qI,?_⟩⟩⟩⟩⟩
  ·have:=pd.len;have:=qAQ (P:=X.s.q.P) (ps:=X.ps.take i);rw[mZ]at this;have:(99999:Nat)<sizeLine:=by decide
   lia
  ·rw[qC (qG e nD)];exact s5 _ _ (s4 _ _ (sm _ _ e))
  have d5:H5 D=some (.lst us):=s5 _ _ (s4 _ _ hd);refine L2.Paired.snoc (Paired.mapP pd λv d ⟨a',l',e1,e2,e3,e4,e5⟩=>⟨a',l',e1,?_,?_,e4,e5⟩) ⟨a,l,rfl,?_,?_,sm.free nl,λz=>by rw[z,hd]at nl;cases nl⟩
  ·rw[qC (λz=>by rw[z,hd]at e2;cases e2)];exact s5 _ _ (s4 _ _ e2)
  ·rw[qC e5];exact s5 _ _ (s4 _ _ e3)
  ·rw[qC (λz=>by rw[z,d5]at ha;cases ha)];exact ha
  rw[qC (λz=>by rw[z,hd]at nl;cases nl)];exact s5 _ _ hl4
 rw[show decide (V.str X.ps[i].why=V.str (Str.ofString "even"))=false from kE (λy=>z (V.str.inj y)),kF z,dQ];exact iteF ⟨us,sm,hd,pd⟩
obtain⟨us,sm,hd,pd⟩:=hp
rw[h2.len,gC]at pd
exact kk D us H3 nD sm hd pd)
noncomputable def spMd(t:Adr):Sp:=λvs H Q _=>∃x k sh sr r rl pp X Y rr,vs=[.ref x.s]∧XX t H x k sh sr r rl pp X∧k.ev=true∧X.s.rc.length+200<1000000∧X.ps.length<90000∧X.room k=(Y,rr)∧(∀e,rr=.error e→e=.room)∧∀b H',XX t H' x k sh sr r rl pp Y→Keep (fx t x r pp) H H'→Q (.bl b) H'
theorem q9X(T:Txt K mg t)(S:Fns K t)(B:BmIn base mg):S.aB3.Ok0 P w mg base 15 (spMd t):=by(
refine S.aB3.F.ok0 q1N λcdv A _ s H vs Q E hr h=>?_
obtain⟨x,k,sh,sr,r,rl,pp,X,Y,rr,rfl,h,ev,rc,lp,er,ne,kk⟩:=h
refine⟨_,(qB (qX (i:=1) q1N.nd rfl (Or.inl rfl) q0K) (qB (qIP (λpins XE ES tk1 po1=>(qD (qV (uA tk1 (pv 0) T.eW T.oX (vT T S B).mono hr S.f7.b .nil)))) (qFM (λea=>(q1U rfl T.aCQ rfl (v:=.ref t.C_NoRoom))) rfl (λea=>(qD (qX (i:=1) q1N.nd rfl (Or.inl rfl) q0K))) (qIO q0W))) (qD (qM (pv 1))))),?_⟩
try dsimp-beta-proj-iota-zeta-eta only[wishK,cxK]
refine(iV rfl (iM h.j.o rfl ⟨x,k,sh,sr,r,rl,pp,X,rfl,h,ev,rc,lp,?_⟩))
rw[er]
cases rr with
|error e=>obtain rfl:=ne e rfl;refine λH' h' k'=>?_;intro ea hea;exact⟨_,T.aA5,iteT ⟨_,rfl,kk _ _ h' k'⟩⟩
|ok p=>exact λv H6 h6 k6=>⟨_,rfl,kk _ _ h6 k6⟩)
noncomputable def spDu(K:W.Frag):Sp:=λvs H Q _=>∃pp ps F qs,∃P B:Nat,vs=[.ref pp,.int (P:Int)]∧H pp=some (.lst ps)∧Paired (PapA H F) ps qs∧M8 P B qs∧1≤P∧P≤4∧B≤8∧qs.length<90000∧∀D us H',H D=none→Same H H'→H' D=some (.lst us)→Paired (ChN H H' D) us (chL P qs)→Q (.ref D) H'
theorem qAV(T:Txt K mg t)(S:Fns K t):S.aC3.Ok0 P w mg base 1 (spDu K):=by(
refine S.aC3.F.ok0 q2T λcdv A _ s H vs Q E hr h=>?_
obtain⟨pp,ps,F,qs,P,B,rfl,h1,h2,m8,p1,p4,b8,lp,kk⟩:=h
refine⟨_,(qB (qX (i:=2) q2T.nd rfl (Or.inl rfl) (y6 qF)) (qB (vD dD rfl (jN (pv 0)) (qW (i:=3) q2T.nd rfl (Or.inl rfl)) (qD (jE (qU q0L (qZ jX (pv 3) qH (λ_ _=>rfl)) q0Q (qY _)) (qD (qV (q8N dH rB rC vB (pv 2) (qA (yX (qA (qZ jX (pv 3) qH (λ_ _=>rfl)) (qA (j9 (q35 rfl) (by rfl) T.aAL (by kernel_rfl) (qA (q1V (q74 rfl) (by rfl) T.aEC (by kernel_rfl) (qA (yY ["_law_pages","_law_move"] [1] rfl (jN (qZ jX (pv 3) qH (λ_ _=>rfl))) (λ_ _ _ _ _=>(qW (i:=1) (show List.Nodup (["_law_pages","_law_move"]:List Str)from by decide) rfl (Or.inl rfl))) (λ_ _ _ _ _=>q2Z) (λ_ _ _ _ _=>(qR v7 (qZ (vV (K:=K) rfl) (pv 1) qH (λ_ _=>rfl)) (pv 0))) (by kernel_rfl) (y8 (by decide))) qF)) qF)) qF))) qF q2Y)))) qQ))) (qD (qM (pv 2))))),?_⟩
try dsimp-beta-proj-iota-zeta-eta only[wishK,cxK]
have sz:(99999:Nat)<sizeLine:=by decide
refine⟨sz0,λD H1 nD s1 hD=>?_⟩
refine⟨_,rfl,pp,rfl,⟨_,SqL.of (s1 _ _ h1)⟩,?_⟩
refine q23 (K:=K) (xs:=ps) (λi σ' H3=>∃y us,σ'=[some (.ref pp),some (.int (P:Int)),some (.ref D),y]∧Same H H3∧H3 D=some (.lst us)∧Paired (ChN H H3 D) us (chL P (qs.take i))) ⟨_,_,rfl,s1,hD,.nil⟩ (λi σ' H3 _ hp=>by obtain⟨_,_,_,sm,_⟩:=hp;exact SqL.of (sm _ _ h1)) (λi v σ' H3 D' nxt hv hp=>?_) (λσ' H3 hp=>?_)
·obtain⟨y,us,rfl,sm,hd,pd⟩:=hp;obtain⟨q,hq,pa,l1,l2,us2,rs2,rfl,hpa,_,_,hl2,pr2,_⟩:=Paired.at h2 hv;obtain⟨hi,rfl⟩:=kB.mp hq;have pg:=m8 _ (m7 hi);obtain⟨g1,g2⟩:=qAO pg p4 b8;have lu:=pr2.len;refine⟨_,rfl,iT (k:=_) (v:=_) (SqT.of (sm _ _ hpa)) rfl ⟨rfl,_,rfl,?_⟩⟩;rw[q9I hi]at nxt;by_cases z:qs[i].why=Str.ofString "even"
 ·rw[show decide (V.str qs[i].why=V.str (Str.ofString "even"))=true from hV (by rw[z])];rw[kI z]at nxt;refine iteT ?_;refine⟨_,rfl,.inl ⟨rfl,_,SqL.of hd⟩,_,rfl,iT (k:=_) (v:=_) (SqT.of (sm _ _ hpa)) rfl ⟨_,rfl,iT (k:=_) (v:=_) (SqT.of (sm _ _ hpa)) rfl ⟨l2,rfl,⟨_,SqL.of (sm _ _ hl2)⟩,λE2 H4 nE s4 hE=>?_⟩⟩⟩;refine q30 (K:=K) (xs:=us2) (D:=E2) (λi' H5=>Same H3 H5∧H5 E2=some (.lst ((tgt P (qs[i].mv.take i')).map vn))) ⟨s4,hE⟩ (λi' H5 hp=>SqL.of (hp.1 _ _ (sm _ _ hl2))) (λi' y' H5 hy hp=>?_) (λH5 hp=>?_)
  ·obtain⟨s5,h5⟩:=hp;obtain⟨m,hm,tp,rfl,htp⟩:=Paired.at pr2 hy;obtain⟨hi',em⟩:=kB.mp hm;obtain⟨n,p,yy,e2,lt⟩:=pg.2 m (em▸m7 hi');refine⟨_,rfl,iT (k:=_) (v:=_) (SqT.of (s5 _ _ (sm _ _ htp))) (by rw[e2];rfl) ⟨_,rfl,iI ⟨⟨by lia,by lia⟩,_,h5,?_,λb o e=>?_,?_⟩⟩⟩
   ·rw[h9];have:(tgt P (qs[i].mv.take i')).length≤qs[i].mv.length:=by unfold tgt;rw[h9,mZ];lia
    have:=pg.1;lia
   ·rw[qC (qG e nE)];exact s5 _ _ e
   rw[qI,q9W hi',mW,em,e2];show some (HO.lst (_++[V.int ((yy:Int) / (P:Int))]))=some (HO.lst (_++[V.int (((yy:Nat) / P:Nat):Int)]));rw[dG]
  obtain⟨s5,h5⟩:=hp;rw[lu,gC]at h5;refine⟨E2,tgt P qs[i].mv,rfl,SqL.of h5,g1,g2,λa H6 na s6 ha=>?_⟩;refine⟨a,_,rfl,ha,qAP pg p4 b8,λl H7 nl s7 hl7=>?_⟩;have s37:=s5.trans (s6.trans s7);refine⟨sz2,λa2 H8 na2 s8 ha2=>⟨D,us,_,rfl,rfl,s8 _ _ (s37 _ _ hd),?_,nxt _ _ ⟨_,us++[.ref a2],rfl,λb o e=>?_,qI,?_⟩⟩⟩
  ·have:=pd.len;have:=qAQ (P:=P) (ps:=qs.take i);rw[mZ]at this;lia
  ·rw[qC (qG e nD)];exact s8 _ _ (s37 _ _ (sm _ _ e))
  have d8:H8 D=some (.lst us):=s8 _ _ (s37 _ _ hd);have lD:l≠D:=λz=>by rw[z,s6 _ _ (s5 _ _ hd)]at nl;cases nl
  refine L2.Paired.snoc (Paired.mapP pd λv d ⟨a',l',e1,e2,e3,e4,e5⟩=>⟨a',l',e1,?_,?_,e4,e5⟩) ⟨a2,l,rfl,?_,?_,sm.free (s5.free (s6.free nl)),lD⟩
  ·rw[qC (λz=>by rw[z,hd]at e2;cases e2)];exact s8 _ _ (s37 _ _ e2)
  ·rw[qC e5];exact s8 _ _ (s37 _ _ e3)
  ·rw[qC (λz=>by rw[z,d8]at ha2;cases ha2)];exact ha2
  rw[qC lD];exact s8 _ _ hl7
 rw[show decide (V.str qs[i].why=V.str (Str.ofString "even"))=false from kE (λy=>z (V.str.inj y))];rw[kF z,dQ]at nxt;exact iteF (nxt _ _ ⟨_,us,rfl,sm,hd,pd⟩)
obtain⟨y,us,rfl,sm,hd,pd⟩:=hp
rw[h2.len,gC]at pd
exact⟨_,rfl,kk D us H3 nD sm hd pd⟩)
noncomputable def ChR(H:Hp)(v:V)(q:Nat×List Nat):Prop:=∃a l,v=.ref a∧H a=some (.tup [.int (q.1:Int),.ref l])∧H l=some (.lst (q.2.map vn))
theorem ChR.eqv{H:Hp}{u v:V}{q:Nat×List Nat}(h:ChR H u q)(g:ChR H v q):Eqv K H 5 u v:=by(
obtain⟨a,l,rfl,h1,h2⟩:=h
obtain⟨b,m,rfl,g1,g2⟩:=g
refine .tup (SqT.of h1) (SqT.of g1) rfl λj x y hx hy=>?_
match j with
|0=>cases hx;cases hy;exact .flat rfl
|1=>cases hx;cases hy;refine .lst (SqL.of h2) (SqL.of g2) rfl λj x y hx hy=>?_;obtain rfl:x=y:=kU (hx.symm.trans hy);rw[mG]at hx;obtain⟨n,_,rfl⟩:=mO.mp hx;exact .flat rfl
|j+2=>cases hx)
noncomputable def spRt(K:W.Frag):Sp:=λvs H Q _=>∃D E us vs',∃qs:List (Nat×List Nat),vs=[.ref D,.ref E]∧H D=some (.lst us)∧H E=some (.lst vs')∧Paired (ChR H) us qs∧Paired (ChR H) vs' qs∧(∀q∈qs,q.2.length≤4)∧∀H',Same H H'→Q (.bl true) H'
theorem q3F(T:Txt K mg t)(S:Fns K t):S.aAM.Ok0 P w mg base 2 (spRt K):=by(
refine S.aAM.F.ok0 q3A λcdv A _ s H vs Q E hr h=>?_
obtain⟨D,E,us,vs',qs,rfl,hD,hE,p1,p2,l4,kk⟩:=h
have eq0:Eqv K H 6 (.ref D) (.ref E):=.lst (SqL.of hD) (SqL.of hE) (p1.len.trans p2.len.symm) λj x y hx hy=>by obtain⟨q,hq,c1⟩:=Paired.at p1 hx;obtain⟨q',hq',c2⟩:=Paired.at p2 hy;rw[hq]at hq';cases hq';exact c1.eqv c2
have lu:=p1.len
have sz:(16:Nat)<sizeLine:=by decide
refine⟨_,(qB (jE (PW.pt (qAY (yE (jR (j9 yF (by rfl) T.fT (by kernel_rfl) (qA (pv 0) (qA (q02 rfl T.aDF (by kernel_rfl) rfl (v:=.ty "list")) qF))))) (q9Y (qU (qIT hr.units) (pv 0) (pv 1) (qY _))))) (qD (qM q0K)) qQ) (qB (vD dD rfl (jN (pv 0)) (qW (i:=2) q3A.nd rfl (Or.inl rfl)) (qB (jE (PW.pt (qAY (yE (jR (j9 yF (by rfl) T.fT (by kernel_rfl) (qA (pv 2) (qA (q02 rfl T.aD7 (by kernel_rfl) rfl (v:=.ty "tuple")) qF))))) (qAY (yE (jR (qS (q3B T S).mono hr rfl T.aAX T.aA0 S.aAK.b .nil qK (qA (qZ jX (pv 2) qH (λ_ _=>rfl)) qF)))) (q9Y (yE (jR (j9 yF (by rfl) T.fT (by kernel_rfl) (qA (qZ jX (pv 2) qH (λ_ _=>rfl)) (qA (q02 rfl T.aDF (by kernel_rfl) rfl (v:=.ty "list")) qF))))))))) (qD (qM q0K)) qQ) (qD (jE (qU q8L (j9 jS (by rfl) T.aB7 rF (qA (yY ["_law_block"] [] rfl (jN (qZ jX (pv 2) qH (λ_ _=>rfl))) (λ_ _ _ _ _=>(qW (i:=0) (show List.Nodup (["_law_block"]:List Str)from by decide) rfl (Or.inl rfl))) (λ_ _ _ _ _=>(uS (jR (qS (q3B T S).mono hr rfl T.aAX T.aA0 S.aAK.b .nil qK (qA (pv 0) qF))))) (λ_ _ _ _ _=>(pv 0)) (by kernel_rfl) (y8 (by decide))) qF)) (j9 jS (by rfl) T.aB7 rF (qA (qZ jX (pv 2) qH (λ_ _=>rfl)) qF)) (qY _)) (qD (qM q0K)) qQ)))) (qD (qM q0K)))),?_⟩
try dsimp-beta-proj-iota-zeta-eta only[wishK,cxK]
refine⟨_,rfl,.ref D,_,_,.type "list",_,rfl,rfl,.inl (.lst hD),qDK,_,rfl,iteF ?_⟩
refine⟨_,rfl,_,rfl,eq0,_,rfl,iteF ?_⟩
refine⟨_,rfl,D,rfl,⟨_,SqL.of hD⟩,?_⟩
refine q23 (K:=K) (xs:=us) (λi σ' H3=>(∃y,σ'=[some (.ref D),some (.ref E),y])∧Same H H3) ⟨⟨_,rfl⟩,Same.refl _⟩ (λi σ' H3 _ hp=>SqL.of (hp.2 _ _ hD)) (λi v σ' H3 D' nxt hv hp=>?_) (λσ' H3 hp=>?_)
·obtain⟨⟨y,rfl⟩,sm⟩:=hp;obtain⟨q,hq,a,l,rfl,ha,hl⟩:=Paired.at p1 hv;have ll:=l4 q (gE hq);have ha3:=sm _ _ ha;have hl3:=sm _ _ hl;refine⟨_,rfl,.ref a,_,_,.type "tuple",_,rfl,rfl,.inl (.tup ha3),qIL,_,rfl,iteF ?_⟩;refine⟨_,rfl,iT (k:=0) (v:=_) (SqT.of ha3) rfl ⟨_,rfl,.int _,_,rfl,iteF ?_⟩⟩;refine⟨_,rfl,iT (k:=1) (v:=_) (SqT.of ha3) rfl ⟨.ref l,_,_,.type "list",_,rfl,rfl,.inl (.lst hl3),qDK,_,rfl,iteF ?_⟩⟩;refine⟨_,rfl,iT (k:=1) (v:=_) (SqT.of ha3) rfl ⟨l,rfl,⟨_,SqL.of hl3⟩,λD2 H4 nD s4 hD2=>?_⟩⟩;refine vG (K:=K) (xs:=q.2.map vn) (D:=D2) (λi H5=>Same H3 H5∧H5 D2=some (.lst ((q.2.map vn).take i))) ⟨s4,hD2⟩ (λi H5 hp=>SqL.of (hp.1 _ _ hl3)) (λi v H5 hv hp=>?_) (λH5 hp=>?_)
 ·obtain⟨s5,h5⟩:=hp;obtain⟨hi,ev⟩:=kB.mp hv;have ew:v=.int ((q.2[i]'(by rw[h9]at hi;exact hi):Nat):Int):=by rw[←ev,pO];rfl
  subst ew;refine⟨_,rfl,_,rfl,.int _,_,rfl,iteT ⟨_,rfl,_,h5,?_,λb o e=>?_,?_⟩⟩
  ·rw[mZ,h9];lia
  ·rw[qC (qG e nD)];exact s5 _ _ e
  rw[qI,←mL hi,ev]
 obtain⟨s5,h5⟩:=hp;rw[gC]at h5;refine⟨D2,_,rfl,.inl (SqL.of h5),_,rfl,iT (k:=1) (v:=_) (SqT.of (s5 _ _ ha3)) rfl ⟨l,_,rfl,.inl (SqL.of (s5 _ _ hl3)),rfl,_,rfl,?_⟩⟩;rw[q0X,hV rfl];exact iteF (nxt _ _ ⟨⟨_,rfl⟩,sm.trans s5⟩)
obtain⟨⟨y,rfl⟩,sm⟩:=hp
exact kk H3 sm)
noncomputable def RE(H H':Hp):Prop:=∀b o,(∀ps,o≠ .tbl ps)→H b=some o→H' b=some o
theorem RE.keep{H Hi Hj:Hp}{F:List Addr}(r:RE H Hi)(k:Keep F Hi Hj)(f:∀b∈F,H b=none∨∃ps,H b=some (.tbl ps)):RE H Hj:=λb o nb e=>k.k b o (λz=>by
 rcases f b z with z|⟨ps,z⟩
 ·rw[z]at e;cases e
 rw[z]at e;exact nb ps (kU e).symm) (r b o nb e)
theorem RE.same{H Hi Hj:Hp}(r:RE H Hi)(s:Same Hi Hj):RE H Hj:=λb o nb e=>s b o (r b o nb e)
theorem RE.sq{H Hi:Hp}{sa:Addr}{xs:List V}(r:RE H Hi)(h:SqL K H sa xs):SqL K Hi sa xs:=by(
rcases h with(h|⟨ob,h⟩)|h
·exact .inl (.inl (r _ _ (λ_ z=>by cases z) h))
·exact .inl (.inr ⟨ob,r _ _ (λ_ z=>by cases z) h⟩)
exact .inr h)
theorem qF9{α:Type}[DecidableEq α]:∀{l m:List α},l.Nodup→(∀x∈l,x∈m)→l.length≤m.length
| [],_,_,_=>mM _
|a::l,m,nd,h=>by obtain⟨n1,n2⟩:=mY.mp nd;have am:=h a kX;have:=qF9 (l:=l) (m:=m.erase a) n2 λx hx=>(xH (λz=>n1 (by rw[←z];exact hx))).mpr (h x (kC _ hx));rw[nK am]at this;have:=pH am;rw[mC];lia
theorem qJP(T:Txt K mg t)(S:Fns K t)(B:BmIn base mg):S.law.Ok0 P w mg base 18 (q3N K [t.eT,t.eU]):=by(
refine S.law.F.ok0 u9 λcdv A _ s H vs Q E hr h=>?_
obtain⟨a,ns,rfl,hS,hlen,hT0,k⟩:=h
have hT:H t.eT=some (.tbl #[]):=hT0 _ (by simp)
have hTB:H t.eU=some (.tbl #[]):=hT0 _ (by simp)
have hu:=q6Z hr
have s9:(99999:Nat)<sizeLine:=by decide
refine⟨_,(qB (q3H (qS (q8E T S).mono hr rfl T.aCG T.aCI S.aBK.b .nil qK (qA (pv 0) qF)) (qJ4 rfl (yU (qW (i:=1) u9.nd rfl (Or.inl rfl)) (yU (qW (i:=2) u9.nd rfl (Or.inl rfl)) (yU (qW (i:=3) u9.nd rfl (Or.inl rfl)) (yU (qW (i:=4) u9.nd rfl (Or.inl rfl)) q4D)))))) (qB (qX (i:=5) u9.nd rfl (Or.inl rfl) (qR uN qH (qR uD (qS (jV T S).mono hr rfl T.fI T.fK S.fP.b .nil qK (qA (pv 0) (qA qH qF))) qH))) (qB (qX (i:=6) u9.nd rfl (Or.inl rfl) (q4G T.aD5 (q88 T S).mono hr rfl T.aD8 S.aCB S.aB8 qK (qA (pv 1) (qA (pv 2) qF)))) (qB (qX (i:=7) u9.nd rfl (Or.inl rfl) (q4G T.aD9 (q6F T S).mono hr rfl T.aEB S.aAQ.b .nil qK (qA (pv 6) (qA (q4G T.aDY (q6C T S).mono hr rfl T.aD2 S.aCP .nil qK (qA (pv 1) (qA (pv 2) (qA qH (qA (pv 3) (qA (pv 4) (qA (pv 5) qF))))))) (qA (qIU T.aDL rfl T.aDP) qF))))) (qB (qX (i:=8) u9.nd rfl (Or.inl rfl) (qS (q8F T S).mono hr rfl T.aCT T.aCO S.aBC.b .nil qK (qA (pv 0) (qA (pv 3) qF)))) (qB (vD dD rfl (jN (pv 8)) (qW (i:=9) u9.nd rfl (Or.inl rfl)) (qD (qV (y7 q0W (pv 7) T.eW T.aA3 (q1S T S B).mono hr S.oR.b .nil (qA (pv 9) (qA qH qF)))))) (qB (jE (qU (qJ0 hr.units) (qT (pv 7) T.eW T.oK (v5 T S).mono hr S.iR.b .nil qK) (y6 qF) (qY _)) (qD (qM q0K)) qQ) (qB (vD dD rfl (q6L rfl T.aBY (qA qH (qA (j9 (q6N rfl) (by rfl) T.aD0 (by kernel_rfl) (qA (j9 jS (by rfl) T.aB7 rF (qA (pv 0) qF)) (qA qH qF))) qF))) (qW (i:=10) u9.nd rfl (Or.inl rfl)) (qB (qX (i:=11) u9.nd rfl (Or.inl rfl) (qZ jK (pv 0) (pv 10) (λ_ _=>rfl))) (qD (jE (qU q0L (qR uD (pv 11) qH) qH (qY _)) (qD (qV (qS (q9X T S B).mono hr rfl T.aC4 T.aC9 S.aB3.b .nil qK (qA (pv 7) qF)))) (qD (qV (y7 q0W (pv 7) T.eW T.aA3 (q1S T S B).mono hr S.oR.b .nil (qA (qS (q9V T S).mono hr rfl T.aDB T.aC0 S.aCC.b .nil qK (qA (qR uD (qR vF (qR uN (pv 11) (pv 10)) qH) qH) (qA (pv 8) qF))) (qA (qR uD (pv 11) (qR qCY qH qH)) qF))))))))) (qB (qX (i:=12) u9.nd rfl (Or.inl rfl) (qS (qAV T S).mono hr rfl T.aDI T.aDN S.aC3.b .nil qK (qA (qJ (pv 7) rfl) (qA (pv 2) qF)))) (qB (qX (i:=13) u9.nd rfl (Or.inl rfl) (qT (pv 7) T.eW T.oK (v5 T S).mono hr S.iR.b .nil qK)) (qB (jE (yE (jR (qS (q3F T S).mono hr rfl T.aA2 T.aA1 S.aAM.b .nil qK (qA (pv 13) (qA (pv 12) qF))))) (qD (qM q0K)) qQ) (qB (vD dD rfl (jN (pv 13)) (qW (i:=14) u9.nd rfl (Or.inl rfl)) (qD (qV (q8N dH rB rC vB (qZ jX (pv 14) qH (λ_ _=>rfl)) (qA qH qF))))) (qB (qV (qDC dH PySem.F.slot_list_clear PySem.F.type_list_clear qDE (pv 13))) (qD (qM (qS (q3F T S).mono hr rfl T.aA2 T.aA1 S.aAM.b .nil qK (qA (qT (pv 7) T.eW T.oK (v5 T S).mono hr S.iR.b .nil qK) (qA (pv 12) qF)))))))))))))))))),?_⟩
try dsimp-beta-proj-iota-zeta-eta only[wishK,cxK]
refine⟨_,rfl,a,ns,rfl,hS,λc P1 i sh hc1 hc4 hP1 hP2 hi2 hs1 hs2 p0 H1 n0 s1 h1=>?_⟩
refine⟨p0,_,rfl,SqL.of h1,rfl,_,_,rfl,_,_,rfl,_,_,rfl,_,_,rfl,rfl,?_⟩
have hcp:c*P1≤4*4:=Nat.mul_le_mul hc4 hP2
have sh14:sh≤14:=by lia
refine⟨_,rfl,a,ns,4,rfl,s1.seq hS,by decide,_,_,rfl,rfl,(by show(0:Int)<3;decide),iI ?_⟩
have c4:=q07 (yD ns 4) 3 (by decide)
try dsimp only
obtain⟨w,ew⟩:∃w:Int,1+yD ns 4%3=w:=⟨_,rfl⟩
rw[ew]
have w1:1≤w:=by lia
have w3:w≤3:=by lia
clear c4 ew
refine⟨_,rfl,_,rfl,?_⟩
dsimp only[tNil]
refine qKT (by lia) (by lia) (by lia) (by lia) (by decide) (by decide) ?_
refine λch ca H6 hc sC fC=>?_
refine⟨_,rfl,_,rfl,_,rfl,_,rfl,_,rfl,_,rfl,?_⟩
dsimp only[tNil,d3,g9]
refine qKV (by lia) (by lia) (by lia) (by lia) (by decide) (by decide) (by lia) (by rw[show((c+1+i:Nat):Int)-1-(i:Int)=(c:Int) by lia,←dS];lia) (by lia) (by lia) (by lia) (by lia) ?_
intro tm td H7 s7 htm
have s07:=(s1.trans sC).trans s7
refine λru dr nru ndr ner=>?_
have s8:Same H7 (upd (upd H7 dr (.own ru)) ru (.ins t.C_Fewest dr [])):=q7M nru ndr
have hR8:RuX t (upd (upd H7 dr (.own ru)) ru (.ins t.C_Fewest dr [])) ru [] (.rk λ_ _=>Tl.lv):=⟨dr,qI,rfl⟩
generalize upd (upd H7 dr (.own ru)) ru (.ins t.C_Fewest dr [])=H8 at s8 hR8 ⊢
have s08:=s07.trans s8
have hc8:=hc.same (s7.trans s8)
have htm8:=s8 _ _ htm
have tb8:TbF t H8:=⟨#[],s08 _ _ hT,.inl rfl,#[],s08 _ _ hTB,.inl rfl⟩
refine λsA sd nA nsd nn=>?_
have sM:Same H8 (upd (upd H8 sd (.own sA)) sA (.ins t.C_Even sd [])):=q7M nA nsd
refine⟨sA,sd,tm,td,ch,ca,_,_,_,_,_,_,c+1+i,P1,rfl,qI,sM _ _ htm8,hc8.same sM,rfl,rfl,by lia,tb8.same sM,λkb pp H9 st9 hp9 npp fk off up=>⟨rfl,?_⟩⟩
have s89:Same H8 H9:=λb o e=>up b o (qG e nA) (sM b o e)
have s09:=s08.trans s89
obtain⟨_,_,_,er8⟩:=hR8.ins
have npp8:H8 pp=none:=Same.free sM npp
obtain⟨kt,ekt⟩:∃kt:Tm,kt=⟨i,w,true⟩:=⟨_,rfl⟩
obtain⟨ix0,ge0⟩:=qGQ (k:=kt) (B:=c+1+i) (P:=P1) (by lia) hP1 (by lia) (by rw[ekt];show 1+i< _;lia) (by rw[ekt];exact w1)
obtain⟨X,eX⟩:∃X:Sto,X=⟨sA,sd,tm,td,ch,ca,kb,.ref ru,.ref pp⟩:=⟨_,rfl⟩
have of:Off t X [ru]:=by rw[eX];exact qJO (hc.same s7) htm (s07 _ _ hT) (s07 _ _ hTB) (λu hu=>by rw[kD.mp hu];exact nru) (λu hu=>by rw[kD.mp hu];exact⟨_,er8⟩) nA sM fk
rw[←eX]at st9 off
have hx9:XX t H9 X kt 64 (sh:Int) ru [] pp ⟨newX (c+1+i) P1,.rk λ_ _=>Tl.lv,[]⟩:=qJN (by rw[ekt];exact st9) (by rw[eX]) (hR8.keep (Keep.same s89) (F:=[]) (by simp)) of (by rw[eX]) hp9 off (λz=>by rw[kD.mp z,er8]at npp8;cases npp8) (by lia) (by lia) hP1 (by lia) ix0.w
have frX:∀b∈fx t X ru pp,H b=none∨∃ps,H b=some (.tbl ps):=by
 intro b hb;rw[eX]at hb;have hb:b=pp∨b=ru∨b=t.eU∨b=t.eT∨b∈foot ch ca∨b∈bf kb:=by simpa[sf]using hb
 rcases hb with hb|hb|hb|hb|hb|hb
 ·exact .inl (by rw[hb];exact s08.free npp8)
 ·exact .inl (by rw[hb];exact s07.free nru)
 ·exact .inr ⟨_,by rw[hb];exact hTB⟩
 ·exact .inr ⟨_,by rw[hb];exact hT⟩
 ·exact .inl (Same.free s1 (fC b (kC _ hb)))
 exact .inl (Same.free s08 (Same.free sM (fk b hb)))
refine⟨_,rfl,_,rfl,a,ns,sh,rfl,s09.seq hS,sh14,λms lms bms nl HN nN sN hN=>?_⟩
have s0N:=s09.trans sN
have hxN:=hx9.same sN
have nlF:nl∉fx t X ru pp:=λz=>by obtain⟨o,e⟩:=hx9.inF nl z;rw[nN]at e;cases e
have y0:Zd kt 64 sh P1 (c+1+i) ⟨newX (c+1+i) P1,.rk λ_ _=>Tl.lv,[]⟩ [] 0:=by
 refine⟨⟨ix0,Wt.of ge0,trivial,List.nodup_nil,λy hy=>absurd hy (by simp),λn _=>?_,λy hy=>absurd hy (by simp),mM _,?_,by lia,by lia⟩,rfl,ge0,rfl,rfl,λq hq=>(by cases hq),mM _,mM _⟩
 ·show(∃p,(n,p)∈([]:Mp))↔_;simp
 show sh+2≤(c+1+i-(1+kt.ie))*P1;rw[ekt];show sh+2≤(c+1+i-(1+i))*P1;rw[show c+1+i-(1+i)=c by lia];exact hs2
have rtN:RE H HN:=λb o _ e=>s0N b o e
have ev:kt.ev=true:=by rw[ekt]
have eie:kt.ie=i:=by rw[ekt]
have rm0:(newX (c+1+i) P1).rmX=(c+1+i)*P1:=qGR
rw[show sA=X.s by rw[eX],show ch=X.c by rw[eX]]
clear hx9 st9 off hp9 npp fk up sM tb8 htm8 hc8 s08 s07 s8 s7 htm sC fC hc s1 h1 nsd nn nA nru s89 s09 s0N npp8 of er8 hR8 eX ekt
generalize newX (c+1+i) P1=x0 at hxN y0 ix0 ge0 rm0
generalize (Rl.rk λ_ _=>Tl.lv)=g0 at hxN y0
obtain⟨F,eF⟩:∃F:Option V→Option V→Option V→Option V→Option V→Option V→St,F=λy9 y10 y11 y12 y13 y14=>[some (.ref a),some (.int ((c+1+i:Nat):Int)),some (.int (P1:Int)),some (.int (sh:Int)),some (.int (i:Int)),some (.int w),some (.ref X.c),some (.ref X.s),some (.ref nl),y9,y10,y11,y12,y13,y14]:=⟨_,rfl⟩
have ask:∀{Y KD H2 n} {y v:Int} {Q':VK} {E':XK},n<80→XX t H2 X kt 64 (sh:Int) ru [] pp Y→Zd kt 64 sh P1 (c+1+i) Y KD n→y∈ms→0≤v→v≤10 ^ 30-1→(∀m∈KD.map (·.1),m∈ms)→(∀Z H3 p,Y.ask kt 17 y v=some (Z,.ok p)→((∃p,(y,p)∈Y.s.q.V)∨Y.s.q.V.length<59)→XX t H3 X kt 64 (sh:Int) ru [] pp Z→Zd kt 64 sh P1 (c+1+i) Z (putW KD y v) (n+1)→(∀m∈(putW KD y v).map (·.1),m∈ms)→Keep (fx t X ru pp) H2 H3→Q' (.int (p:Int)) H3)→qHI t [.ref X.s,.int y,.int v] H2 Q' E':=by
 intro Y KD H2 n y v Q' E' n80 hx yd ym v0 v1 sub kk;obtain⟨y0',y1⟩:=bms y ym;have y2:y∈KD.map (·.1)∨KD.length<sh:=by
  by_cases zz:y∈KD.map (·.1)
  ·exact .inl zz
  have:=qF9 (l:=y::KD.map (·.1)) (m:=ms) (mY.mpr ⟨zz,yd.d.nd⟩) (λx hx=>by
   rcases kM.mp hx with e|hx
   ·rw[e];exact ym
   exact sub x hx)
  rw[mC,h9]at this;exact .inr (by lia)
 have rcn:=yd.rcn;have psn:=yd.psn;have hc:=yd.d.can y0' y1 y2;have ff:¬(hold Y.s.q y=false∧(sh:Int)≤((hdN Y.s.q.V).length:Int)):=λ⟨f1,f2⟩=>by
  have f1:decide (y∈(Y.s.q.V.map (·.1)).filter λn=>decide (n≠64))=false:=f1;rw[decide_eq_decide.mpr yd.d.pm.mem_iff]at f1;have f1:=dZ f1;have pl:=yd.d.pm.length_eq;rw[h9]at pl;have f2:(sh:Int)≤((((Y.s.q.V.map (·.1)).filter λn=>decide (n≠64)).length:Nat):Int):=f2;rcases y2 with w|w
  ·exact f1 w
  lia
 obtain⟨Z,p,hZ,zd⟩:=yd.ask (v:=v) y0' y1 y2;refine⟨X,kt,64,_,ru,[],pp,Y,y,v,17,_,rfl,hx,ev,by lia,by lia,by decide,inBi y0' (by lia),inBi v0 v1,ff,hc.imp id λw=>w.1,hZ,λH3 h3 k3=>kk Z H3 p hZ (hc.imp id λw=>w.1) h3 zd (λm hm=>?_) k3⟩;obtain⟨q,hq,e⟩:=mE.mp hm;rw[q9B yd.d.nd,jH]at hq;rcases hq with rfl|hq
 ·rw[←e];exact ym
 exact sub m (mE.mpr ⟨q,hq.1,e⟩)
refine⟨_,rfl,nl,rfl,⟨_,SqL.of hN⟩,?_⟩
refine q23 (K:=K) (xs:=ms.map V.int) (λu σ' H'=>∃y9 Y KD,σ'=F y9 none none none none none∧XX t H' X kt 64 (sh:Int) ru [] pp Y∧Zd kt 64 sh P1 (c+1+i) Y KD u∧Y.ps=[]∧Y.s.rmX+u=(c+1+i)*P1∧(∀m∈KD.map (·.1),m∈ms)∧H' nl=some (.lst (ms.map V.int))∧RE H H') ⟨none,_,[],by rw[eF];rfl,hxN,y0,rfl,rm0,by simp,hN,rtN⟩ (λu σ' H' hi hp=>by obtain⟨_,_,_,_,_,_,_,_,_,hN,_⟩:=hp;exact SqL.of hN) (λu v σ' H2 D' nxt hv hp=>?_) (λσ' H2 hp=>?_)
·obtain⟨y9,Y,KD,eσ,hx,yd,eps,erm,sub,hN,rt⟩:=hp;rw[eF]at eσ;subst eσ;rw[mG]at hv;obtain⟨y,hy,rfl⟩:=mO.mp hv;have hu':=(kB.mp hy).1;have ym:=gE hy;refine(iV rfl (iM hx.j.o rfl ⟨_,rfl,?_⟩));dsimp only[q6Q,tC,tNil,d3,g9];refine ask (by lia) hx yd ym (by decide) (by decide) sub λZ H3 p hZ hc h3 zd sub3 k3=>?_;obtain⟨y0',y1⟩:=bms y ym;have rd:Y.s.rd kt=true:=hV (by rw[eie,yd.eP];rw[dA,dA]at erm;rw[dA];lia);obtain⟨r1,_,r3⟩:=qJF yd.d.x rd y0' (by lia) hc hZ;exact nxt _ _ ⟨_,Z,_,by rw[eF];rfl,h3,zd,by rw[r1];exact eps,by lia,sub3,k3.k _ _ nlF hN,rt.keep k3 frX⟩
obtain⟨y9,Y0,KD0,eσ,hx0,yd0,eps0,_,sub0,hN0,rt0⟩:=hp
rw[eF]at eσ
subst eσ
rw[h9,lms]at yd0
have chg:∀{Y KD H2 n} {Q':VK} {E':XK},n<80→XX t H2 X kt 64 (sh:Int) ru [] pp Y→Zd kt 64 sh P1 (c+1+i) Y KD n→(∀D us H',H2 D=none→Same H2 H'→H' D=some (.lst us)→Paired (ChN H2 H' D) us (chL P1 Y.ps)→Q' (.ref D) H')→qHJ t [.ref X.s] H2 Q' E':=by intro Y KD H2 n Q' E' n80 hx yd kk;have psn:=yd.psn;have eP:=yd.eP;have eB:=yd.eB;refine⟨X,kt,64,_,ru,[],pp,Y,rfl,hx,by rw[eP,eB];exact yd.m8,by lia,by lia,by lia,λD us H' a b c d=>kk D us H' a b c ?_⟩;rw[eP]at d;exact d
refine(iV rfl (iM hx0.j.o rfl ?_))
dsimp only[tNil,d3,g9]
refine chg (by lia) hx0 yd0 λD0 us0 HA nA sA hA pA=>?_
rw[eps0]at pA
cases pA
refine⟨sz0,λe0 HB nB sB hB=>⟨D0,_,e0,rfl,rfl,SqL.of (sB _ _ hA),SqL.of hB,_,rfl,iteF ?_⟩⟩
have sAB:=sA.trans sB
have hxB:=hx0.same sAB
have hNB:=sAB _ _ hN0
have rtB:=rt0.same sAB
clear sA hA nA sB hB nB hx0
refine⟨_,rfl,a,_,rfl,.inl (rtB.sq hS),_,_,rfl,?_⟩
obtain⟨hi,eh,h46,hln⟩:∃h:Nat,(if(46:Int)<((ns.map V.int).length:Nat)then(46:Int)else((ns.map V.int).length:Nat))=(h:Int)∧h≤46∧h≤ns.length:=by
 rw[h9];by_cases z:(46:Int)<(ns.length:Nat)
 ·exact⟨46,kI z,by lia,by lia⟩
 exact⟨ns.length,kF z,by lia,by lia⟩
rw[eh]
refine⟨_,_,rfl,⟨by decide,by decide,by lia,by lia⟩,?_⟩
refine qAR (λu σ' H'=>∃y9 y10 y11 Y KD,σ'=F y9 y10 y11 none none none∧XX t H' X kt 64 (sh:Int) ru [] pp Y∧Zd kt 64 sh P1 (c+1+i) Y KD (14+u)∧(∀m∈KD.map (·.1),m∈ms)∧H' nl=some (.lst (ms.map V.int))∧RE H H') ⟨_,none,none,Y0,KD0,by rw[eF],hxB,⟨yd0.d,yd0.lf,yd0.ge,yd0.eP,yd0.eB,yd0.m8,by have:=yd0.rcn;lia,by have:=yd0.psn;lia⟩,sub0,hNB,rtB⟩ (λu σ' H3 D' nxt hu' hp=>?_) (λσ' H3 hp=>?_)
·obtain⟨y9,y10,y11,Y,KD,eσ,hx,yd,sub,hN,rt⟩:=hp;rw[eF]at eσ;subst eσ;have hi6:6+u<ns.length:=by lia
 have at1:atI (ns.map V.int) (6+(u:Int))=some (.int ns[6+u]):=by refine(show atI (ns.map V.int) ((6+u:Nat):Int)=_ from uR ?_);rw[mG,hX hi6];rfl
 generalize ns[6+u]=z at at1;refine⟨_,rfl,_,rfl,a,_,_,.int z,rfl,rfl,rt.sq hS,at1,?_⟩;have rcn:=yd.rcn;have psn:=yd.psn;refine⟨_,rfl,iI ⟨(by show(0:Int)<8;decide),rfl,_,rfl,ite2 (λ_=>?_) (λ_=>?_)⟩⟩
 ·rcases yd.room with er|⟨Z,p,er,zd⟩
  ·refine⟨_,rfl,X,kt,64,_,ru,[],pp,Y,Y,_,rfl,hx,ev,by lia,by lia,er,λe h=>(by cases h;rfl),λb H4 h4 k4=>?_⟩;exact nxt _ _ ⟨_,_,_,Y,KD,by rw[eF];rfl,h4,⟨yd.d,yd.lf,yd.ge,yd.eP,yd.eB,yd.m8,by lia,by lia⟩,sub,k4.k _ _ nlF hN,rt.keep k4 frX⟩
  refine⟨_,rfl,X,kt,64,_,ru,[],pp,Y,Z,_,rfl,hx,ev,by lia,by lia,er,λe h=>(by cases h),λb H4 h4 k4=>?_⟩;exact nxt _ _ ⟨_,_,_,Z,KD,by rw[eF];rfl,h4,zd,sub,k4.k _ _ nlF hN,rt.keep k4 frX⟩
 have mv:=q07 z (10 ^ (30:Int).toNat) (by decide);have mv2:z%10 ^ (30:Int).toNat≤10 ^ 30-1:=by have:_ <(10:Int) ^ 30:=mv.2;lia
 refine(iV rfl (iM hx.j.o rfl ⟨_,rfl,_,rfl,iI (iI ⟨.inr ⟨by decide,by decide⟩,iI ⟨(by show(0:Int)<1000003;decide),_,rfl,nl,ms,_,rfl,hN,by lia,by lia,λy ym=>?_⟩⟩)⟩));refine⟨_,rfl,iI ⟨⟨by decide,by decide,by decide⟩,iI ⟨(by show(0:Int)<10 ^ (30:Int).toNat;decide),?_⟩⟩⟩;dsimp only[tNil,d3,g9];refine ask (by lia) hx yd ym mv.1 mv2 sub λZ H4 p hZ hc h4 zd sub4 k4=>?_;exact nxt _ _ ⟨_,_,_,Z,_,by rw[eF];rfl,h4,zd,sub4,k4.k _ _ nlF hN,rt.keep k4 frX⟩
obtain⟨y9,y10,y11,Y,KD,eσ,hx,yd,sub,hN,rt⟩:=hp
rw[eF]at eσ
subst eσ
obtain⟨ps,hps,pps⟩:=hx.hp
have o:=hx.j.o
rw[hx.ep]at o
have psn:=yd.psn
refine(iV rfl (iF o T.eW T.iP rfl ⟨_,rfl,pp,ps,_,Y.ps,P1,c+1+i,rfl,hps,pps,yd.m8,hP1,hP2,by lia,by lia,λE us HA nE sA hE pE=>?_⟩))
have hxA:=hx.same sA
have l4:∀q∈chL P1 Y.ps,q.2.length≤4:=λq hq=>by unfold chL at hq;obtain⟨p,hp,rfl⟩:=mE.mp hq;exact qAP (yd.m8 p (mP.mp hp).1) hP2 (by lia)
have rE:∀{H5:Hp},Same HA H5→Paired (ChR H5) us (chL P1 Y.ps):=fun {H5} s5=>Paired.mapP pE λv d ⟨a',l',e1,e2,e3,_⟩=>⟨a',l',e1,s5 _ _ e2,s5 _ _ e3⟩
refine(iV rfl (iM hxA.j.o rfl ?_))
dsimp only[tNil,d3,g9]
refine chg (by lia) hxA yd λD vs HB nD sB hD pD=>?_
refine⟨_,rfl,_,rfl,D,E,vs,us,_,rfl,hD,sB _ _ hE,Paired.mapP pD λv d ⟨a',l',e1,e2,e3,_⟩=>⟨a',l',e1,e2,e3⟩,rE sB,l4,λHC sC=>⟨_,rfl,iteF ?_⟩⟩
have sAC:=sB.trans sC
have lv:=pD.len
have cl:=qAQ (P:=P1) (ps:=Y.ps)
refine⟨_,rfl,D,rfl,⟨_,SqL.of (sC _ _ hD)⟩,?_⟩
refine q23 (K:=K) (xs:=vs) (λu σ' H'=>(∃y,σ'=F y9 y10 y11 (some (.ref E)) (some (.ref D)) y)∧Same HA H'∧H' D=some (.lst vs)∧∀v∈vs,∃a l z xs,v=.ref a∧H' a=some (.tup [z,.ref l])∧H' l=some (.lst xs)∧xs.length≤4+u∧HA l=none∧l≠D) ⟨⟨none,by rw[eF];rfl⟩,sAC,sC _ _ hD,λv hv=>?_⟩ (λu σ' H' hi hp=>SqL.of hp.2.2.1) (λu v σ' H' D' nxt hv hp=>?_) (λσ' H' hp=>?_)
·obtain⟨j,hj,rfl⟩:=pT.mp hv;obtain⟨q,hq,a',l',e1,e2,e3,e4,e5⟩:=Paired.at pD (hX hj);exact⟨a',l',_,_,e1,sC _ _ e2,sC _ _ e3,by rw[h9];exact l4 q (gE hq),e4,e5⟩
·obtain⟨⟨y,eσ⟩,sm,hD',rows⟩:=hp;rw[eF]at eσ;subst eσ;have hu:=(kB.mp hv).1;obtain⟨a',l',z,xs,rfl,ha,hl,lx,nl',lD⟩:=rows v (gE hv);refine⟨_,rfl,iT (k:=1) (v:=_) (SqT.of ha) rfl ⟨.inl ⟨rfl,_,SqL.of hl⟩,l',xs,_,rfl,rfl,hl,by lia,nxt _ _ ⟨⟨_,by rw[eF];rfl⟩,λb o e=>?_,?_,λv hv=>?_⟩⟩⟩
 ·rw[qC (qG e nl')];exact sm _ _ e
 ·rw[qC (λz=>lD z.symm)];exact hD'
 obtain⟨a2,l2,z2,xs2,e1,e2,e3,e4,e5,e6⟩:=rows v hv;have u2:upd H' l' (.lst (xs++[.int 99])) a2=some (.tup [z2,.ref l2]):=by rw[qC (λz=>by rw[z,hl]at e2;cases e2)];exact e2
 by_cases q:l2=l'
 ·exact⟨a2,l2,z2,_,e1,u2,by rw[q,qI],by rw[kZ];exact cO lx 1,e5,e6⟩
 exact⟨a2,l2,z2,_,e1,u2,by rw[qC q];exact e3,by lia,e5,e6⟩
obtain⟨⟨y,eσ⟩,sm,hD',_⟩:=hp
rw[eF]at eσ
subst eσ
refine⟨_,rfl,.inl ⟨rfl,_,SqL.of hD'⟩,D,_,rfl,rfl,hD',?_⟩
have sA5:Same HA (upd H' D (.lst [])):=λb o e=>by rw[qC (qG e nD)];exact sm _ _ e
generalize upd H' D (.lst [])=H5 at sA5 ⊢
have hx5:=hxA.same sA5
refine(iV rfl (iM hx5.j.o rfl ?_))
dsimp only[tNil,d3,g9]
refine chg (by lia) hx5 yd λD2 vs2 H6 nD2 s6 hD2 pD2=>?_
exact⟨_,rfl,D2,E,vs2,us,_,rfl,hD2,s6 _ _ (sA5 _ _ hE),Paired.mapP pD2 λv d ⟨a',l',e1,e2,e3,_⟩=>⟨a',l',e1,e2,e3⟩,rE (sA5.trans s6),l4,λH7 s7=>k H7⟩)
theorem qJQ{P:Program}{w:World}{K:W.Frag}{mg:Str→Option Value}{t:Adr}(T:Txt K mg t)(S:Fns K t)(B:BmIn base mg):S.law.Ok0 P w mg base 18 (q3N K [t.eT,t.eU]):=Classical.byContradiction λn=>by
 have hs:hkB hkE:=by unfold hkE;exact Classical.epsilon_spec ⟨⟨P,w,K,mg,t⟩,S,base,T,B,n⟩
 obtain⟨S',b',T',B1,n'⟩:=hs;exact n' (qJP T' S' B1)
end
theorem qJR{l:W.OpenLaw}{w:World}{K:W.Frag}{h:Heap}{mg:Str→Option Value}{fa z0 z1 z2 z3 z4 z5 z6 z7 z8 z9 z10 z11 z12 z13 z14 z15 z16 z17 z18 z19 z20 z21 z22 z23 z24 z25 z26 z27 z28 z29 z30 z31 z32 z33 z34 z35 z36 z37 z38 z39 z40 z41 z42 z43 z44 z45 z46 z47 z48 z49 z50 z51 z52 z53 z54 z55 z56 z57 z58 z59 z60 z61 z62 z63 z64 z65 z66 z67 z68 z69 z70 z71 z72 z73 z74 z75 z76 z77 z78 z79 z80 z81 z82 z83 z84 z85 z86 z87 z88 z89:Addr}(X:K.In h)(G:h.Ns mainGlobals mg)(hfa:mg "law"=some (.ref fa))
 {z90 z91 z102 z103 z114 z115 z126 z127:Option Addr} {z92 z104 z116 z128:Array (Option Value)} {z93 z94 z95 z96 z98 z105 z106 z107 z108 z110 z117 z118 z119 z120 z121 z122 z129 z130 z131 z132 z133 z134:Value} {z123:Option Addr} {z124:Nat} {z125:Array (Option Value)} {e0_Chip_init:Tok} {z135:Option Addr} {z136:Nat} {z137:Array (Option Value)} {e0_Terms_init:Tok} {e1_Terms_init:Tok} {i8:Tok} {aB4:Tok} {aA7:Tok}
 (z138:W.nsIn K mainGlobals "Book"=some (some (.ref z80)))
 (z139:Cls K z80)
 (z140:qN K z80 "blocks")
 (z141:qN K z80 "pages")
 (z142:qN K z80 "stamp")
 (z143:qN K z80 "where")
 (z144:qN K z80 "live")
 (z145:qN K z80 "filled")
 (z146:qN K z80 "born")
 (z147:Meth K z80 "mark" z11)
 (z148:Meth K z80 "note" z12)
 (z149:Meth K z80 "forget" z13)
 (z150:Meth K z80 "emptied" z14)
 (z151:Meth K z80 "live_pages" z15)
 (z152:Meth K z80 "held" z16)
 (z153:Mk K z80 z10)
 (z154:W.nsIn K mainGlobals "Plain"=some (some (.ref z81)))
 (z155:W.nsIn K mainGlobals "Even"=some (some (.ref z82)))
 (z156:Cls K z82)
 (z157:qN K z82 "chip")
 (z158:qN K z82 "terms")
 (z159:qN K z82 "book")
 (z160:qN K z82 "rule")
 (z161:qN K z82 "papers")
 (z162:Meth K z82 "least" z44)
 (z163:Meth K z82 "clearable" z45)
 (z164:Meth K z82 "options" z46)
 (z165:Meth K z82 "choice" z47)
 (z166:Meth K z82 "block_to_change" z48)
 (z167:Meth K z82 "changes" z49)
 (z168:Meth K z82 "takers" z50)
 (z169:Meth K z82 "reserve" z31)
 (z170:Meth K z82 "tally" z32)
 (z171:Meth K z82 "space" z33)
 (z172:Meth K z82 "full_ones" z34)
 (z173:Meth K z82 "with_dead_page" z35)
 (z174:Meth K z82 "choice_by_rule" z36)
 (z175:Meth K z82 "moved" z37)
 (z176:Meth K z82 "value_to_move" z38)
 (z177:Meth K z82 "wiped" z39)
 (z178:Meth K z82 "clear_out" z40)
 (z179:Meth K z82 "make_room" z41)
 (z180:Meth K z82 "make_ready" z42)
 (z181:Meth K z82 "make_rooms" z43)
 (z182:Meth K z82 "good" z18)
 (z183:Meth K z82 "free" z19)
 (z184:Meth K z82 "part" z20)
 (z185:Meth K z82 "spot" z21)
 (z186:Meth K z82 "ready" z22)
 (z187:Meth K z82 "set_down" z23)
 (z188:Meth K z82 "lay" z24)
 (z189:Meth K z82 "write" z25)
 (z190:Meth K z82 "held" z26)
 (z191:Meth K z82 "check_sheet" z27)
 (z192:Meth K z82 "check_share" z28)
 (z193:Mk K z82 z30)
 (z194:W.nsIn K mainGlobals "Chip"=some (some (.ref z83)))
 (z195:Cls K z83)
 (z196:qN K z83 "blocks")
 (z197:qN K z83 "pages")
 (z198:qN K z83 "most")
 (z199:qN K z83 "limits")
 (z200:qN K z83 "borne")
 (z201:qN K z83 "clearings")
 (z202:qN K z83 "deed_counts")
 (z203:qN K z83 "broken")
 (z204:qN K z83 "deeds_left")
 (z205:qN K z83 "record")
 (z206:Meth K z83 "put" z53)
 (z207:Meth K z83 "wipe" z54)
 (z208:Meth K z83 "read" z55)
 (z209:Meth K z83 "is_dark" z56)
 (z210:Meth K z83 "cleared" z57)
 (z211:Meth K z83 "failed" z58)
 (z212:Meth K z83 "check_page" z59)
 (z213:Meth K z83 "check_block" z60)
 (z214:Meth K z83 "check_power" z61)
 (z215:Meth K z83 "check_deed" z62)
 (z216:Meth K z83 "is_spent" z63)
 (z217:Meth K z83 "do_deed" z64)
 (z218:Mk K z83 z52)
 (z219:W.nsIn K mainGlobals "Fewest"=some (some (.ref z84)))
 (z220:Cls K z84)
 (z221:Meth K z84 "goes_ahead" z68)
 (z222:Meth K z84 "choose" z67)
 (z223:W.makesIn K z84=true)
 (z224:W.findIn K (.ref z84) "__init__"=some (some (.builtin "object.__init__")))
 (z225:W.keepIn K (.ref z84)=true)
 (z226:W.nsIn K mainGlobals "Terms"=some (some (.ref z85)))
 (z227:Cls K z85)
 (z228:qN K z85 "blocks")
 (z229:qN K z85 "pages")
 (z230:qN K z85 "sheets")
 (z231:qN K z85 "share")
 (z232:qN K z85 "ill")
 (z233:qN K z85 "spread")
 (z234:Meth K z85 "closed" z70)
 (z235:Mk K z85 z69)
 (z236:W.nsIn K mainGlobals "PowerGone"=some (some (.ref z86)))
 (z237:W.excIn K z86 bmVE "ValueError.__new__"=true)
 (z238:W.nsIn K mainGlobals "NoRoom"=some (some (.ref z87)))
 (z239:W.excIn K z87 bmVE "ValueError.__new__"=true)
 (z240:ClM K z81 "__init__" z17)
 (z241:W.exmOne K (.ref z87) (.ref z87)=some true)
 (z242:W.codeHdIn K z0 z1=true)
 (z243:W.codeHdIn K z2 z3=true)
 (z244:z1≠z3)
 (z245:GFn K "is_whole" z4)
 (z246:GFn K "is_within" z5)
 (z247:GFn K "is_shape" z6)
 (z248:GFn K "is_value" z7)
 (z249:GFn K "mark_of" z8)
 (z250:GFn K "bits_of" z9)
 (z251:GFn K "paper_of" z29)
 (z252:GFn K "limits_of" z51)
 (z253:GFn K "is_unbeaten" z65)
 (z254:GFn K "first_unbeaten" z66)
 (z255:GFn K "_law_cell_at" z71)
 (z256:GFn K "_law_whole" z72)
 (z257:GFn K "_law_shape" z73)
 (z258:GFn K "_law_names" z74)
 (z259:GFn K "_law_pick" z75)
 (z260:GFn K "_law_made" z76)
 (z261:GFn K "_law_due" z77)
 (z262:GFn K "_law_right" z78)
 (z263:W.nsIn K mainGlobals "MOST_TOLD"=some (some (.int 1000000 i8)))
 (z264:W.nsIn K mainGlobals "ROLL"=some (some (.int 64 aB4)))
 (z265:W.nsIn K mainGlobals "NAMES"=some (some (.int 128 aA7)))
 (z266:W.nsIn K mainGlobals "bool"=some none)
 (z267:W.nsIn K mainGlobals "int"=some none)
 (z268:W.nsIn K mainGlobals "isinstance"=some none)
 (z269:W.nsIn K mainGlobals "len"=some none)
 (z270:W.nsIn K mainGlobals "list"=some none)
 (z271:W.nsIn K mainGlobals "min"=some none)
 (z272:W.nsIn K mainGlobals "range"=some none)
 (z273:W.nsIn K mainGlobals "set"=some none)
 (z274:W.nsIn K mainGlobals "sorted"=some none)
 (z275:W.nsIn K mainGlobals "tuple"=some none)
 (z276:FnX K "is_whole" "is_whole" q2I z4)
 (z277:FnX K "is_within" "is_within" q13 z5)
 (z278:FnX K "is_shape" "is_shape" q2J z6)
 (z279:FnX K "is_value" "is_value" q2K z7)
 (z280:FnX K "mark_of" "mark_of" q3P z8)
 (z281:FnX K "bits_of" "bits_of" q3Q z9)
 (z282:FnX K "__init__" "Book.__init__" q14 z10)
 (z283:FnX K "mark" "Book.mark" q15 z11)
 (z284:FnX K "note" "Book.note" q16 z12)
 (z285:FnX K "forget" "Book.forget" vZ z13)
 (z286:FnX K "emptied" "Book.emptied" vI z14)
 (z287:FnX K "live_pages" "Book.live_pages" uF z15)
 (z288:FnX K "held" "Book.held" q17 z16)
 (z289:FnX K "__init__" "Plain.__init__" q0A z17)
 (z290:FnX K "good" "Plain.good" q0B z18)
 (z291:K.lookup z19=some ⟨z93,z90,.func (W.fnOf "free" "Plain.free" (jZ jM) (jL jM) (qE jM) .none z94 z95 z96 z91 (.ref z0) z98),z92⟩)
 (z292:W.codeIn K (.ref z0) "Plain.free"=true)
 (z293:FnX K "part" "Plain.part" q0C z20)
 (z294:FnX K "spot" "Plain.spot" q0D z21)
 (z295:FnX K "ready" "Plain.ready" zA z22)
 (z296:FnX K "set_down" "Plain.set_down" uO z23)
 (z297:FnX K "lay" "Plain.lay" q18 z24)
 (z298:FnX K "write" "Plain.write" zB z25)
 (z299:FnX K "held" "Plain.held" q0E z26)
 (z300:FnX K "check_sheet" "Plain.check_sheet" yQ z27)
 (z301:FnX K "check_share" "Plain.check_share" yR z28)
 (z302:FnX K "paper_of" "paper_of" q2L z29)
 (z303:FnX K "__init__" "Store.__init__" q0F z30)
 (z304:FnX K "reserve" "Store.reserve" uZ z31)
 (z305:FnX K "tally" "Store.tally" zC z32)
 (z306:FnX K "space" "Store.space" zD z33)
 (z307:FnX K "full_ones" "Store.full_ones" uG z34)
 (z308:FnX K "with_dead_page" "Store.with_dead_page" yG z35)
 (z309:FnX K "choice_by_rule" "Store.choice_by_rule" yH z36)
 (z310:FnX K "moved" "Store.moved" zE z37)
 (z311:FnX K "value_to_move" "Store.value_to_move" yK z38)
 (z312:FnX K "wiped" "Store.wiped" zF z39)
 (z313:FnX K "clear_out" "Store.clear_out" uH z40)
 (z314:FnX K "make_room" "Store.make_room" uI z41)
 (z315:FnX K "make_ready" "Store.make_ready" yZ z42)
 (z316:FnX K "make_rooms" "Store.make_rooms" u6 z43)
 (z317:FnX K "least" "Even.least" q0G z44)
 (z318:FnX K "clearable" "Even.clearable" uP z45)
 (z319:FnX K "options" "Even.options" vJ z46)
 (z320:FnX K "choice" "Even.choice" zG z47)
 (z321:K.lookup z48=some ⟨z105,z102,.func (W.fnOf "block_to_change" "Even.block_to_change" (jZ qP) (jL qP) (qE qP) .none z106 z107 z108 z103 (.ref z2) z110),z104⟩)
 (z322:W.codeIn K (.ref z2) "Even.block_to_change"=true)
 (z323:FnX K "changes" "Even.changes" vK z49)
 (z324:FnX K "takers" "Even.takers" zH z50)
 (z325:FnX K "limits_of" "limits_of" q19 z51)
 (z326:K.lookup z52=some ⟨z117,z114,.func (W.fnOf "__init__" "Chip.__init__" (jZ uB) (jL uB) (qE uB) (.ref z88) z118 z119 z120 z115 z121 z122),z116⟩)
 (z327:W.codeIn K z121 "Chip.__init__"=true)
 (z328:K.lookup z88=some ⟨.type "tuple",z123,.seq #[.int 1000000 e0_Chip_init,.none] z124,z125⟩)
 (z329:FnX K "put" "Chip.put" q2M z53)
 (z330:FnX K "wipe" "Chip.wipe" q1A z54)
 (z331:FnX K "read" "Chip.read" q1B z55)
 (z332:FnX K "is_dark" "Chip.is_dark" vL z56)
 (z333:FnX K "cleared" "Chip.cleared" vM z57)
 (z334:FnX K "failed" "Chip.failed" zI z58)
 (z335:FnX K "check_page" "Chip.check_page" uJ z59)
 (z336:FnX K "check_block" "Chip.check_block" u7 z60)
 (z337:FnX K "check_power" "Chip.check_power" u8 z61)
 (z338:FnX K "check_deed" "Chip.check_deed" uK z62)
 (z339:FnX K "is_spent" "Chip.is_spent" v3 z63)
 (z340:FnX K "do_deed" "Chip.do_deed" vO z64)
 (z341:FnX K "is_unbeaten" "is_unbeaten" zJ z65)
 (z342:FnX K "first_unbeaten" "first_unbeaten" uQ z66)
 (z343:FnX K "choose" "Rule.choose" zK z67)
 (z344:FnX K "goes_ahead" "Fewest.goes_ahead" yS z68)
 (z345:K.lookup z69=some ⟨z129,z126,.func (W.fnOf "__init__" "Terms.__init__" (jZ yP) (jL yP) (qE yP) (.ref z89) z130 z131 z132 z127 z133 z134),z128⟩)
 (z346:W.codeIn K z133 "Terms.__init__"=true)
 (z347:K.lookup z89=some ⟨.type "tuple",z135,.seq #[.int 0 e0_Terms_init,.int 1000000 e1_Terms_init] z136,z137⟩)
 (z348:FnX K "closed" "Terms.closed" vP z70)
 (z349:FnX K "_law_cell_at" "_law_cell_at" zL z71)
 (z350:FnX K "_law_whole" "_law_whole" q1C z72)
 (z351:FnX K "_law_shape" "_law_shape" q1D z73)
 (z352:FnX K "_law_names" "_law_names" q1E z74)
 (z353:FnX K "_law_pick" "_law_pick" q2N z75)
 (z354:FnX K "_law_made" "_law_made" q2O z76)
 (z355:FnX K "_law_due" "_law_due" q3R z77)
 (z356:FnX K "_law_right" "_law_right" q1F z78)
 (z357:W.nsIn K mainGlobals "law"=some (some (.ref z79)))
 (z358:FnX K "law" "law" qF5 z79):
 ∃fd:FuncData,(∀(s:Shared) (v:Value),BindsTo s fd ⟨[v],[]⟩ [("_law_script",v)])∧∀base:Heap,K.In base→base.Ns mainGlobals mg→BmIn base mg→FnOk l.prog w K mg base (CX0) 18 fa fd ["_law_script"] (q3N K [z1,z3]):=by(
have e:=hfa.symm.trans (g3 X G z357)
cases e
let t:Adr:=⟨z4,z5,z6,z7,z8,z9,z10,z11,z12,z13,z14,z15,z16,z17,z18,z19,z20,z21,z22,z23,z24,z25,z26,z27,z28,z29,z30,z31,z32,z33,z34,z35,z36,z37,z38,z39,z40,z41,z42,z43,z44,z45,z46,z47,z48,z49,z50,z51,z52,z53,z54,z55,z56,z57,z58,z59,z60,z61,z62,z63,z64,z65,z66,z67,z68,z69,z70,z71,z72,z73,z74,z75,z76,z77,z78,fa,z80,z81,z82,z83,z84,z85,z86,z87,i8,aB4,aA7,z0,z1,z2,z3⟩
have T:Txt K mg t:=⟨g3 X G z138,z139,z140,z141,z142,z143,z144,z145,z146,z147,z148,z149,z150,z151,z152,z153,g3 X G z154,g3 X G z155,z156,z157,z158,z159,z160,z161,z162,z163,z164,z165,z166,z167,z168,z169,z170,z171,z172,z173,z174,z175,z176,z177,z178,z179,z180,z181,z182,z183,z184,z185,z186,z187,z188,z189,z190,z191,z192,z193,g3 X G z194,z195,z196,z197,z198,z199,z200,z201,z202,z203,z204,z205,z206,z207,z208,z209,z210,z211,z212,z213,z214,z215,z216,z217,z218,g3 X G z219,z220,z221,z222,⟨z223,z224,z225⟩,g3 X G z226,z227,z228,z229,z230,z231,z232,z233,z234,z235,g3 X G z236,z237,g3 X G z238,z239,z240,z241,z242,z243,z244,g3 X G z245.1,z245.2,g3 X G z246.1,z246.2,g3 X G z247.1,z247.2,g3 X G z248.1,z248.2,g3 X G z249.1,z249.2,g3 X G z250.1,z250.2,g3 X G z251.1,z251.2,g3 X G z252.1,z252.2,g3 X G z253.1,z253.2,g3 X G z254.1,z254.2,g3 X G z255.1,z255.2,g3 X G z256.1,z256.2,g3 X G z257.1,z257.2,g3 X G z258.1,z258.2,g3 X G z259.1,z259.2,g3 X G z260.1,z260.2,g3 X G z261.1,z261.2,g3 X G z262.1,z262.2,g3 X G z263,g3 X G z264,g3 X G z265,rN X G z266,rN X G z267,rN X G z268,rN X G z269,rN X G z270,rN X G z271,rN X G z272,rN X G z273,rN X G z274,rN X G z275⟩
let S:Fns K t:=⟨fn1 z276,fn1 z277,fn1 z278,fn1 z279,fn1 z280,fn1 z281,fn1 z282,fn1 z283,fn1 z284,fn1 z285,fn1 z286,fn1 z287,fn1 z288,fn1 z289,fn1 z290,_,FunT.mk' (st:=jM) z291 z292,jO.all λus hl=>by rw[lnx hl];rfl,fn1 z293,fn1 z294,fn1 z295,fn1 z296,fn1 z297,fn1 z298,fn1 z299,fn1 z300,fn1 z301,fn1 z302,fn1 z303,fn1 z304,fn1 z305,fn1 z306,fn1 z307,fn1 z308,fn1 z309,fn1 z310,fn1 z311,fn1 z312,fn1 z313,fn1 z314,fn1 z315,fn1 z316,fn1 z317,fn1 z318,fn1 z319,fn1 z320,_,FunT.mk' (st:=qP) z321 z322,jO.all λus hl=>by rw[lnx hl];rfl,fn1 z323,fn1 z324,fn1 z325,_,(.ref z88),FunD.mk' (st:=uB) z326 z327,λs us kin hl=>by rw[lnx (us:=us) (n:=5) (by simpa using hl)];exact rL rfl (kin _ _ z328) rfl rfl rfl,[.none],λs us kin hl=>by rw[lnx (us:=us) (n:=4) (by simpa using hl)];exact rL rfl (kin _ _ z328) rfl rfl rfl,(.cons rfl .nil),[.int 1000000 e0_Chip_init,.none],λs us kin hl=>by rw[lnx (us:=us) (n:=3) (by simpa using hl)];exact rL rfl (kin _ _ z328) rfl rfl rfl,(.cons ⟨_,rfl⟩ (.cons rfl .nil)),fn1 z329,fn1 z330,fn1 z331,fn1 z332,fn1 z333,fn1 z334,fn1 z335,fn1 z336,fn1 z337,fn1 z338,fn1 z339,fn1 z340,fn1 z341,fn1 z342,fn1 z343,fn1 z344,_,(.ref z89),FunD.mk' (st:=yP) z345 z346,λs us kin hl=>by rw[lnx (us:=us) (n:=7) (by simpa using hl)];exact rL rfl (kin _ _ z347) rfl rfl rfl,[.int 1000000 e1_Terms_init],λs us kin hl=>by rw[lnx (us:=us) (n:=6) (by simpa using hl)];exact rL rfl (kin _ _ z347) rfl rfl rfl,(.cons ⟨_,rfl⟩ .nil),[.int 0 e0_Terms_init,.int 1000000 e1_Terms_init],λs us kin hl=>by rw[lnx (us:=us) (n:=5) (by simpa using hl)];exact rL rfl (kin _ _ z347) rfl rfl rfl,(.cons ⟨_,rfl⟩ (.cons ⟨_,rfl⟩ .nil)),fn1 z348,fn1 z349,fn1 z350,fn1 z351,fn1 z352,fn1 z353,fn1 z354,fn1 z355,fn1 z356,fn1 z358⟩
exact⟨_,FnX.bind1 (by intros;rfl) S.law.F,λbase _ _ bm=>qJQ T S bm⟩)
theorem walk{l:W.OpenLaw}{q:Program}{loose:List Str}{XP:(Str→Option Value)→Heap→Prop}{YP:World→Heap→Prop}{d:DefRec}{K:Params→W.Frag}(hn:l.most=some 63)(hdf:d.params.defaults=[])
 (hY:∀(w:World) (h:Heap),YP w h→(K w.params).In h∧∀T∈([304,579]:List Addr),h.get? T=some (W.tabObj #[])) (hT:∀w:World,∀T∈([304,579]:List Addr),(K w.params).lookup T=none∧∃c,W.codeHdIn (K w.params) c T=true)
 (F:∀(w:World) (mg:Str→Option Value) (fa:Addr) (h:Heap),(K w.params).In h→h.Ns mainGlobals mg→mg d.name=some (.ref fa)→∃fd:FuncData,(∀(s:Shared) (u:Value),BindsTo s fd ⟨[u],[]⟩ [("_law_script",u)])∧∀base:Heap,(K w.params).In base→base.Ns mainGlobals mg→BmIn base mg→FnOk l.prog w (K w.params) mg base (CX0) 18 fa fd ["_law_script"] (q3N (K w.params) [304,579])):
 W.WalkO q loose XP YP l.row.toRowW d [] (λf vs=>PySem.call f vs):=L2.qEF (n:=63) (k:=18) (x:="_law_script") (CX:=λ_=>CX0) (sp:=λw=>q3N (K w.params) [304,579]) [304,579] hn (by decide) hdf ⟨rfl,by decide,by decide⟩ hY hT F (λ_ _ a ns hl hS hT=>⟨a,ns,rfl,hS,hl,hT,λ_=>rfl⟩) (λ_ _ _ _ _ z=>z)
end W1
namespace PySem.W.Fast
theorem tw15667204579623507917:True:=⟨⟩
theorem tw4076770996938231232:True:=⟨⟩
theorem tw13033551910119123840:True:=⟨⟩
theorem tw9111802938622700737:True:=⟨⟩
theorem tw5516239469981499073:True:=⟨⟩
theorem tw1518056428152702753:True:=⟨⟩
theorem tw10725119010986129442:True:=⟨⟩
theorem tw12148475035945571554:True:=⟨⟩
theorem tw15936827545340648898:True:=⟨⟩
theorem tw2780219679237626275:True:=⟨⟩
theorem tw4180288889964300644:True:=⟨⟩
theorem tw16758542346558157732:True:=⟨⟩
theorem tw5656873171642134181:True:=⟨⟩
theorem tw16660580334282646822:True:=⟨⟩
theorem tw12218097474009757318:True:=⟨⟩
theorem tw11710721010101983046:True:=⟨⟩
theorem tw5944876656626464646:True:=⟨⟩
theorem tw11470203333283887207:True:=⟨⟩
theorem tw4412847783347200423:True:=⟨⟩
theorem tw9167259674913330855:True:=⟨⟩
theorem tw13506787686124118727:True:=⟨⟩
theorem tw1990199269226814568:True:=⟨⟩
theorem tw1562383403370541000:True:=⟨⟩
theorem tw3727158352153317898:True:=⟨⟩
theorem tw11401098867103006250:True:=⟨⟩
theorem tw8360192990191699786:True:=⟨⟩
theorem tw16846478943057126155:True:=⟨⟩
theorem tw5428489523955617197:True:=⟨⟩
theorem tw18004234623253158669:True:=⟨⟩
theorem tw11914687639056357261:True:=⟨⟩
theorem tw15726460969325800494:True:=⟨⟩
theorem tw10006701519683810350:True:=⟨⟩
theorem tw5164160755153104334:True:=⟨⟩
theorem tw7639178672443884142:True:=⟨⟩
theorem tw6646024581037657135:True:=⟨⟩
theorem tw4370427291177517039:True:=⟨⟩
theorem tw3919811412381293616:True:=⟨⟩
theorem tw11866897296705649872:True:=⟨⟩
theorem tw2802348845384364368:True:=⟨⟩
theorem tw16217593573036219986:True:=⟨⟩
theorem tw14095889292717890227:True:=⟨⟩
theorem tw16613002019093236276:True:=⟨⟩
theorem tw16211349414130982580:True:=⟨⟩
theorem tw14921324410822432789:True:=⟨⟩
theorem tw3133822004951537045:True:=⟨⟩
theorem tw17459323673465993238:True:=⟨⟩
theorem tw6512993448637351382:True:=⟨⟩
theorem tw1337915710446343926:True:=⟨⟩
theorem tw8154691992802059608:True:=⟨⟩
theorem tw9083556613469783577:True:=⟨⟩
theorem tw5098979763239345594:True:=⟨⟩
theorem tw10966637978278332986:True:=⟨⟩
theorem tw16405117583696862587:True:=⟨⟩
theorem tw1571221513378507901:True:=⟨⟩
theorem tw6396519741981495613:True:=⟨⟩
theorem tw9124926913031199261:True:=⟨⟩
theorem tw14983745522415091261:True:=⟨⟩
theorem tw2378417513183322463:True:=⟨⟩
theorem tw11500520751216675615:True:=⟨⟩
theorem tw9065920206573910466:True:=⟨⟩
theorem tw16689667519298430712:True:=⟨⟩
theorem tw4974380120739996279:True:=⟨⟩
theorem tw773617219800941101:True:=⟨⟩
theorem tw7262846661775318611:True:=⟨⟩
theorem tw15902243495657130127:True:=⟨⟩
theorem tw18010524094189832006:True:=⟨⟩
theorem tw17964517043632821629:True:=⟨⟩
theorem tw820743837609592743:True:=⟨⟩
theorem tw16428529955893337827:True:=⟨⟩
theorem tw8984785524134878773:True:=⟨⟩
theorem tw4113035257861911233:True:=⟨⟩
theorem tw12822687797433100002:True:=⟨⟩
theorem tw13346882041776061132:True:=⟨⟩
theorem tw12903524638525319382:True:=⟨⟩
theorem tw4628517124948020336:True:=⟨⟩
theorem tw16116804139634662727:True:=⟨⟩
theorem tw7657203268269557618:True:=⟨⟩
theorem tw10515176228041954040:True:=⟨⟩
theorem tw14598621448584080604:True:=⟨⟩
theorem tw9349776335115288632:True:=⟨⟩
theorem tw9826093508623842541:True:=⟨⟩
theorem tw518105328782652064:True:=⟨⟩
theorem tw10053956747617194080:True:=⟨⟩
theorem tw1793477842474381953:True:=⟨⟩
theorem tw16601015399563312196:True:=⟨⟩
theorem tw8224694212481835490:True:=⟨⟩
theorem tw872660410924597319:True:=⟨⟩
theorem tw225524145923075272:True:=⟨⟩
theorem tw11060232375521138163:True:=⟨⟩
theorem tw7852407804309034935:True:=⟨⟩
theorem tw11453304521103704849:True:=⟨⟩
theorem tw17472074846144123736:True:=⟨⟩
theorem tw1468281056256815316:True:=⟨⟩
theorem tw4527513539702599462:True:=⟨⟩
theorem tw7013707973053632606:True:=⟨⟩
theorem tw15649093998981744272:True:=⟨⟩
theorem tw14142067700532396183:True:=⟨⟩
theorem tw3055843690936411648:True:=⟨⟩
theorem tw10832956489594677099:True:=⟨⟩
theorem tw3935367183841850607:True:=⟨⟩
theorem tw13167343327126801928:True:=⟨⟩
theorem tw485515742075908170:True:=⟨⟩
theorem tw11153549292095551484:True:=⟨⟩
theorem tw7356972886531376373:True:=⟨⟩
theorem tw2509317854347496626:True:=⟨⟩
theorem tw11170890473506764099:True:=⟨⟩
theorem tw13650741465022932553:True:=⟨⟩
theorem tw9414375981684259916:True:=⟨⟩
theorem tw5860528819029646118:True:=⟨⟩
theorem tw10673955519470080281:True:=⟨⟩
theorem tw16285899879281566363:True:=⟨⟩
theorem tw1483691542067938100:True:=⟨⟩
theorem tw17239797789118913632:True:=⟨⟩
theorem tw1663256592132599504:True:=⟨⟩
theorem tw7756149956490250737:True:=⟨⟩
theorem tw7264023636945373294:True:=⟨⟩
theorem tw13843390986978276095:True:=⟨⟩
theorem tw7503762672332298081:True:=⟨⟩
theorem tw417105303814277529:True:=⟨⟩
theorem tw3904725477418182763:True:=⟨⟩
theorem tw14114096376500709548:True:=⟨⟩
theorem tw7592304775459784741:True:=⟨⟩
theorem tw13064594549088329239:True:=⟨⟩
theorem tw303923597247734801:True:=⟨⟩
theorem tw7784103016486293816:True:=⟨⟩
theorem tw13687217887437181276:True:=⟨⟩
theorem tw18200963112317642763:True:=⟨⟩
theorem tw9659987413939136067:True:=⟨⟩
theorem tw2302448571767343403:True:=⟨⟩
theorem tw10538355613240892752:True:=⟨⟩
theorem tw17013968138996478158:True:=⟨⟩
theorem tw843020229468129766:True:=⟨⟩
theorem tw3234687088864881641:True:=⟨⟩
theorem tw12588487451198543144:True:=⟨⟩
theorem tw2320470450396732272:True:=⟨⟩
theorem tw10706628358724024697:True:=⟨⟩
theorem tw8460928256166808310:True:=⟨⟩
theorem tw14219920730050017453:True:=⟨⟩
theorem tw8215841653750477293:True:=⟨⟩
theorem tw1722177464555729094:True:=⟨⟩
theorem tw7137219381653490185:True:=⟨⟩
theorem tw118191806398714:True:=⟨⟩
theorem tw6711185893219574610:True:=⟨⟩
theorem tw190847848540985468:True:=⟨⟩
theorem tw17181867030069521839:True:=⟨⟩
theorem tw817664794428628661:True:=⟨⟩
theorem tw3484390354604273938:True:=⟨⟩
theorem tw4101948347336394517:True:=⟨⟩
theorem tw11196781270654969980:True:=⟨⟩
theorem tw4798529464373313244:True:=⟨⟩
theorem tw12371734491551348941:True:=⟨⟩
theorem tw6066204467593264705:True:=⟨⟩
theorem tw8984797556379148350:True:=⟨⟩
theorem tw16897899591025335131:True:=⟨⟩
theorem tw13122191850776668023:True:=⟨⟩
theorem tw2423155299824730722:True:=⟨⟩
theorem tw12603403428528004740:True:=⟨⟩
theorem tw7123025244934436910:True:=⟨⟩
theorem tw3592960952522932347:True:=⟨⟩
theorem tw15341747542769946683:True:=⟨⟩
theorem tw7202152936167517668:True:=⟨⟩
theorem tw9913253550446875189:True:=⟨⟩
theorem tw8805399466366146053:True:=⟨⟩
theorem tw12374863515571465884:True:=⟨⟩
theorem tw11494720644460069203:True:=⟨⟩
theorem tw7823629484719353089:True:=⟨⟩
theorem tw5306629217462320872:True:=⟨⟩
theorem tw6747337922830569980:True:=⟨⟩
theorem tw14263872324712200242:True:=⟨⟩
theorem tw6284159619228878523:True:=⟨⟩
theorem tw2111317052103505580:True:=⟨⟩
theorem tw8277183886080836397:True:=⟨⟩
theorem tw5823892836588838020:True:=⟨⟩
theorem tw2783217996369612638:True:=⟨⟩
theorem tw13975650870609229739:True:=⟨⟩
theorem tw16417288251884021377:True:=⟨⟩
theorem tw12245010094933158983:True:=⟨⟩
theorem tw3005392455929305202:True:=⟨⟩
theorem tw2912530873707452281:True:=⟨⟩
theorem tw12226895849770383042:True:=⟨⟩
theorem tw7102624115170027141:True:=⟨⟩
theorem tw17792306020506714293:True:=⟨⟩
theorem tw14376991810871753836:True:=⟨⟩
theorem tw16594569079070164715:True:=⟨⟩
theorem tw9074557381960360259:True:=⟨⟩
theorem tw4033020622275240770:True:=⟨⟩
theorem tw16300008780921666728:True:=⟨⟩
theorem tw4506805078006796007:True:=⟨⟩
theorem tw8266456851473843192:True:=⟨⟩
theorem tw10233905505887573134:True:=⟨⟩
theorem tw5855541295040889525:True:=⟨⟩
theorem tw11833152932096357378:True:=⟨⟩
theorem tw10934360732876519348:True:=⟨⟩
theorem tw16997391845001443970:True:=⟨⟩
theorem tw3167844673424298283:True:=⟨⟩
theorem tw7909221659082216745:True:=⟨⟩
theorem tw16846788908789914111:True:=⟨⟩
theorem tw669197885646564131:True:=⟨⟩
theorem tw12088407926585466441:True:=⟨⟩
theorem tw12123786903711876387:True:=⟨⟩
theorem tw12838481306937738519:True:=⟨⟩
theorem tw218120742124586634:True:=⟨⟩
theorem tw2018160177047299458:True:=⟨⟩
theorem tw1866133382576262354:True:=⟨⟩
theorem tw6994495874031674373:True:=⟨⟩
theorem tw3357090260957966642:True:=⟨⟩
theorem tw2251911649579239992:True:=⟨⟩
theorem tw16692459250023366252:True:=⟨⟩
theorem tw15880785573352988071:True:=⟨⟩
theorem tw10809658791616959372:True:=⟨⟩
theorem tw9990752577207201702:True:=⟨⟩
theorem tw14009353456062998478:True:=⟨⟩
theorem tw10821668297154365019:True:=⟨⟩
theorem tw12362946482960324618:True:=⟨⟩
theorem tw5669520185155835055:True:=⟨⟩
theorem tw1250040623409308370:True:=⟨⟩
theorem tw847686949159958523:True:=⟨⟩
theorem tw5427869954799595951:True:=⟨⟩
theorem tw5928707085928066280:True:=⟨⟩
theorem tw14454986361945227260:True:=⟨⟩
theorem tw7163717822550924107:True:=⟨⟩
theorem tw10388350353124272455:True:=⟨⟩
theorem tw1410964770935302593:True:=⟨⟩
theorem tw1783597197185507378:True:=⟨⟩
theorem tw2994107382298965924:True:=⟨⟩
theorem tw11674017382131133595:True:=⟨⟩
theorem tw9863349421745164451:True:=⟨⟩
theorem tw473628128552399736:True:=⟨⟩
theorem tw4652556908383274462:True:=⟨⟩
theorem tw4178623599587461549:True:=⟨⟩
theorem tw8081793104390665113:True:=⟨⟩
theorem tw6563906362293188072:True:=⟨⟩
theorem tw2936369891941470049:True:=⟨⟩
theorem tw10879157314928226086:True:=⟨⟩
theorem tw9247629325254702308:True:=⟨⟩
theorem tw12165906093180764411:True:=⟨⟩
theorem tw13330806982081880339:True:=⟨⟩
theorem tw6195666598742787682:True:=⟨⟩
theorem tw9825700004013866375:True:=⟨⟩
theorem tw3536068576325005831:True:=⟨⟩
theorem tw17852756636100750515:True:=⟨⟩
theorem tw4184082225515456205:True:=⟨⟩
theorem tw15336193140671289551:True:=⟨⟩
theorem tw11154421774619692025:True:=⟨⟩
theorem tw9924494331838286162:True:=⟨⟩
theorem tw9437286904410286810:True:=⟨⟩
theorem tw560671439035635:True:=⟨⟩
theorem tw7746834417569601503:True:=⟨⟩
theorem tw14511633326558657682:True:=⟨⟩
theorem tw14413896204426864411:True:=⟨⟩
theorem tw14279315691657810917:True:=⟨⟩
theorem tw249370641303892223:True:=⟨⟩
theorem tw16224779290018196375:True:=⟨⟩
theorem tw10282406322400968147:True:=⟨⟩
theorem tw14707007273156376770:True:=⟨⟩
theorem tw2789902969653041448:True:=⟨⟩
theorem tw4407732802215108432:True:=⟨⟩
theorem tw3210296518100964473:True:=⟨⟩
theorem tw15137330064796031769:True:=⟨⟩
theorem tw9303181813670280994:True:=⟨⟩
theorem tw5534364038573696450:True:=⟨⟩
theorem tw3677717052382265542:True:=⟨⟩
theorem tw2180660273217543620:True:=⟨⟩
theorem tw15139093049816501618:True:=⟨⟩
theorem tw15583774004392949307:True:=⟨⟩
theorem tw13816810115904093016:True:=⟨⟩
theorem tw7632045521563966720:True:=⟨⟩
theorem tw623582812863633244:True:=⟨⟩
theorem tw3288279171407626882:True:=⟨⟩
theorem tw13004161620656446873:True:=⟨⟩
theorem tw11723771111616840823:True:=⟨⟩
theorem tw7490106211906893606:True:=⟨⟩
theorem tw11145484735029395505:True:=⟨⟩
theorem tw10300466038244246034:True:=⟨⟩
theorem tw12158345501119944761:True:=⟨⟩
theorem tw7534371869652930039:True:=⟨⟩
theorem tw5228236189734974117:True:=⟨⟩
theorem tw3829961446152731469:True:=⟨⟩
theorem tw17001903398501054513:True:=⟨⟩
theorem tw4439970401172673668:True:=⟨⟩
theorem tw13605165719643832448:True:=⟨⟩
theorem tw9195627256787805038:True:=⟨⟩
theorem tw7645703087734044244:True:=⟨⟩
theorem tw981584147121241167:True:=⟨⟩
theorem tw14668890910740111433:True:=⟨⟩
theorem tw14129007573202763188:True:=⟨⟩
theorem tw10441501352221348099:True:=⟨⟩
theorem tw3706702916609933095:True:=⟨⟩
theorem tw2188036593877669112:True:=⟨⟩
theorem tw9576888088086574439:True:=⟨⟩
theorem tw7146714939830394002:True:=⟨⟩
theorem tw8596557167358426378:True:=⟨⟩
theorem tw17940104939216061411:True:=⟨⟩
theorem tw8579850615330933531:True:=⟨⟩
theorem tw6008525884478624582:True:=⟨⟩
theorem tw5811932093135163627:True:=⟨⟩
theorem tw5352727111016488417:True:=⟨⟩
theorem tw10950095291996634663:True:=⟨⟩
theorem tw9304317418790796951:True:=⟨⟩
theorem tw7766318142707449707:True:=⟨⟩
theorem tw17745240474987874233:True:=⟨⟩
theorem tw16622817173814065843:True:=⟨⟩
theorem tw10330768444146965066:True:=⟨⟩
theorem tw16002438248849401933:True:=⟨⟩
theorem tw3395360215135316965:True:=⟨⟩
theorem tw8627017278508857112:True:=⟨⟩
theorem tw18039408307450274136:True:=⟨⟩
theorem tw6291530559513447736:True:=⟨⟩
theorem tw15182640441412045490:True:=⟨⟩
theorem tw13779186533311416415:True:=⟨⟩
theorem tw4604776188660489686:True:=⟨⟩
theorem tw232102156876267133:True:=⟨⟩
theorem tw14353692350971136826:True:=⟨⟩
theorem tw9809496807443636394:True:=⟨⟩
theorem tw16601172274773823639:True:=⟨⟩
theorem tw5154753373209235867:True:=⟨⟩
theorem tw1742503808788215149:True:=⟨⟩
theorem tw12890046503100029719:True:=⟨⟩
theorem tw17114220847588113436:True:=⟨⟩
theorem tw17955754458739117906:True:=⟨⟩
theorem tw4764292972167659338:True:=⟨⟩
theorem tw1808458240373463566:True:=⟨⟩
theorem tw7769003301769555191:True:=⟨⟩
theorem tw4231604341493348398:True:=⟨⟩
theorem tw2685961153776155041:True:=⟨⟩
theorem tw13146831686801864851:True:=⟨⟩
theorem tw12246753305002819831:True:=⟨⟩
theorem tw2482370711516629966:True:=⟨⟩
theorem tw10107317542009816306:True:=⟨⟩
theorem tw7994104219274486234:True:=⟨⟩
theorem tw3210242438289361467:True:=⟨⟩
theorem tw15103636769951877364:True:=⟨⟩
theorem tw11077834297658862561:True:=⟨⟩
theorem tw783071505500004100:True:=⟨⟩
theorem tw2587599591528153567:True:=⟨⟩
theorem tw2391867648200705724:True:=⟨⟩
theorem tw11979013682363750454:True:=⟨⟩
theorem tw477510679071087099:True:=⟨⟩
theorem tw7154854337854773720:True:=⟨⟩
theorem tw5187545036036468942:True:=⟨⟩
theorem tw16060551474917051738:True:=⟨⟩
theorem tw5956137409892283293:True:=⟨⟩
theorem tw5729078693216151424:True:=⟨⟩
theorem tw4815840453646946371:True:=⟨⟩
theorem tw11623587925009022933:True:=⟨⟩
theorem tw2840642370505799722:True:=⟨⟩
theorem tw18392092649438290828:True:=⟨⟩
theorem tw12810719151365319389:True:=⟨⟩
theorem tw8140483981346638634:True:=⟨⟩
theorem tw7228219461594259899:True:=⟨⟩
theorem tw7202359795504833489:True:=⟨⟩
theorem tw3834254485762801845:True:=⟨⟩
theorem tw9797894641209437660:True:=⟨⟩
theorem tw9600228870835894069:True:=⟨⟩
theorem tw8870777343168955068:True:=⟨⟩
theorem tw127982038956459674:True:=⟨⟩
theorem tw12301889677682649361:True:=⟨⟩
theorem tw11381893627700879837:True:=⟨⟩
theorem tw4717037494744703905:True:=⟨⟩
theorem tw10667956572886471815:True:=⟨⟩
theorem tw13545415913699047089:True:=⟨⟩
theorem tw5861224458237788138:True:=⟨⟩
theorem tw4325840974084512427:True:=⟨⟩
theorem tw6971417973183323036:True:=⟨⟩
theorem tw18365687795555558194:True:=⟨⟩
theorem tw8718060587910684508:True:=⟨⟩
theorem tw18145174010000045980:True:=⟨⟩
theorem tw3061459038502844244:True:=⟨⟩
theorem tw2977396844708546680:True:=⟨⟩
theorem tw1112263118158125514:True:=⟨⟩
theorem tw899329165742745359:True:=⟨⟩
theorem tw16157634477896883738:True:=⟨⟩
theorem tw8807896709470569012:True:=⟨⟩
theorem tw503940908664685908:True:=⟨⟩
theorem tw1140452704356972920:True:=⟨⟩
theorem tw18094771539877327353:True:=⟨⟩
theorem tw9190962984168348222:True:=⟨⟩
theorem tw7546435201951007623:True:=⟨⟩
theorem tw6572956997695557352:True:=⟨⟩
theorem tw15869449883181381673:True:=⟨⟩
theorem tw5302173578028564464:True:=⟨⟩
theorem tw5597244631790569855:True:=⟨⟩
theorem tw15218960881428551303:True:=⟨⟩
theorem tw11470784010514711759:True:=⟨⟩
theorem tw16837836085740022957:True:=⟨⟩
theorem tw1271152795839016142:True:=⟨⟩
theorem tw976155335585363645:True:=⟨⟩
theorem tw9541785108055076735:True:=⟨⟩
theorem tw9789975823816937894:True:=⟨⟩
theorem tw7051334416156760824:True:=⟨⟩
theorem tw3113337827495542932:True:=⟨⟩
theorem tw2062862854043678884:True:=⟨⟩
theorem tw5133150962069054605:True:=⟨⟩
theorem tw17133987642391522963:True:=⟨⟩
theorem tw15570862088041346326:True:=⟨⟩
theorem tw3817545036043728614:True:=⟨⟩
theorem tw233609307431763263:True:=⟨⟩
theorem tw2310582164590227887:True:=⟨⟩
theorem tw18069470748083720557:True:=⟨⟩
theorem tw9641519475628285841:True:=⟨⟩
theorem tw8156820348389337728:True:=⟨⟩
theorem tw8007300100612455344:True:=⟨⟩
theorem tw6432091106952690862:True:=⟨⟩
theorem tw5921311563969868616:True:=⟨⟩
theorem tw2826631166200959370:True:=⟨⟩
theorem tw17983902501557968538:True:=⟨⟩
theorem tw17285944832158905124:True:=⟨⟩
theorem tw17196672217492054519:True:=⟨⟩
theorem tw16966539577663324174:True:=⟨⟩
theorem tw16035460036446931349:True:=⟨⟩
theorem tw15183642386413837683:True:=⟨⟩
theorem tw14897806012508237120:True:=⟨⟩
theorem tw14261631756680201526:True:=⟨⟩
theorem tw14236626341971872174:True:=⟨⟩
theorem tw10056481546821304368:True:=⟨⟩
theorem tw9209017146313365611:True:=⟨⟩
theorem tw9841309819684085363:True:=⟨⟩
theorem tw9480444766747646281:True:=⟨⟩
theorem tw9053514259984128880:True:=⟨⟩
theorem tw8364322724981282135:True:=⟨⟩
theorem tw7387249741286218974:True:=⟨⟩
theorem tw7238680610377566965:True:=⟨⟩
theorem tw6542366558103615298:True:=⟨⟩
theorem tw5740303893354284699:True:=⟨⟩
theorem tw5545772825168005692:True:=⟨⟩
theorem tw4828812741919202130:True:=⟨⟩
theorem tw417573337388204994:True:=⟨⟩
theorem tw3012598789358496627:True:=⟨⟩
theorem tw2627729053021100253:True:=⟨⟩
theorem tw2070432203389119802:True:=⟨⟩
theorem tw18291397726173493582:True:=⟨⟩
theorem tw17466796259912376508:True:=⟨⟩
theorem tw17227357654267274820:True:=⟨⟩
theorem tw16742422807689601428:True:=⟨⟩
theorem tw16306144906526710156:True:=⟨⟩
theorem tw16189422981820280804:True:=⟨⟩
theorem tw15234621199389160943:True:=⟨⟩
theorem tw14280504413129725603:True:=⟨⟩
theorem tw13928406723327067533:True:=⟨⟩
theorem tw13488699576701725539:True:=⟨⟩
theorem tw13238229644307399917:True:=⟨⟩
theorem tw11729931119497585328:True:=⟨⟩
theorem tw11017057861561105339:True:=⟨⟩
theorem tw11014631955817745703:True:=⟨⟩
theorem tw10586991649485444699:True:=⟨⟩
theorem tw10505476108154274305:True:=⟨⟩
theorem tw1854439535787130120:True:=⟨⟩
theorem tw14841165494851137132:True:=⟨⟩
theorem tw12814834308328153818:True:=⟨⟩
theorem tw17573388378919970862:True:=⟨⟩
theorem tw16274913424889772298:True:=⟨⟩
theorem tw15154474798160190576:True:=⟨⟩
theorem tw12398615514510026946:True:=⟨⟩
theorem tw17126832483149954703:True:=⟨⟩
theorem tw124993748599562640:True:=⟨⟩
theorem tw7305152960277656648:True:=⟨⟩
theorem tw8602665854205959969:True:=⟨⟩
theorem tw7326544222867951161:True:=⟨⟩
theorem tw6025455509421111108:True:=⟨⟩
theorem tw5107293744767110325:True:=⟨⟩
theorem tw17438253708397773819:True:=⟨⟩
theorem tw14463372230236205773:True:=⟨⟩
theorem tw13080025061658367311:True:=⟨⟩
theorem tw2584992203700690016:True:=⟨⟩
theorem tw15435046795427269967:True:=⟨⟩
theorem tw15157212818338774690:True:=⟨⟩
theorem tw8249543762884579819:True:=⟨⟩
theorem tw14304703328747350070:True:=⟨⟩
theorem tw14012442944083926181:True:=⟨⟩
theorem tw13352213620095840255:True:=⟨⟩
theorem tw12698169379465585205:True:=⟨⟩
theorem tw2923485286195272417:True:=⟨⟩
theorem tw17333103191180776415:True:=⟨⟩
theorem tw16915822019389834223:True:=⟨⟩
theorem tw14135619656971138969:True:=⟨⟩
theorem tw9855126193817654061:True:=⟨⟩
theorem tw8511473181118190546:True:=⟨⟩
theorem tw7578880814305166272:True:=⟨⟩
theorem tw5763804148653746014:True:=⟨⟩
theorem tw5296136777368561584:True:=⟨⟩
theorem tw5242107133909775378:True:=⟨⟩
theorem tw2947072831403053180:True:=⟨⟩
theorem tw2166238768013292882:True:=⟨⟩
theorem tw18244003585049124754:True:=⟨⟩
theorem tw18089242772599089895:True:=⟨⟩
theorem tw15468709280983843301:True:=⟨⟩
theorem tw14299830107631116218:True:=⟨⟩
theorem tw13845106272287077489:True:=⟨⟩
theorem tw1374490189455013264:True:=⟨⟩
theorem tw13645618995931739409:True:=⟨⟩
theorem tw13191218330456233220:True:=⟨⟩
theorem tw10720730207435145312:True:=⟨⟩
theorem tw7897004343057161217:True:=⟨⟩
theorem tw9832917836815896571:True:=⟨⟩
theorem tw8334941428108439587:True:=⟨⟩
theorem tw5735861671577148546:True:=⟨⟩
theorem tw15741454396205130423:True:=⟨⟩
theorem tw13598854206839347581:True:=⟨⟩
theorem tw5070739733341320680:True:=⟨⟩
theorem tw17695408700616039250:True:=⟨⟩
theorem tw3394832742360475570:True:=⟨⟩
theorem tw1628184278055684554:True:=⟨⟩
theorem tw3796743045250864572:True:=⟨⟩
theorem tw17632123311420533687:True:=⟨⟩
theorem tw12725051573925532715:True:=⟨⟩
theorem tw9642699664484420117:True:=⟨⟩
theorem tw8540713409871033507:True:=⟨⟩
theorem tw8486694468781920363:True:=⟨⟩
theorem tw3843263618367269195:True:=⟨⟩
theorem tw2791142548864107712:True:=⟨⟩
theorem tw2447688670181133852:True:=⟨⟩
theorem tw6142959600959605235:True:=⟨⟩
theorem tw9106832949415970789:True:=⟨⟩
theorem tw8791512416267719193:True:=⟨⟩
theorem tw7739757022725481808:True:=⟨⟩
theorem tw7690235872050378241:True:=⟨⟩
theorem tw5899585309447303748:True:=⟨⟩
theorem tw585938181210575526:True:=⟨⟩
theorem tw3263278815640631073:True:=⟨⟩
theorem tw2193005407731172782:True:=⟨⟩
theorem tw17864060312469050449:True:=⟨⟩
theorem tw1760594362706432761:True:=⟨⟩
theorem tw17223584055733631696:True:=⟨⟩
theorem tw17163874675268596312:True:=⟨⟩
theorem tw13909015182038822251:True:=⟨⟩
theorem tw12402373892881588222:True:=⟨⟩
theorem tw12050133040588988326:True:=⟨⟩
theorem tw11018968020063064975:True:=⟨⟩
theorem tw10203213222414980315:True:=⟨⟩
theorem tw10198573478219441054:True:=⟨⟩
theorem tw436652065067689452:True:=⟨⟩
theorem tw15448266551835958754:True:=⟨⟩
theorem tw8590769228956647046:True:=⟨⟩
theorem tw7686243493088504609:True:=⟨⟩
theorem tw4134201744547019465:True:=⟨⟩
theorem tw15950053388469518316:True:=⟨⟩
theorem tw2189174732351530802:True:=⟨⟩
theorem tw4978569290680566983:True:=⟨⟩
theorem tw1916076355811945499:True:=⟨⟩
theorem tw2476629866087481417:True:=⟨⟩
theorem tw8312091679082120391:True:=⟨⟩
theorem tw2161583078499224180:True:=⟨⟩
theorem tw17211979243060750309:True:=⟨⟩
theorem tw12642374376770300559:True:=⟨⟩
theorem tw4778636555572776784:True:=⟨⟩
theorem tw14575522252164954327:True:=⟨⟩
theorem tw14183871812059897167:True:=⟨⟩
theorem tw4517796581786216422:True:=⟨⟩
theorem tw9697624684860115687:True:=⟨⟩
theorem tw8221766047488517288:True:=⟨⟩
theorem tw7749600069716291228:True:=⟨⟩
theorem tw6597182162725341880:True:=⟨⟩
theorem tw6470103856997877321:True:=⟨⟩
theorem tw6056821132151619594:True:=⟨⟩
theorem tw5905499697617188291:True:=⟨⟩
theorem tw4303691992136790742:True:=⟨⟩
theorem tw1851691927603225138:True:=⟨⟩
theorem tw16975647614901512081:True:=⟨⟩
theorem tw16975523064936610782:True:=⟨⟩
theorem tw16632324011633721838:True:=⟨⟩
theorem tw14487601553468213450:True:=⟨⟩
theorem tw1408299659896952207:True:=⟨⟩
theorem tw11739840820168866715:True:=⟨⟩
theorem tw1014771511934025329:True:=⟨⟩
theorem tw9927143865109148227:True:=⟨⟩
theorem tw9231225478868513527:True:=⟨⟩
theorem tw6281296661424498503:True:=⟨⟩
theorem tw3972616967227551088:True:=⟨⟩
theorem tw2596977038430922713:True:=⟨⟩
theorem tw14578867295818859492:True:=⟨⟩
theorem tw13211686734789572069:True:=⟨⟩
theorem tw6158219618195059946:True:=⟨⟩
theorem tw6141282636585531960:True:=⟨⟩
theorem tw960463293792849073:True:=⟨⟩
theorem tw8636226712990648954:True:=⟨⟩
theorem tw7912091283202449697:True:=⟨⟩
theorem tw4621377728120109782:True:=⟨⟩
theorem tw4502013927723155808:True:=⟨⟩
theorem tw4419607189612825404:True:=⟨⟩
theorem tw4260058696762480195:True:=⟨⟩
theorem tw4210431718597690985:True:=⟨⟩
theorem tw1975674436135862822:True:=⟨⟩
theorem tw16608886428112943836:True:=⟨⟩
theorem tw14696171610207734903:True:=⟨⟩
theorem tw1087597209967109784:True:=⟨⟩
theorem tw9282926096512107680:True:=⟨⟩
theorem tw5321432347822722483:True:=⟨⟩
theorem tw4176183352359933356:True:=⟨⟩
theorem tw17610214651529041283:True:=⟨⟩
theorem tw16497744787463549488:True:=⟨⟩
theorem tw16189915230271851327:True:=⟨⟩
theorem tw16088816462417851142:True:=⟨⟩
theorem tw12051418754873233020:True:=⟨⟩
theorem tw10967823231581395023:True:=⟨⟩
theorem tw10736760873239111916:True:=⟨⟩
end PySem.W.Fast
open PySem PySem.W PyProof.Rows
set_option maxRecDepth 100000 in
theorem PySem.Challenge.cw_wornpages_k44_changes_holds : PySem.Challenge.rw_wornpages_k44_changes.Holds := by
 (
w_on;o_law;k_head;(case hw=>w_witness2)
k_fill
refine W1.walk (l:=PySem.Challenge.rw_wornpages_k44_changes) rfl rfl (λw h Y=>⟨W.km_in_of Y,λT hT=>W.km_tabs_of Y T (by simp at hT ⊢;first|exact hT|exact hT.symm)⟩) (?T) ?F
case T=>
 intro w T hT;have hT:T=304∨T=579:=by simpa using hT
 rcases hT with rfl|rfl
 ·exact⟨by kernel_rfl,306,by kernel_rfl⟩
 exact⟨by kernel_rfl,583,by kernel_rfl⟩
case F=>
 intro w mg fa h KX G hmg;refine' W1.qJR (z1:=304) (z0:=306) (z3:=579) (z2:=583) KX G hmg ?_ ?_ ?_ ?_ ?_ ?_ ?_ ?_ ?_ ?_ ?_ ?_ ?_ ?_ ?_ ?_ ?_ ?_ ?_ ?_ ?_ ?_ ?_ ?_ ?_ ?_ ?_ ?_ ?_ ?_ ?_ ?_ ?_ ?_ ?_ ?_ ?_ ?_ ?_ ?_ ?_ ?_ ?_ ?_ ?_ ?_ ?_ ?_ ?_ ?_ ?_ ?_ ?_ ?_ ?_ ?_ ?_ ?_ ?_ ?_ ?_ ?_ ?_ ?_ ?_ ?_ ?_ ?_ ?_ ?_ ?_ ?_ ?_ ?_ ?_ ?_ ?_ ?_ ?_ ?_ ?_ ?_ ?_ ?_ ?_ ?_ ?_ ?_ ?_ ?_ ?_ ?_ ?_ ?_ ?_ ?_ ?_ ?_ ?_ ?_ ?_ ?_ ?_ ?_ ?_ ?_ ?_ ?_ ?_ ?_ ?_ ?_ ?_ ?_ ?_ ?_ ?_ ?_ ?_ ?_ ?_ ?_ ?_ ?_ ?_ ?_ ?_ ?_ ?_ ?_ ?_ ?_ ?_ ?_ ?_ ?_ ?_ ?_ ?_ ?_ ?_ ?_ ?_ ?_ ?_ ?_ ?_ ?_ ?_ ?_ ?_ ?_ ?_ ?_ ?_ ?_ ?_ ?_ ?_ ?_ ?_ ?_ ?_ ?_ ?_ ?_ ?_ ?_ ?_ ?_ ?_ ?_ ?_ ?_ ?_ ?_ ?_ ?_ ?_ ?_ ?_ ?_ ?_ ?_ ?_ ?_ ?_ ?_ ?_ ?_ ?_ ?_ ?_ ?_ ?_ ?_ ?_ ?_ ?_ ?_ ?_ ?_ ?_ ?_ ?_ ?_ ?_ ?_ ?_ ?_ ?_ ?_ ?_ ?_ ?_ ?_ ?_ ?_ ?_ ?_ ?_
 any_goals first|k_is|(refine' L2.FnX.of ?fa ?fb;(case fa=>k_is);(case fb=>k_is))|((first|apply And.intro|apply L2.Meth.mk|apply L2.Mk.mk|apply L2.Cls.mk|apply L2.XAt.mk|apply L2.BIni.mk|apply L2.ClM.mk|apply L2.XRd.mk)<;>first|k_is|kernel_rfl)|(show W.findIn _ _ _=_;k_is)
 all_goals first|k_exc|kts_exm|kit_is|kernel_rfl|decide)
