import PyProof.Rows.All
import Wide.All
import OpenK.AllK
import Wide.FinOn
import Lean
import PyProof.EqAt
import PyProof.EqKinds
import PyProof.TupleCall
import PyProof.CompFree
import KE.KSortAsk
import KE.KSortTup
import KE.KRevSl
import PyProof.ZipIter
import PyProof.Draws
import PyProof.TupleIter
import PyProof.Rows.ZipGen
import PyProof.WalksMore
import PyProof.Rows.InDataRows
import PyProof.AttrMissSeq
import KE.KDictOf
import KE.KSortKey
import KE.KLam
import KE.KxText
import PyProof.Rows.Range3
import KE.KDictList
import PyProof.StationsW
import PyProof.Rows.Catch
import PyProof.ExcClass3
import PyProof.ExcBaseAll.ValueError
import OpenK.KOwn
import KE.KIsAll
import PyProof.ExcAttrAll.ValueError
import PyProof.Rows.SetFrom
import PyProof.ListMulRoad
import PyProof.StrOps2
import PyProof.FactsAll.tuple_2
import PyProof.ListStr
import PyProof.FitsBits
import PySem.Challenge.RW_kinnames_k33_whole_places
open PySem.Heap renaming get?_push_of_some→ae,get?_push_size→aA,lt_size→aE,get?_update_other→bA,size_push→bF,get?_update_self→gh,SameBut→gq,IsTuple→oJ,size_update→pE,IsList→tH
open PySem renaming wpAny_bind→af,Value→aj,Addr→ak,Shared→ao,wpAny_pure→ar,sizeLine_eq→aF,Program→aJ,World→aY,FuncData→bg,Heap→bE,PyData→bG,Expr→bJ,boot_len→bL,Around→bO,wpAny_callSpecial?_slot→bS,wpAny_call_entry→bT,wpAny_setField_rec→bZ,wpAny_newObj_type→cj,wpAny_mono→cy,wpAny_field→cM,Builtin→cQ,wpAny_holding→cY,Stmt→c8,wpAny_seqItems→di,wpAny_truthy_bool→dv,IsPair→dI,codeAny_builtin→dP,wpAny_Call_Name_kw→dW,wpAny_pyIter_list→d8,Spec→eh,mem_of_lookup→eA,SetTable→eQ,wpAny_passesOwn→eX,codeAny_mono→fb,wpAny_setState_of→fk,wpAny_pyIter_tuple→fM,tupleKind_room_in1→fQ,wpAny_rule→fR,Scope→fX,wpAny_attempt→f9,plainId_quiet→gb,strKind→gd,wpAny_typeOf→gr,wpAny_pyIter_zip→gu,wpAny_setEntries_of→ig,wpAny_ite_split→ir,wpAny_Constant_int→iu,call_meetsIn→iF,wpAny_pyIter_enum→iI,IsZip→iJ,fits_of_scanBound→iL,isSubtype_type→iM,builtinLookup_eq_fast→iS,call_meets→iW,wpAny_isInstance→iY,wpAny_newList→iZ,wpAny_onRaise→i8,wpAny_loadName_local→jb,wpAny_newFunctionEnv→jd,wpAny_updateSeq_pair→je,codeAny_call_builtin→jj,wpAny_execs_nil→jk,NameKind→kc,wpAny_newTuple→kj,wpAny_letOwnedTupleGo_enum→km,wpAny_letOwnedTupleGo_zip→kz,list_append→lz,wpAny_pyIter_slot→lG,wpAny_comprehension_free→lI,noFill_tuple_add→lP,wpAny_Call_method0_late→lQ,Draws→lV,wpAny_pyNext_enum_itemD→lW,wpAny_askSetting→me,wpAny_Name→mj,Keyword→mm,IsPart→mr,codeAny_compStart_list→mB,wpAny_pyNext_enum_endD→mD,wpAny_loadPart'→mI,codeAny_of_tree→mO,typeLookup_type→mP,wpAny_isTrue_Compare1→mQ,weight_type_call_type→mV,wpAny_of_eq→ng,wpAny_letGo→nh,isSubtype_stop→nj,entryFor_alias→nv,wpAny_fieldsOf→nB,wpAny_Tuple_spliced→nG,evalArgs_none→nI,wpAny_dictSet_pairs→nJ,seq_tuple_add→nO,evalPart_none→nP,wpAny_standAt→nS,signature?_of→nU,Paired→nX,wpAny_call→nZ,PlainAttrs→n6,wpAny_assign_Name→oo,BindsTo→ox,concat_meets→oy,wpAny_sequenceKey→oz,slot_list_getitem→oA,meets_dict_values→oG,wpAny_storeSet_of→oV,wpAny_setEpoch_of→o2,Params→o5,wpAny_pyHash_str→o6,wpAny_eqBool_str→o7,wpAny_execs_cons→o8,Fin→pq,entryFor_of_tree→pD,wpAny_specialOf→pN,wpAny_updateSeq→pZ,GenState→qe,CmpOp→qf,Result→qh,typeIs_int→qj,call→ql,wpAny_setField→qo,wpAny_runValue→qx,KeyKind→rC,intBits_le_64→rE,call_list_seq→rV,wpAny_handled→rX,Arguments→sr,Within→sF
open PySem.W renaming Frag→ag,nsIn→aW,kitOne→bx,mg_none_of→bD,mg_of→bY,kia_one→dm,fnOf→dq,keepIn→dy,kas_place→dC,emptyDict→dH,codeIn→eJ,instObj→eW,kas_desc→fF,looks_pair→gk,kas_asc→iG,kas_descPart→jt,methodObj→lu,cellsFrom_some→mq,kas_rev→mC,OpenLaw→mL,lookIn→m9,kitx_list→oq,kitx_dict→ou,kas_bin→oD,kas_sort→oE,plainGet→o9,kas_count→pk,SharedT→qa,findIn→qg,CodeHd→qp,WalkO→r9,kla_obj→sN,kat_cons→tI
open List renaming length_map→ah,getElem?_eq_some_iff→ai,getElem?_eq_getElem→aq,length_append→au,mem_map→av,getElem?_map→aw,mem_cons_self→az,take_succ_eq_append_getElem→aB,mem_cons_of_mem→aC,mem_cons→aG,size_toArray→aH,length_take→aI,mem_filter→aL,length_cons→aM,getElem?_append_right→aP,map_append→aQ,map_cons→aR,mem_singleton→aS,getElem?_append_left→aT,map_map→aU,mem_append_right→aX,mem_of_getElem?→aZ,mem_flatMap→bf,replicate→bh,take_length→bo,pairwise_map→bq,length_singleton→br,mem_append→bw,nodup_cons→bz,range→bC,mem_range→bI,getD_eq_getElem?_getD→bK,length_drop→bQ,lookup_cons→bU,length_range→bW,length_filter_le→bX,mem_append_left→cb,mem_of_mem_take→cf,length_eq_zero_iff→cq,replicate_succ→cu,sum_cons→cw,pairwise_cons→cI,cons_append→cT,mem_singleton_self→cU,filter_cons_of_pos→cV,filter_cons_of_neg→cX,filter_append→c6,getElem_mem→c9,all_eq_true→da,Nodup→de,getElem_of_mem→du,not_mem_nil→dE,append_assoc→dG,take_of_length_le→dJ,map_congr_left→dM,range_succ→dO,length_replicate→dQ,pairwise_flatMap→dS,getElem_inj→dU,count_pos_iff→dZ,nil_append→eg,flatMap_append→eC,length→eE,drop_zero→eO,getElem?_eq_none→eS,take_append_drop→eT,append_nil→eY,foldl_cons→eZ,forIn_cons→e7,flatten_cons→fc,foldl_append→fg,flatMap_cons→fj,getElem?_take_of_lt→fu,any_cons→fz,forIn_nil→fE,lt_irrefl→fG,getElem_map→fI,take_append_of_le_length→fL,drop_of_length_le→fS,all_map→fU,find?_cons→fY,nodup_append→gi,toArray→gs,ext_getElem→gx,pairwise_iff_getElem→gz,getElem?_zip_eq_some→ia,take_sublist→iD,length_pos_of_mem→iK,lookup_cons_self→iQ,eq_nil_or_concat→iR,mem_erase_of_ne→jg,count_eq_zero_of_not_mem→jh,pairwise_append→ji,length_zip→jo,filterMap_cons→jq,getElem?_range→js,count→ko,map→kr,length_eraseIdx_of_lt→kx,drop_eq_getElem_cons→lg,count_append→lE,length_erase_of_mem→lK,map_take→lL,getElem?_replicate→lO,zipIdx_cons→lX,getElem?_set_self→mi,map_nil→mx,of_mem_zip→mH,zipIdx_nil→mJ,count_cons_of_ne→mR,take_eq_take_min→mS,getElem?_toArray→mW,getElem?_set_ne→m8,take_zero→nq,mem_of_mem_drop→nC,mem_map_of_mem→nK,filter_sublist→nN,all_cons→nR,lt_trans→nT,mem_filterMap→nY,reverse_cons→oB,count_filter→oR,nodup_range→pj,drop_append→pH,map_id→pJ,length_nil→pM,sum_append→pQ,count_cons→pT,foldl→qk,any_map→sR,not_lt→tF
open Nat renaming le_refl→ay,ne_of_lt→bc,zero_le→bp,lt_of_lt_of_le→bu,lt_irrefl→bH,le_trans→bR,lt_succ_of_lt→bV,ne_of_gt→cS,lt_succ_self→dB,le_of_eq→fN,le_succ→gm,sub_self→gv,sub_zero→iH,succ_mul→mw,lt_trans→my,gcd_comm→mE,not_lt_zero→mN,pow_le_pow_right→ny,mul_le_mul_left→nM,le_of_lt→oj,lt_trichotomy→oM,add_zero→oP,mul_succ→oU,succ_ne_self→pA,dvd_mul_left→pF,min_eq_left→p9,mod_lt→qr,mul_comm→sI,gcd→sO,Coprime→tJ
open Option.some renaming inj→aD
open Bool renaming and_eq_true→aO,false_ne_true→aV,false_and→c7,eq_iff_iff→dN,and_self→eG,and_false→eM,false_eq_true→eN,true_and→gc,or_eq_true→jl,false_or→lH,or_false→rT,and_true→sq,true_or→sJ
open Array renaming length_toList→bj,getElem?_eq_getElem→dt,getElem?_toList→dR,toList_inj→iT,toList_push→lr,getElem?_eq_none→mG,toArray_toList→nz,forIn_toList→n9,toList→om,ext→uh
open PySem.Challenge renaming pw_kinnames_k33_whole_places→bB
open PySem.PassesOwn renaming never→bM
open PySem.Obj renaming mapSeq→bN,data_mapFields→n8,putSet→qv
open Prod.mk renaming inj→bP
open PySem.Builtin.SmallTypes renaming nextOf→b0,ownedTupleIsFree→cc,ownedTupleHandOut→ie
open PySem.Str renaming ofString→b8,length→iV,empty→ug
open List.Pairwise renaming imp_of_mem→cg,map→oT
open PySem.F renaming called_enumerate→ck,plainAttrs_dict→cn,slot_dict_values→d6,slot_dict_items→d9,plainAttrs_list→ee,slot_tuple_iterator_next→eP,slot_list_extend→fB,type_list_extend→fC,slot_list_getattribute→fH,type_dict_items→fJ,plainAttrs_str→fT,called_set→fW,slot_dict_setdefault→fZ,slot_zip_next→f6,args_tuple_add_2→ik,type_dict_values→ip,entry_tuple_add→iz,slot_tuple_add→iE,slot_dict_get→iP,args_list_append_2→jc,slot_dict_itemiterator_iter→jf,args_tuple_iterator_next_1→jm,type_dict_setdefault→jn,entry_list_append→jr,entry_tuple_iterator_next→jv,slot_str_startswith→jy,type_str_startswith→jz,slot_list_append→ki,args_dict_values_1→kl,entry_dict_values→ky,plain_extend_loop→ll,args_zip_next_1→lC,args_dict_get_3→lU,entry_zip_next→lY,plain_list_iadd→mh,entry_dict_get→mz,slot_set_iter→mX,args_object_init_3→nk,entry_type_call→oW,typeCall_zip_2→pB,slot_int_rmul→pL,newCall_zip_2→pR,entry_zip_new→pS,plain_set_new→pX,called_zip→sL
open Int renaming eq_ofNat_of_zero_le→cp,le_of_lt→cZ,toNat_natCast→dh,mul_le_mul_of_nonneg_right→dY,gcd_dvd_right→fh,mul_comm→fi,mul_lt_mul_of_pos_right→gj,pow_pos→gn,lt_of_mul_lt_mul_right→gp,mul_assoc→il,mul_right_comm→iw,gcd→i9,dvd_trans→ja,fdiv_eq_ediv_of_nonneg→kb,emod_lt_of_pos→ku,mul_pos→lF,gcd_dvd_left→ma,emod_nonneg→mM,mul_ediv_cancel'→nu,ediv_mul_cancel→nL,lt_trichotomy→oQ,pow_succ→oS,ediv_le_self→pG,ediv_nonneg→pW,mul_nonneg→qt,mul_le_mul→qu,le_of_dvd→se,dvd_refl→sQ,ofNat_le→sT,pow_add→tK
open PyProof.Rows renaming boot_isinstance→cz,callWith_type1→cJ,slot_tuple_getitem→cK,boot_tuple→ef,boot_all→eU,subscriptTail_builtinR→fO,boot_list→fV,listUpdate_at→f7,get?_update_seq→iq,callWith_builtin1→iU,Subscript_→kg,slot_tuple_getitem→kh,AllBare→lx,seqEpoch_at→lB,boot_sorted→lN,boot_bool→mF,entry_list_sort→mK,boot_sum→mT,slot_list_sort→nr,entry_tuple_getitem→nH,getItem_tuple→nQ,args_tuple_getitem→n0,listItems_at→oF,plain_sorted→oN,entry_sorted→oO,kind_sorted→pI,IntsAre→qb,StrsAre→qc,IsTup→qd,slicePart_none→qi,boot_enumerate→qm,args_list_sort→qz,tupleItemsOf_→rS,boot_dict→sS,boot_str→sU,boot_int→sV,boot_max→sX,boot_min→sY,tail_any→tm,SortKind→tG,lt_str→tV,envOfC→tW
open PySem.PyData renaming canLayAll0→cC,eqv→dX,canLay0→d7,depth→eD,depthAll→e8,eqvAll→rW,strOk→sP
open PySem.Paired renaming length→dj,snoc→tE
open PySem.Value renaming isStrOf→dw,isStrOf_shape→eu,isInt→sZ
open List.Perm renaming refl→dz,append_left→sW,length_eq→tT,nodup_iff→tU,cons_inv→ua,mem_iff→uc
open PySem.SeqAt renaming shaped→dA,EqAt→tX
open PySem.Around renaming under_plainId→dD,under_plain→og
open PySem.Builtin.Str renaming strSliceIndices→dF,occurrences→iy,subAt→o4
open Ne renaming symm→d5
open PySem.Calls renaming spliced_cons→eI,callWith_builtin→fP,spliced_nil→iC,Name_function_global→ka,call_function_entry→lq,evalArgs_plain→nc
open Prod renaming ext→eK,snd→qq,fst→uo
open PySem.SetTable renaming below→eR,grown→fK,laid→sf,fits→sg
open PySem.Builtin.Slice renaming slicePlaces→eV,sliceAdjust→gy,sliceApplied→ke,slicePartIndex→pK,sliceFields→rB
open False renaming elim→fm
open PySem.Builtin.Tuple renaming tupleExact→fw,tupleItemsOf→kf,tupleIsExact→rf
open PySem.Builtin.List renaming listTooLong→fA,listLengthHint→jw,listExtendWith→jx,listSameRef→lM
open PySem.AutoSeq1 renaming wpAny_loadPart'→fD
open PySem.Heap.SameBut renaming update→ic,refl→ud
open Option renaming isSome_iff_exists→ij,bind_eq_some_iff→ix,map_eq_some_iff→iB,isSome_map→lA,getD_none→ph
open PyProof.Rows.F renaming plain_set_update_loop→iA,entry_set_update_loop→md
open PySem.Txt renaming startswith→iN,endswith→ju,join→oH,slice→sA
open Nat.Coprime renaming dvd_of_dvd_mul_left→iO
open PySem.Draws renaming list→iX
open Classical renaming byContradiction→lh,choose_spec→mU
open PySem.Shared renaming heap→lD,TypeIs→lJ
open PySem.IsL renaming update→lR
open PySem.Builtin.Dict renaming updateFrom→lZ,addKeywords→rY,selfAndRest→rZ,pairItems→sM
open Sum.inr renaming inj→mY
open PySem.SeqAt.EqAt renaming bool_bool→mZ,str_bool→nE,bool_str→nF,int_str→nV,str_int→nW,int_int→n4,str_str→n5,none_bool→tw,bool_none→tD,none_int→tL,none_str→tO,bool_int→tP,int_none→tQ,int_bool→tR,str_none→tS,same→uk
open PySem.Code renaming quiet_builtin→oa
open PySem.AutoListH renaming list___mul___list_int_3→oh
open PySem.Heap.IsTuple renaming push→oK
open String renaming splitOnAux→oX,splitOn→qy
open PySem.pickOrder renaming go→oY
open PySem.SetTable.below renaming go→oZ
open PySem.Heap.DictOf renaming new→pO
open StateT renaming run_pure→pP
open PySem.Builtin.Frozenset renaming updateFrom→pY,newClass→qw,sizeOf→so,slot0→sC
open PySem.EqNone renaming eq_none_none→rg,eq_none_bool→rh,eq_bool_none→ri,ne_none_none→rl,ne_none_bool→rm,ne_bool_none→ro,eq_none_int→rF,eq_none_str→rG,eq_int_none→rH,eq_str_none→rK,ne_none_int→rM,ne_none_str→rN,ne_int_none→rO,ne_str_none→rQ
open PySem.EqMixed renaming eq_bool_str→rj,eq_str_bool→rk,ne_bool_str→rq,ne_str_bool→rA,eq_int_str→rJ,eq_str_int→rL,ne_int_str→rP,ne_str_int→rR
open PySem.Moved renaming eq_with→sd
open PySem.Builtin.Range renaming rangeSize→su
open PyProof.Rows.IsTup renaming new→sy
open Sum.inl renaming inj→tj
open PySem.Heap.IsSliceOf renaming new→tY
open PySem.W.WShape renaming has→tZ
open PySem.Walks renaming list→t9
open Iff renaming rfl→ub
open List.Sublist renaming refl→ue
open PySem.DictEntry renaming refKey→uf
open PySem.W.Frag renaming In→um
open List.cons renaming inj→ur
set_option Elab.async false
set_option linter.all false
set_option maxRecDepth 100000
set_option maxHeartbeats 4000000
section
namespace L2
open PySem
def inClass (s:c8)(j:Nat):c8:=match s with
 | .ClassDef _ _ _ body _ _ _ _ _ _ _=>body.getD j (.Pass ⟨0,0,0,0⟩)
 |_=>.Pass ⟨0,0,0,0⟩
def defArgs (s:c8):sr:=match s with
 | .FunctionDef _ a _ _ _ _ _ _ _ _=>a
 |_=>{posonlyargs:=[],args:=[],vararg:=none,kwonlyargs:=[],kw_defaults:=[],kwarg:=none,defaults:=[]}
def defBody (s:c8):List c8:=match s with
 | .FunctionDef _ _ b _ _ _ _ _ _ _=>b
 |_=>[]
def defScope (s:c8):fX:=match s with
 | .FunctionDef _ _ _ _ _ _ sc _ _ _=>sc
 |_=>{kind:=.function,names:=[],isGenerator:=false,isCoroutine:=false}
end L2
namespace Kn
open PySem
def top (i:Nat):c8:=bB.main.body.getD i (.Pass ⟨0,0,0,0⟩)
end Kn
namespace Kn
open PySem PySem.W PyProof.Rows
def topRunT (tb:String->Option cQ)(p:aJ)(w:aY)(n₀:Nat)(ann:Option aj):Nat->qa->Thread->Option qa
 |0,_,_=>none
 |n+1,s,t=>match through t with
  |true=>some s
  |false=>match stepOk n₀ ann t with
   |false=>none
   |true=>match stepT (denote tb) p w s t with
    |some (s',t')=>topRunT tb p w n₀ ann n s' t'
    |none=>none
theorem topRun_of {tb:String->Option cQ}{p:aJ}{w:aY}{n₀:Nat}{ann:Option aj}:∀{n:Nat}{s s':qa}{t:Thread},topRunT tb p w n₀ ann n s t=some s'->topRun tb p w n₀ ann n s.abs t=some s'.abs
 |0,_,_,_,h=>by cases h
 |n+1,s,s',t,h=>by
  unfold topRunT at h
  unfold topRun
  cases he:through t with
  |true=>rw[he]at h;cases h;rfl
  |false=>
   rw[he]at h
   cases hk:stepOk n₀ ann t with
   |false=>rw[hk]at h;cases h
   |true=>
    rw[hk]at h
    cases hs:stepT (denote tb) p w s t with
    |none=>rw[hs]at h;cases h
    |some r=>obtain⟨s₂,t₂⟩:=r;rw[hs]at h;rw[stepT_spec hs];exact topRun_of h
def insAll:List Obj->Nat->BT->Option BT
 | [],_,T=>some T
 |o::os,n,T=>match((T.ins n o).get n).isSome with
  |true=>insAll os (n+1) (T.ins n o)
  |false=>none
theorem insAll_abs {life:Life}:∀{os:List Obj}{n:Nat}{T T':BT},insAll os n T=some T'->(absHeap T' (n+os.length) life).objs.toList=(absHeap T n life).objs.toList++os
 | [],n,T,T',h=>by cases h;simp
 |o::os,n,T,T',h=>by
  unfold insAll at h
  cases hi:((T.ins n o).get n).isSome with
  |false=>rw[hi]at h;cases h
  |true=>
   rw[hi]at h
   have h1:=insAll_abs (life:=life) h
   have h2:=absHeap_ins (life:=life) hi
   have e:n+1+os.length=n+(o::os).length:=by rw[aM];omega
   rw[<-e,h1,h2]
   show((absHeap T n life).objs.push o).toList++os=_
   rw[lr,dG];rfl
theorem insAll_of {s:ao}{T:BT}(h:insAll s.heap.objs.toList 0 .nil=some T):(SharedT.mk T s.heap.objs.size s.heap.life s.gens s.drawn s.toks s.os).abs=s:=by
 have h1:=insAll_abs (life:=s.heap.life) h
 have e0:(absHeap .nil 0 s.heap.life).objs.toList=[]:=rfl
 have e1:0+s.heap.objs.toList.length=s.heap.objs.size:=by rw[Nat.zero_add];rfl
 rw[e0,eg,e1]at h1
 have h2:absHeap T s.heap.objs.size s.heap.life=s.heap:=by
  have h3:(absHeap T s.heap.objs.size s.heap.life).objs=s.heap.objs:=iT.mp h1
  have h4:(absHeap T s.heap.objs.size s.heap.life).life=s.heap.life:=rfl
  generalize absHeap T s.heap.objs.size s.heap.life=A at h3 h4
  cases A
  obtain⟨⟨o,l⟩,_,_,_,_⟩:=s
  subst h3 h4
  rfl
 unfold SharedT.abs
 dsimp only
 rw[h2]
def topFromT (tb:String->Option cQ)(p:aJ)(w:aY)(N:Nat)(s₀:ao)(T₀:qa):Option ao :=
 match s₀.heap.isNs mainGlobals&&s₀.gens.size==0 with
 |true=>(topRunT tb p w s₀.heap.objs.size (s₀.heap.nsMap mainGlobals "__annotations__") N T₀ (topStub p)).bind fun t₁=>match staticsOk (importedModules p.main.body) s₀.heap t₁.abs.heap&&namesBound p t₁.abs.heap&&gensDone t₁.abs&&laidKept s₀.heap t₁.abs.heap with
   |true=>some t₁.abs
   |false=>none
 |false=>none
theorem topFrom_of {tb:String->Option cQ}{p:aJ}{w:aY}{N:Nat}{s₀:ao}{T₀:qa}{s₁:ao}(e:T₀.abs=s₀)(h:topFromT tb p w N s₀ T₀=some s₁):topFrom tb p w N s₀=some s₁:=by
 unfold topFromT at h
 unfold topFrom
 cases hb:s₀.heap.isNs mainGlobals&&s₀.gens.size==0 with
 |false=>rw[hb]at h;cases h
 |true=>
  rw[hb]at h
  dsimp only at h⊢
  obtain⟨t₁,h1,h2⟩:=ix.mp h
  have h3:=topRun_of h1
  rw[e]at h3
  rw[h3]
  exact h2
def openEndsT (tb:String->Option cQ)(p:aJ)(w:aY)(N:Nat):Option ao:=(fencedOpening tb p w N).bind fun s₀=>(insAll s₀.heap.objs.toList 0 .nil).bind fun T=>topFromT tb p w N s₀ ⟨T,s₀.heap.objs.size,s₀.heap.life,s₀.gens,s₀.drawn,s₀.toks,s₀.os⟩
theorem openEnds_of {tb:String->Option cQ}{p:aJ}{w:aY}{N:Nat}{s₁:ao}(h:openEndsT tb p w N=some s₁):openEnds tb p w N=some s₁:=by
 obtain⟨s₀,h1,h2⟩:=ix.mp h
 obtain⟨T,h3,h4⟩:=ix.mp h2
 unfold openEnds
 rw[h1]
 exact topFrom_of (insAll_of h3) h4
theorem openMap_of {tb:String->Option cQ}{p:aJ}{w:aY}{N:Nat}{α:Type}{F:ao->α}{r:α}(h:(openEndsT tb p w N).map F=some r):(openEnds tb p w N).map F=some r:=by
 obtain⟨s₁,h1,h2⟩:=iB.mp h
 rw[openEnds_of h1,Option.map_some,h2]
end Kn
open PySem PySem.W PyProof.Rows
namespace Kn
open L2
def kE (P:o5)(x:Str)(t:Nat)(v:aj):DictEntry:=⟨PyData.keyHash P x,.str x t,v⟩
def kF (s:c8)(nm qn:Str)(df kd doc pm:aj)(an:Option ak)(cd ct:aj)(c:aj)(d:Option ak)(sl:Array (Option aj)):Obj :=
 ⟨c,d,.func (dq nm qn (defArgs s) (defBody s) (defScope s) df kd doc pm an cd ct),sl⟩
def kC (n:Str)(a b c:Nat)(i3 i4 i5 i6 i7:Int)(r8:ak)(b9:Bool)(i10:Int)(r11 r13 r14 r15:ak)(i16 i17:Int)(e:Nat):Obj :=
 ⟨.type "code",none,.fields #[.str n a,.str n b,.str (.ofString "/claim/cut.py") c,.int i3 0,.int i4 0,.int i5 0,.int i6 0,.int i7 0,.ref r8,.bool b9,.int i10 0,.ref r11,.none,.ref r13,.ref r14,.ref r15,.int i16 0,.int i17 0,.str (.ofString "/claim/cut.py") e],#[]⟩
def kD (s:c8)(n m:Str)(t:Nat)(c:ak):Obj:=kF s n n .none .none .none (.str m t) none (.ref c) .none (.type "function") none #[]
noncomputable def kfr0:o5->Frag:=fun P=>(nat_lit 2,⟨.none,none,.dict #[] 0,#[]⟩)::
 (nat_lit 3,⟨(.type "dict"),none,.dict #[kE P (.ofString "__name__") 165 (.str (.ofString "law_kinnames_k33_whole_places") 609),kE P (.ofString "__doc__") 166 .none,kE P (.ofString "__package__") 167 .none,kE P (.ofString "__loader__") 168 (.builtin "__main__.__loader__#opaque"),kE P (.ofString "__spec__") 169 .none,kE P (.ofString "__annotations__") 170 (.ref 6),kE P (.ofString "__builtins__") 171 (.ref 4),kE P (.ofString "__file__") 173 (.str (.ofString "/claim/cut.py") 172),kE P (.ofString "__cached__") 174 .none,kE P (.ofString "LikeError") 206 (.ref 24),kE P (.ofString "NoBook") 222 (.ref 37),kE P (.ofString "NoOrder") 238 (.ref 49),kE P (.ofString "NoName") 254 (.ref 61),kE P (.ofString "NoWish") 270 (.ref 73),kE P (.ofString "NoNumber") 286 (.ref 85),kE P (.ofString "LETTERS") 290 (.str (.ofString "abcdefghijklmnopqrstuvwxyz") 289),kE P (.ofString "MOST_LETTERS") 292 (.int (8) 291),kE P (.ofString "MOST_NAMES") 294 (.int (8) 293),kE P (.ofString "MOST_ORDER") 296 (.int (3) 295),kE P (.ofString "is_name") 302 (.ref 92),kE P (.ofString "is_book") 308 (.ref 97),kE P (.ofString "is_whole") 317 (.ref 104),kE P (.ofString "is_order") 324 (.ref 111),kE P (.ofString "is_rising") 330 (.ref 116),kE P (.ofString "need_book") 337 (.ref 123),kE P (.ofString "need_order") 344 (.ref 130),kE P (.ofString "need_whole") 353 (.ref 137),kE P (.ofString "need_name") 360 (.ref 144),kE P (.ofString "end_of") 368 (.ref 151),kE P (.ofString "ends_and_letters") 374 (.ref 156),kE P (.ofString "counted_rows") 387 (.ref 163),kE P (.ofString "NOUGHT") 392 (.ref 164),kE P (.ofString "greatest_divisor") 401 (.ref 171),kE P (.ofString "lowest") 410 (.ref 178),kE P (.ofString "part_in") 418 (.ref 185),kE P (.ofString "ANY") 422 (.str (.ofString "") 421),kE P (.ofString "common_multiple") 430 (.ref 192),kE P (.ofString "whole_weight") 439 (.ref 199),kE P (.ofString "parts_by_rows") 445 (.ref 204),kE P (.ofString "left_of") 453 (.ref 211),kE P (.ofString "may_follow") 461 (.ref 218),kE P (.ofString "heaviest") 469 (.ref 225),kE P (.ofString "next_heaviest") 475 (.ref 230),kE P (.ofString "heaviest_along") 481 (.ref 235),kE P (.ofString "LEAST") 485 (.int (0) 484),kE P (.ofString "MOST") 487 (.int (1) 486),kE P (.ofString "HEAD") 489 (.int (2) 488),kE P (.ofString "TAIL") 491 (.int (3) 490),kE P (.ofString "BARRED") 493 (.int (4) 492),kE P (.ofString "TOLD") 495 (.int (5) 494),kE P (.ofString "MANY_PARTS") 497 (.int (6) 496),kE P (.ofString "MOST_EDGE") 499 (.int (3) 498),kE P (.ofString "MOST_BARRED") 501 (.int (6) 500),kE P (.ofString "is_edge") 508 (.ref 242),kE P (.ofString "is_barred") 514 (.ref 247),kE P (.ofString "is_wish") 521 (.ref 254),kE P (.ofString "need_wish") 528 (.ref 261),kE P (.ofString "has_form") 536 (.ref 268),kE P (.ofString "left_out") 544 (.ref 275),kE P (.ofString "fits") 553 (.ref 282),kE P (.ofString "go_together") 561 (.ref 289),kE P (.ofString "patterns_of_length") 567 (.ref 294),kE P (.ofString "patterns") 576 (.ref 301),kE P (.ofString "MOST_LIKELIEST") 580 (.int (20) 579),kE P (.ofString "heaviest_fitting") 586 (.ref 306),kE P (.ofString "likeliest") 596 (.ref 313),kE P (.ofString "place_of") 608 (.ref 320),kE P (.ofString "_law_cell") 618 (.ref 327),kE P (.ofString "_law_drawn") 628 (.ref 334),kE P (.ofString "_law_name") 634 (.ref 339),kE P (.ofString "_law_book") 646 (.ref 346),kE P (.ofString "_law_wish") 661 (.ref 353),kE P (.ofString "law") 667 (.ref 358)] 73,#[]⟩)::
 (nat_lit 25,⟨(.type "getset_descriptor"),none,.fields #[(.str (.ofString "__weakref__") 202),(.ref 24),(.builtin "ExceptionGroup.__weakref__"),.none],#[]⟩)::
 (nat_lit 91,⟨(.type "code"),none,.fields #[(.str (.ofString "is_name") 297),(.str (.ofString "is_name") 298),(.str (.ofString "/claim/cut.py") 299),(.int (19) 0),(.int (1) 0),(.int (0) 0),(.int (0) 0),(.int (3) 0),(.ref 88),(.bool true),(.int (181) 0),(.ref 89),.none,.none,.none,(.ref 90),(.int (300) 0),(.int (19) 0),(.str (.ofString "/claim/cut.py") 301)],#[]⟩)::
 (nat_lit 92,kD (top 12) "is_name" "kinnames.books" 287 91)::
 (nat_lit 96,⟨(.type "code"),none,.fields #[(.str (.ofString "is_book") 303),(.str (.ofString "is_book") 304),(.str (.ofString "/claim/cut.py") 305),(.int (23) 0),(.int (1) 0),(.int (0) 0),(.int (0) 0),(.int (3) 0),(.ref 93),(.bool true),(.int (181) 0),(.ref 94),.none,.none,.none,(.ref 95),(.int (306) 0),(.int (23) 0),(.str (.ofString "/claim/cut.py") 307)],#[]⟩)::
 (nat_lit 97,kD (top 13) "is_book" "kinnames.books" 287 96)::
 (nat_lit 103,kC "is_whole" 309 310 311 27 3 0 0 3 98 true 181 99 100 101 102 315 27 316)::
 (nat_lit 104,kD (top 14) "is_whole" "kinnames.books" 287 103)::
 (nat_lit 110,kC "is_order" 318 319 320 31 1 0 0 3 105 true 181 106 107 108 109 322 31 323)::
 (nat_lit 111,kD (top 15) "is_order" "kinnames.books" 287 110)::
 (nat_lit 115,⟨(.type "code"),none,.fields #[(.str (.ofString "is_rising") 325),(.str (.ofString "is_rising") 326),(.str (.ofString "/claim/cut.py") 327),(.int (33) 0),(.int (1) 0),(.int (0) 0),(.int (0) 0),(.int (3) 0),(.ref 112),(.bool true),(.int (181) 0),(.ref 113),.none,.none,.none,(.ref 114),(.int (328) 0),(.int (33) 0),(.str (.ofString "/claim/cut.py") 329)],#[]⟩)::
 (nat_lit 116,kD (top 16) "is_rising" "kinnames.books" 287 115)::
 (nat_lit 122,kC "need_book" 331 332 333 35 1 0 0 3 117 true 181 118 119 120 121 335 35 336)::
 (nat_lit 123,kD (top 17) "need_book" "kinnames.books" 287 122)::
 (nat_lit 129,kC "need_order" 338 339 340 38 1 0 0 3 124 true 181 125 126 127 128 342 38 343)::
 (nat_lit 130,kD (top 18) "need_order" "kinnames.books" 287 129)::
 (nat_lit 136,kC "need_whole" 345 346 347 41 3 0 0 3 131 true 181 132 133 134 135 351 41 352)::
 (nat_lit 137,kD (top 19) "need_whole" "kinnames.books" 287 136)::
 (nat_lit 143,kC "need_name" 354 355 356 44 1 0 0 3 138 true 181 139 140 141 142 358 44 359)::
 (nat_lit 144,kD (top 20) "need_name" "kinnames.books" 287 143)::
 (nat_lit 150,kC "end_of" 361 362 363 47 2 0 0 3 145 true 181 146 147 148 149 366 47 367)::
 (nat_lit 151,kD (top 21) "end_of" "kinnames.books" 287 150)::
 (nat_lit 155,⟨(.type "code"),none,.fields #[(.str (.ofString "ends_and_letters") 369),(.str (.ofString "ends_and_letters") 370),(.str (.ofString "/claim/cut.py") 371),(.int (49) 0),(.int (2) 0),(.int (0) 0),(.int (0) 0),(.int (3) 0),(.ref 152),(.bool true),(.int (181) 0),(.ref 153),.none,.none,.none,(.ref 154),(.int (372) 0),(.int (49) 0),(.str (.ofString "/claim/cut.py") 373)],#[]⟩)::
 (nat_lit 156,kD (top 22) "ends_and_letters" "kinnames.books" 287 155)::
 (nat_lit 162,kC "counted_rows" 375 376 377 51 2 0 0 3 157 true 181 158 159 160 161 385 51 386)::
 (nat_lit 163,kD (top 23) "counted_rows" "kinnames.books" 287 162)::
 (nat_lit 164,⟨(.type "tuple"),none,.seq #[(.int (0) 390),(.int (1) 391)] 0,#[]⟩)::
 (nat_lit 170,kC "greatest_divisor" 393 394 395 60 2 0 0 3 165 true 181 166 167 168 169 399 60 400)::
 (nat_lit 171,kD (top 26) "greatest_divisor" "kinnames.shares" 388 170)::
 (nat_lit 177,kC "lowest" 402 403 404 66 2 0 0 3 172 true 181 173 174 175 176 408 66 409)::
 (nat_lit 178,kD (top 27) "lowest" "kinnames.shares" 388 177)::
 (nat_lit 184,kC "part_in" 411 412 413 69 2 0 0 3 179 true 181 180 181 182 183 416 69 417)::
 (nat_lit 185,kD (top 28) "part_in" "kinnames.shares" 388 184)::
 (nat_lit 191,kC "common_multiple" 423 424 425 75 2 0 0 3 186 true 181 187 188 189 190 428 75 429)::
 (nat_lit 192,kD (top 31) "common_multiple" "kinnames.ways" 419 191)::
 (nat_lit 198,kC "whole_weight" 431 432 433 77 1 0 0 3 193 true 181 194 195 196 197 437 77 438)::
 (nat_lit 199,kD (top 32) "whole_weight" "kinnames.ways" 419 198)::
 (nat_lit 203,⟨(.type "code"),none,.fields #[(.str (.ofString "parts_by_rows") 440),(.str (.ofString "parts_by_rows") 441),(.str (.ofString "/claim/cut.py") 442),(.int (82) 0),(.int (1) 0),(.int (0) 0),(.int (0) 0),(.int (3) 0),(.ref 200),(.bool true),(.int (181) 0),(.ref 201),.none,.none,.none,(.ref 202),(.int (443) 0),(.int (82) 0),(.str (.ofString "/claim/cut.py") 444)],#[]⟩)::
 (nat_lit 204,kD (top 33) "parts_by_rows" "kinnames.ways" 419 203)::
 (nat_lit 210,kC "left_of" 446 447 448 87 2 0 0 3 205 true 181 206 207 208 209 451 87 452)::
 (nat_lit 211,kD (top 34) "left_of" "kinnames.ways" 419 210)::
 (nat_lit 217,kC "may_follow" 454 455 456 89 2 0 0 3 212 true 181 213 214 215 216 459 89 460)::
 (nat_lit 218,kD (top 35) "may_follow" "kinnames.ways" 419 217)::
 (nat_lit 224,kC "heaviest" 462 463 464 91 2 0 0 3 219 true 181 220 221 222 223 467 91 468)::
 (nat_lit 225,kD (top 36) "heaviest" "kinnames.ways" 419 224)::
 (nat_lit 229,⟨(.type "code"),none,.fields #[(.str (.ofString "next_heaviest") 470),(.str (.ofString "next_heaviest") 471),(.str (.ofString "/claim/cut.py") 472),(.int (93) 0),(.int (5) 0),(.int (0) 0),(.int (0) 0),(.int (3) 0),(.ref 226),(.bool true),(.int (181) 0),(.ref 227),.none,.none,.none,(.ref 228),(.int (473) 0),(.int (93) 0),(.str (.ofString "/claim/cut.py") 474)],#[]⟩)::
 (nat_lit 230,kD (top 37) "next_heaviest" "kinnames.ways" 419 229)::
 (nat_lit 234,⟨(.type "code"),none,.fields #[(.str (.ofString "heaviest_along") 476),(.str (.ofString "heaviest_along") 477),(.str (.ofString "/claim/cut.py") 478),(.int (103) 0),(.int (5) 0),(.int (0) 0),(.int (0) 0),(.int (3) 0),(.ref 231),(.bool true),(.int (181) 0),(.ref 232),.none,.none,.none,(.ref 233),(.int (479) 0),(.int (103) 0),(.str (.ofString "/claim/cut.py") 480)],#[]⟩)::
 (nat_lit 235,kD (top 38) "heaviest_along" "kinnames.ways" 419 234)::
 (nat_lit 241,kC "is_edge" 502 503 504 122 1 0 0 3 236 true 181 237 238 239 240 506 122 507)::
 (nat_lit 242,kD (top 49) "is_edge" "kinnames.wishes" 482 241)::
 (nat_lit 246,⟨(.type "code"),none,.fields #[(.str (.ofString "is_barred") 509),(.str (.ofString "is_barred") 510),(.str (.ofString "/claim/cut.py") 511),(.int (124) 0),(.int (1) 0),(.int (0) 0),(.int (0) 0),(.int (3) 0),(.ref 243),(.bool true),(.int (181) 0),(.ref 244),.none,.none,.none,(.ref 245),(.int (512) 0),(.int (124) 0),(.str (.ofString "/claim/cut.py") 513)],#[]⟩)::
 (nat_lit 247,kD (top 50) "is_barred" "kinnames.wishes" 482 246)::
 (nat_lit 253,kC "is_wish" 515 516 517 128 1 0 0 3 248 true 181 249 250 251 252 519 128 520)::
 (nat_lit 254,kD (top 51) "is_wish" "kinnames.wishes" 482 253)::
 (nat_lit 260,kC "need_wish" 522 523 524 136 1 0 0 3 255 true 181 256 257 258 259 526 136 527)::
 (nat_lit 261,kD (top 52) "need_wish" "kinnames.wishes" 482 260)::
 (nat_lit 267,kC "has_form" 529 530 531 139 2 0 0 3 262 true 181 263 264 265 266 534 139 535)::
 (nat_lit 268,kD (top 53) "has_form" "kinnames.wishes" 482 267)::
 (nat_lit 274,kC "left_out" 537 538 539 143 2 0 0 3 269 true 181 270 271 272 273 542 143 543)::
 (nat_lit 275,kD (top 54) "left_out" "kinnames.wishes" 482 274)::
 (nat_lit 281,kC "fits" 545 546 547 147 3 0 0 3 276 true 181 277 278 279 280 551 147 552)::
 (nat_lit 282,kD (top 55) "fits" "kinnames.wishes" 482 281)::
 (nat_lit 288,kC "go_together" 554 555 556 152 2 0 0 3 283 true 181 284 285 286 287 559 152 560)::
 (nat_lit 289,kD (top 56) "go_together" "kinnames.wishes" 482 288)::
 (nat_lit 293,⟨(.type "code"),none,.fields #[(.str (.ofString "patterns_of_length") 562),(.str (.ofString "patterns_of_length") 563),(.str (.ofString "/claim/cut.py") 564),(.int (154) 0),(.int (3) 0),(.int (0) 0),(.int (0) 0),(.int (3) 0),(.ref 290),(.bool true),(.int (181) 0),(.ref 291),.none,.none,.none,(.ref 292),(.int (565) 0),(.int (154) 0),(.str (.ofString "/claim/cut.py") 566)],#[]⟩)::
 (nat_lit 294,kD (top 57) "patterns_of_length" "kinnames.wishes" 482 293)::
 (nat_lit 300,kC "patterns" 568 569 570 162 1 0 0 3 295 true 181 296 297 298 299 574 162 575)::
 (nat_lit 301,kD (top 58) "patterns" "kinnames.wishes" 482 300)::
 (nat_lit 305,⟨(.type "code"),none,.fields #[(.str (.ofString "heaviest_fitting") 581),(.str (.ofString "heaviest_fitting") 582),(.str (.ofString "/claim/cut.py") 583),(.int (169) 0),(.int (5) 0),(.int (0) 0),(.int (0) 0),(.int (3) 0),(.ref 302),(.bool true),(.int (181) 0),(.ref 303),.none,.none,.none,(.ref 304),(.int (584) 0),(.int (169) 0),(.str (.ofString "/claim/cut.py") 585)],#[]⟩)::
 (nat_lit 306,kD (top 61) "heaviest_fitting" "kinnames.likely" 577 305)::
 (nat_lit 312,kC "likeliest" 587 588 589 177 4 0 0 3 307 true 181 308 309 310 311 594 177 595)::
 (nat_lit 313,kD (top 62) "likeliest" "kinnames.likely" 577 312)::
 (nat_lit 319,kC "place_of" 597 598 599 183 4 0 0 3 314 true 181 315 316 317 318 606 183 607)::
 (nat_lit 320,kD (top 63) "place_of" "kinnames.likely" 577 319)::
 (nat_lit 326,kC "_law_cell" 611 612 613 189 2 0 0 3 321 true 181 322 323 324 325 616 189 617)::
 (nat_lit 327,kD (top 65) "_law_cell" "law_kinnames_k33_whole_places" 609 326)::
 (nat_lit 333,kC "_law_drawn" 619 620 621 193 3 0 0 3 328 true 181 329 330 331 332 626 193 627)::
 (nat_lit 334,kD (top 66) "_law_drawn" "law_kinnames_k33_whole_places" 609 333)::
 (nat_lit 338,⟨(.type "code"),none,.fields #[(.str (.ofString "_law_name") 629),(.str (.ofString "_law_name") 630),(.str (.ofString "/claim/cut.py") 631),(.int (197) 0),(.int (3) 0),(.int (0) 0),(.int (0) 0),(.int (3) 0),(.ref 335),(.bool true),(.int (181) 0),(.ref 336),.none,.none,.none,(.ref 337),(.int (632) 0),(.int (197) 0),(.str (.ofString "/claim/cut.py") 633)],#[]⟩)::
 (nat_lit 339,kD (top 67) "_law_name" "law_kinnames_k33_whole_places" 609 338)::
 (nat_lit 345,kC "_law_book" 635 636 637 201 4 0 0 3 340 true 181 341 342 343 344 644 201 645)::
 (nat_lit 346,kD (top 68) "_law_book" "law_kinnames_k33_whole_places" 609 345)::
 (nat_lit 352,kC "_law_wish" 647 648 649 206 2 0 0 3 347 true 181 348 349 350 351 659 206 660)::
 (nat_lit 353,kD (top 69) "_law_wish" "law_kinnames_k33_whole_places" 609 352)::
 (nat_lit 357,⟨(.type "code"),none,.fields #[(.str (.ofString "law") 662),(.str (.ofString "law") 663),(.str (.ofString "/claim/cut.py") 664),(.int (216) 0),(.int (1) 0),(.int (0) 0),(.int (0) 0),(.int (3) 0),(.ref 354),(.bool true),(.int (181) 0),(.ref 355),.none,.none,.none,(.ref 356),(.int (665) 0),(.int (216) 0),(.str (.ofString "/claim/cut.py") 666)],#[]⟩)::
 (nat_lit 358,kD (top 70) "law" "law_kinnames_k33_whole_places" 609 357)::[]
noncomputable def kfr:o5->Frag:=fun P=>(nat_lit 220,⟨.none,none,.fields #[],#[]⟩)::kfr0 P
def kas:List ak:=[220,2,3,25,91,92,96,97,103,104,110,111,115,116,122,123,129,130,136,137,143,144,150,151,155,156,162,163,164,170,171,177,178,184,185,191,192,198,199,203,204,210,211,217,218,224,225,229,230,234,235,241,242,246,247,253,254,260,261,267,268,274,275,281,282,288,289,293,294,300,301,305,306,312,313,319,320,326,327,333,334,338,339,345,346,352,353,357,358]
def kq:aJ:=view bB [1,2,3,4,5,6,8,9,10,11,12,13,14,15,16,17,18,19,20,21,22,23,25,26,27,28,30,31,32,33,34,35,36,37,38,40,41,42,43,44,45,46,47,48,49,50,51,52,53,54,55,56,57,58,60,61,62,63,65,66,67,68,69,70]
def klo:List Str:=[]
theorem kas_e:∀P,kas=(kfr P).map (·.1):=fun _=>by kernel_rfl
noncomputable def hl0 (w:aY):=(openEndsT treeTable bB w 5520).map (fun s=>(seen ((recsOf kq).map (·.name)) (ownsOf kq) [] {s with gens:=#[]},s.heap.bltView,(s.heap.keysOk (looseW kq klo) ((recsOf kq).map (·.name)) ((litsOf kq).map (·.1)) ((clssOf kq (looseW kq klo)).map (·.name))&&s.heap.accountedOkI (importedModules bB.main.body)&&s.heap.isNs mainGlobals&&s.heap.isNs builtinsNs&&tablesOk kq s.heap&& (xlAt kq [] s&&recOk [] s)&& (if true=true then s.gens.size==0 else !leftWithCleanup s.gens))))
noncomputable def hr0 (w:aY):=some (expectedOf kq,bltViewBooted,true)
theorem hl0_e:hl0=hl0:=rfl
theorem hr0_e:hr0=hr0:=rfl
noncomputable def hl1 (w:aY):=(openEndsT treeTable bB w 5520).map (fun s=>(tabsOk kq s,pinSeenD kq (drecsOf kq) s,plainSeenE kq (looseW kq klo) s,plainSeenD kq klo s,wideSeen kq s,clsSeenW kq klo s))
noncomputable def hr1 (w:aY):=some (true,pinGoodD (drecsOf kq),plainGoodE kq (looseW kq klo),plainGoodD kq klo,wideGood kq,clsGoodW kq klo)
theorem hl1_e:hl1=hl1:=rfl
theorem hr1_e:hr1=hr1:=rfl
noncomputable def hl2 (w:aY):=(openEndsT treeTable bB w 5520).map (fun s=>(kas.map s.heap.get?))
noncomputable def hr2 (w:aY):=some ((kfr w.params).map fun p=>some p.2)
theorem hl2_e:hl2=hl2:=rfl
theorem hr2_e:hr2=hr2:=rfl
end Kn
name_quick hl0Q for Kn.hl0 by Kn.hl0_e
name_quick hr0Q for Kn.hr0 by Kn.hr0_e
theorem Kn.hq0 (w:aY):PySem.W.Fast.hl0Q w=PySem.W.Fast.hr0Q w:=by kernel_rfl
theorem Kn.hx0 (w:aY):Kn.hl0 w=Kn.hr0 w:=((congrFun PySem.W.Fast.hl0Q_eq w).trans (Kn.hq0 w)).trans (congrFun PySem.W.Fast.hr0Q_eq w).symm
name_quick hl1Q for Kn.hl1 by Kn.hl1_e
name_quick hr1Q for Kn.hr1 by Kn.hr1_e
theorem Kn.hq1 (w:aY):PySem.W.Fast.hl1Q w=PySem.W.Fast.hr1Q w:=by kernel_rfl
theorem Kn.hx1 (w:aY):Kn.hl1 w=Kn.hr1 w:=((congrFun PySem.W.Fast.hl1Q_eq w).trans (Kn.hq1 w)).trans (congrFun PySem.W.Fast.hr1Q_eq w).symm
name_quick hl2Q for Kn.hl2 by Kn.hl2_e
name_quick hr2Q for Kn.hr2 by Kn.hr2_e
theorem Kn.hq2 (w:aY):PySem.W.Fast.hl2Q w=PySem.W.Fast.hr2Q w:=by kernel_rfl
theorem Kn.hx2 (w:aY):Kn.hl2 w=Kn.hr2 w:=((congrFun PySem.W.Fast.hl2Q_eq w).trans (Kn.hq2 w)).trans (congrFun PySem.W.Fast.hr2Q_eq w).symm
theorem Kn.hl:LeftO bB Kn.kq Kn.klo (fun s=>xlAt Kn.kq [] s&&recOk [] s) (Hook.obs (kHook Kn.kfr Kn.kas Kn.kas_e)) (Hook.val (kHook Kn.kfr Kn.kas Kn.kas_e)) 5520:=fun w=>by
 refine Kn.openMap_of ?_
 obtain⟨s,e,x0⟩:=iB.mp (Kn.hx0 w)
 have y1:=Kn.hx1 w
 unfold Kn.hl1 at y1
 rw[e]at y1
 have x1:=aD y1
 have y2:=Kn.hx2 w
 unfold Kn.hl2 at y2
 rw[e]at y2
 have x2:=aD y2
 obtain⟨a1,z0_0⟩:=bP x0
 obtain⟨a2,z0_1⟩:=bP z0_0
 have a3:=z0_1
 obtain⟨a4,z1_0⟩:=bP x1
 obtain⟨a5,z1_1⟩:=bP z1_0
 obtain⟨a6,z1_2⟩:=bP z1_1
 obtain⟨a7,z1_3⟩:=bP z1_2
 obtain⟨a8,z1_4⟩:=bP z1_3
 have a9:=z1_4
 have aK:=x2
 rw[e]
 exact congrArg some (gk (gk a1 (gk a2 (gk a3 (gk a4 (gk a5 (gk a6 (gk a7 (gk a8 a9)))))))) aK)
end
section
namespace L2
open PySem PySem.Spec PyProof.Rows
abbrev zJ:=Sum Int Str
def gC:zJ->aj->Bool
 | .inl k,v=>sZ k v
 | .inr x,v=>dw x v
def zJX (w:aY):zJ->Int
 | .inl k=>hashInt k
 | .inr x=>hashStr w x
theorem jL:∀{k:zJ}{v:aj},gC k v=true->(∃i t,k=Sum.inl i/\v=Value.int i t)\/(∃x t,k=Sum.inr x/\v=Value.str x t)
 | .inl i,v,h=>by
  obtain⟨t,e⟩:=Value.isInt_shape (k:=i) (v:=v) h
  exact .inl ⟨i,t,rfl,e⟩
 | .inr x,v,h=>by
  obtain⟨t,e⟩:=eu (x:=x) (v:=v) h
  exact .inr ⟨x,t,rfl,e⟩
theorem zJY (i:Int)(t:Tok):gC (.inl i) (.int i t)=true:=by simp[gC,sZ]
theorem zJZ (x:Str)(t:Tok):gC (.inr x) (.str x t)=true:=by simp[gC,dw]
theorem zJa (a b:Int):decide ((Sum.inl a:zJ)=Sum.inl b)=(a==b):=by
 by_cases e:a=b
 ·subst e;simp
 ·have h:¬(Sum.inl a:zJ)=Sum.inl b:=fun q=>e (tj q)
  rw[decide_eq_false h]
  exact(beq_eq_false_iff_ne.mpr e).symm
theorem zJb (a b:Str):decide ((Sum.inr a:zJ)=Sum.inr b)=decide (a=b):=by
 by_cases e:a=b
 ·subst e;simp
 ·have h:¬(Sum.inr a:zJ)=Sum.inr b:=fun q=>e (mY q)
  rw[decide_eq_false h,decide_eq_false e]
theorem zJc (a:Int)(b:Str):decide ((Sum.inl a:zJ)=Sum.inr b)=false:=decide_eq_false (fun q=>nomatch q)
theorem zJd (a:Str)(b:Int):decide ((Sum.inr a:zJ)=Sum.inl b)=false:=decide_eq_false (fun q=>nomatch q)
def vR (prog:aJ)(w:aY):rC prog w zJ where
 is:=gC
 hash:=zJX w
 inj:=fun v a b ha hb=>by
  rcases jL ha with⟨i,t,rfl,rfl⟩|⟨x,t,rfl,rfl⟩
  ·rcases jL hb with⟨j,u,rfl,e⟩|⟨y,u,rfl,e⟩
   ·injection e with e1 _;rw[e1]
   ·exact nomatch e
  ·rcases jL hb with⟨j,u,rfl,e⟩|⟨y,u,rfl,e⟩
   ·exact nomatch e
   ·injection e with e1 _;rw[e1]
 byValue:=fun k v h=>by
  rcases jL h with⟨i,t,rfl,rfl⟩|⟨x,t,rfl,rfl⟩<;>rfl
 pyHash:=fun hv h=>by
  rcases jL hv with⟨i,t,rfl,rfl⟩|⟨x,t,rfl,rfl⟩
  ·exact wpAny_pyHash_int h
  ·exact o6 h
 eqBool:=fun hu hv h=>by
  rcases jL hu with⟨i,t,rfl,rfl⟩|⟨x,t,rfl,rfl⟩
  ·rcases jL hv with⟨j,u,rfl,rfl⟩|⟨y,u,rfl,rfl⟩
   ·rw[zJa]at h;exact wpAny_eqBool_int h
   ·rw[zJc]at h;exact nV i t y u _ _ _ _ h
  ·rcases jL hv with⟨j,u,rfl,rfl⟩|⟨y,u,rfl,rfl⟩
   ·rw[zJd]at h;exact nW x t j u _ _ _ _ h
   ·rw[zJb]at h;exact o7 h
 «strs»:=fun k x t v h=>by
  rcases jL h with⟨i,u,rfl,e⟩|⟨y,u,rfl,e⟩
  ·exact nomatch e
  ·injection e with e1 _
   subst e1
   cases v<;>rfl
abbrev yR:=Sum Str Bool
def zFA:yR->aj->Bool
 | .inl x,v=>dw x v
 | .inr b,v=>v==Value.bool b
theorem kM:∀{k:yR}{v:aj},zFA k v=true->(∃x t,k=Sum.inl x/\v=Value.str x t)\/(∃b,k=Sum.inr b/\v=Value.bool b)
 | .inl x,v,h=>by
  obtain⟨t,e⟩:=eu (x:=x) (v:=v) h
  exact .inl ⟨x,t,rfl,e⟩
 | .inr b,v,h=>.inr ⟨b,rfl,eq_of_beq h⟩
def tkH (w:aY):yR->Int
 | .inl x=>hashStr w x
 | .inr b=>reduceHash (if b then 1 else 0)
theorem zJe {prog:aJ}{w:aY}{A:bO}{E:aj->ao->Prop}{s:ao}{b:Bool}{Q:Int->ao->Prop}(h:Q (reduceHash (if b then 1 else 0)) {s with toks:=s.toks+1}) :
  wpAny (model prog w) A (pyHash (.bool b)) Q E s:=by
 refine PySem.W.pyHash_slot (T :="bool") rfl F.slot_bool_hash F.entry_int_hash (F.args_int_hash_1 _) (by decide) (.inl (by cases b<;>rfl)) ?_
 unfold cQ.«int.__hash__»
 cases b
 ·wp_walk
  exact⟨_,_,rfl,h⟩
 ·wp_walk
  exact⟨_,_,rfl,h⟩
def gD (prog:aJ)(w:aY):rC prog w yR where
 is:=zFA
 hash:=tkH w
 inj:=fun v a b ha hb=>by
  rcases kM ha with⟨x,t,rfl,rfl⟩|⟨c,rfl,rfl⟩
  ·rcases kM hb with⟨y,u,rfl,e⟩|⟨d,rfl,e⟩
   ·injection e with e1 _;rw[e1]
   ·exact nomatch e
  ·rcases kM hb with⟨y,u,rfl,e⟩|⟨d,rfl,e⟩
   ·exact nomatch e
   ·injection e with e1;rw[e1]
 byValue:=fun k v h=>by
  rcases kM h with⟨x,t,rfl,rfl⟩|⟨c,rfl,rfl⟩<;>rfl
 pyHash:=fun hv h=>by
  rcases kM hv with⟨x,t,rfl,rfl⟩|⟨c,rfl,rfl⟩
  ·exact o6 h
  ·exact zJe h
 eqBool:=fun hu hv h=>by
  rcases kM hu with⟨x,t,rfl,rfl⟩|⟨c,rfl,rfl⟩
  ·rcases kM hv with⟨y,u,rfl,rfl⟩|⟨d,rfl,rfl⟩
   ·have e:decide ((Sum.inl x:yR)=Sum.inl y)=decide (x=y):=by
     by_cases q:x=y
     ·subst q;simp
     ·rw[decide_eq_false q,decide_eq_false fun z=>q (tj z)]
    rw[e]at h;exact o7 h
   ·rw[decide_eq_false (fun q=>nomatch q)]at h;exact nE x t d _ _ _ _ h
  ·rcases kM hv with⟨y,u,rfl,rfl⟩|⟨d,rfl,rfl⟩
   ·rw[decide_eq_false (fun q=>nomatch q)]at h;exact nF c y u _ _ _ _ h
   ·refine mZ c d _ _ _ _ ?_
    have e:decide ((Sum.inr c:yR)=Sum.inr d)=(c==d):=by cases c<;>cases d<;>rfl
    rw[<-e];exact h
 «strs»:=fun k x t v h=>by
  rcases kM h with⟨y,u,rfl,e⟩|⟨d,rfl,e⟩
  ·injection e with e1 _
   subst e1
   cases v<;>rfl
  ·exact nomatch e
theorem zJf (prog:aJ)(w:aY)(k:zJ)(v:aj):(vR prog w).is k v=gC k v:=rfl
theorem zJg (prog:aJ)(w:aY)(i:Int)(t:Tok):(vR prog w).is (.inl i) (.int i t)=true:=zJY i t
theorem zFB (prog:aJ)(w:aY)(x:Str)(t:Tok):(vR prog w).is (.inr x) (.str x t)=true:=zJZ x t
inductive V where
 |non|bl (b:Bool)|int (i:Int)|str (x:Str)|byt (b:Array UInt8)|flt (b:UInt64)|ref (a:ak)|ty (n:String)
 deriving DecidableEq
def zR:V->aj->Prop
 | .non,u=>u=Value.none
 | .bl b,u=>u=Value.bool b
 | .int i,u=>∃t,u=Value.int i t
 | .str x,u=>∃t,u=Value.str x t
 | .byt b,u=>∃t,u=Value.bytes b t
 | .flt b,u=>∃t,u=Value.float b t
 | .ref a,u=>u=Value.ref a
 | .ty n,u=>u=Value.type n
abbrev zL:List V->List aj->Prop:=nX zR
theorem zL.length {xs:List V}{a:List aj}(r:zL xs a):xs.length=a.length:=dj r
theorem zL.get:∀{xs:List V}{a:List aj}{i:Nat}{x:V},zL xs a->xs[i]?=some x->∃u,a[i]?=some u/\zR x u
 |_,_,_,_,.nil,e=>by simp at e
 |_,_,0,_,.cons r _,e=>by simp at e;subst e;exact⟨_,rfl,r⟩
 |_,_,i+1,x,.cons _ t,e=>by
  obtain⟨u,b,c⟩:=zL.get (i:=i) (x:=x) t (by simpa using e)
  exact⟨u,by simpa using b,c⟩
theorem zL.set {x:V}{u:aj}(r:zR x u):∀{xs:List V}{a:List aj} (i:Nat),zL xs a->zL (xs.set i x) (a.set i u)
 |_,_,_,.nil=>.nil
 |_,_,0,.cons _ t=>.cons r t
 |_,_,i+1,.cons q t=>.cons q (zL.set r i t)
theorem zL.append:∀{xs ys:List V}{a ws:List aj},zL xs a->zL ys ws->zL (xs++ys) (a++ws)
 |_,_,_,_,.nil,s=>s
 |_,_,_,_,.cons r t,s=>.cons r (zL.append t s)
theorem zL.take:∀{xs:List V}{a:List aj} (n:Nat),zL xs a->zL (xs.take n) (a.take n)
 |_,_,0,_=>.nil
 |_,_,_+1,.nil=>.nil
 |_,_,n+1,.cons r t=>.cons r (zL.take n t)
theorem zL.drop:∀{xs:List V}{a:List aj} (n:Nat),zL xs a->zL (xs.drop n) (a.drop n)
 |_,_,0,r=>r
 |_,_,_+1,.nil=>.nil
 |_,_,n+1,.cons _ t=>zL.drop n t
def qM:Option V->Option aj->Prop
 |some v,some u=>zR v u
 |none,none=>True
 |_,_=>False
def KV {κ:Type}:List (κ×V)->List (κ×aj)->Prop:=nX fun(p:κ×V) (q:κ×aj)=>p.1=q.1/\zR p.2 q.2
def kV:zJ->V
 | .inl i=>.int i
 | .inr x=>.str x
def kN:yR->V
 | .inl x=>.str x
 | .inr b=>.bl b
inductive HO where
 |lst (xs:List V)
 |tup (xs:List V)
 |dK (kvs:List (zJ×V))|dT (kvs:List (List yR×V))
 |set (S:Int->Bool) (n:Nat)
 |ins (C dx:ak) (fs:List (Str×V))
 |own (x:ak)
 |xd (fs:List (Str×V))
 |met (f x:ak)
 |rng (lo hi:Int)
 |frz (o:Obj) (u:HO)
 |tbl (ps:Array aj)
 |ext (φ:bE->Prop)
abbrev Hp:=ak->Option HO
def upd (H:Hp)(a:ak)(o:HO):Hp:=fun b=>if b=a then some o else H b
theorem zE {H:Hp}{a:ak}{o:HO}:upd H a o a=some o:=by unfold upd;rw[if_pos rfl]
theorem zG {H:Hp}{a b:ak}{o:HO}(h:b≠a):upd H a o b=H b:=by unfold upd;rw[if_neg h]
theorem zBZ {H:Hp}{a b:ak}{o u:HO}(h:H a=some o)(h':H b=some u)(d:o≠u):a≠b:=by
 intro e;subst e;rw[h]at h';exact d (aD h')
theorem yG {H:Hp}{a b:ak}{o:HO}(h:H a=some o)(h':H b=none):a≠b:=by
 intro e;subst e;rw[h]at h';cases h'
section
variable(P:aJ)(w:aY)
def yS (H:Hp)(h:bE)(a:ak):HO->Prop
 | .lst xs=>xs.length<=sizeLine/\∃(its:List aj) (n:Nat),zL xs its/\h.get? a=some {cls:=.type "list",data:=.seq its.toArray n}
 | .tup xs=>xs.length<=sizeLine/\∃its:List aj,zL xs its/\qd h a its.toArray
 | .dK kvs=>kvs.length<=sizeLine/\(a==sysModules)=false/\∃vs,KV kvs vs/\h.DictOf (vR P w) a vs
 | .dT kvs=>kvs.length<=sizeLine/\(a==sysModules)=false/\∃xs:List (List yR×ak×aj),
   nX (fun(p:List yR×V) (q:List yR×ak×aj)=>p.1=q.1/\H q.2.1=some (.tup (p.1.map kN))/\zR p.2 q.2.2) kvs xs/\
   ∃o es ep,h.get? a=some o/\o.ExactDict/\o.data=.dict es ep/\es.toList=xs.map (entryOfKey (tupleKind (gD P w)))/\(xs.map (·.1)).Nodup
 | .set S n=>h.SetOf (intKind P w) a S n
 | .ins C dx fs=>H dx=some (.own a)/\fs.length<=1000/\dx≠a/\h.get? a=some (eW C dx)/\
   ∃mA,h.Ns1 dx mA/\(∀f,qM (fs.lookup f) (mA f))/\sF mA (fs.map (·.1))
 | .own _=>∃o,h.get? a=some o
 | .xd fs=>∃mA,h.Ns1 a mA/\∀f,qM (fs.lookup f) (mA f)
 | .rng lo hi=>∃t u v,h.get? a=some {cls:=.type "range",data:=.fields #[.int lo t,.int hi u,.int 1 v]}
 | .frz o u=>h.get? a=some o/\yS H h a u
 | .tbl ps=>h.get? a=some {cls:=.none,data:=.fields ps}
 | .met f x=>h.get? a=some (lu (.ref f) (.ref x))
 | .ext φ=>φ h/\(∃o,h.get? a=some o)/\∀h1 h2:bE,φ h1->(∀o,h1.get? a=some o->h2.get? a=some o)->φ h2
def yA (H:Hp)(h:bE):Prop:=∀a o,H a=some o->yS P w H h a o
end
section
variable{P:aJ}{w:aY}{H H':Hp}{h h':bE}{a:ak}{o:HO}
theorem yS.lt (x:yS P w H h a o):a<h.objs.size:=by
 cases o with
 |lst xs=>obtain⟨_,_,_,_,e⟩:=x;exact aE e
 |tup xs=>obtain⟨_,_,_,p⟩:=x;exact p.lt
 |dK kvs=>obtain⟨_,_,_,_,o,_,_,e,_⟩:=x;exact aE e
 |dT kvs=>obtain⟨_,_,_,_,o,_,_,e,_⟩:=x;exact aE e
 |set S n=>obtain⟨o,_,_,_,e,_⟩:=x;exact aE e
 |ins C b fs=>obtain⟨_,_,_,e,_⟩:=x;exact aE e
 |own y=>obtain⟨_,e⟩:=x;exact aE e
 |xd fs=>obtain⟨_,⟨_,_,_,e,_⟩,_⟩:=x;exact aE e
 |rng lo hi=>obtain⟨_,_,_,e⟩:=x;exact aE e
 |frz c u=>obtain⟨e,_⟩:=x;exact aE e
 |tbl ps=>exact aE (show h.get? a=some _ from x)
 |met f y=>exact aE (show h.get? a=some _ from x)
 |ext φ=>obtain⟨_,⟨_,e⟩,_⟩:=x;exact aE e
theorem Paired.mapP {α β:Type}{F G:α->β->Prop}:∀{c:List α}{d:List β},nX F c d->(∀a b,F a b->G a b)->nX G c d
 |_,_,.nil,_=>.nil
 |_,_,.cons r t,f=>.cons (f _ _ r) (Paired.mapP t f)
theorem yS.stay (x:yS P w H h a o)(k:∀b u,(b=a\/H b=some (.own a))->h.get? b=some u->h'.get? b=some u)
  (l:∀b,H b=some (.own a)->H' b=some (.own a)) (m:∀b xs,H b=some (.tup xs)->H' b=some (.tup xs)):yS P w H' h' a o:=by
 induction o with
 |lst xs=>obtain⟨z,its,n,r,e⟩:=x;exact⟨z,its,n,r,k _ _ (.inl rfl) e⟩
 |tup xs=>obtain⟨z,its,r,g,e,c⟩:=x;exact⟨z,its,r,g,k _ _ (.inl rfl) e,c⟩
 |dK kvs=>obtain⟨z,y,vs,r,g,i,ep,e,c⟩:=x;exact⟨z,y,vs,r,g,i,ep,k _ _ (.inl rfl) e,c⟩
 |dT kvs=>
  obtain⟨z,y,xs,r,g,i,ep,e,c⟩:=x
  exact⟨z,y,xs,Paired.mapP r fun p q z=>⟨z.1,m _ _ z.2.1,z.2.2⟩,g,i,ep,k _ _ (.inl rfl) e,c⟩
 |set S n=>obtain⟨g,i,ep,t,e,c⟩:=x;exact⟨g,i,ep,t,k _ _ (.inl rfl) e,c⟩
 |ins C A fs=>
  obtain⟨d,z,ne,e,j,⟨od,i,ep,s,c⟩,r⟩:=x
  exact⟨l _ d,z,ne,k _ _ (.inl rfl) e,j,⟨od,i,ep,k _ _ (.inr d) s,c⟩,r⟩
 |own y=>obtain⟨g,e⟩:=x;exact⟨g,k _ _ (.inl rfl) e⟩
 |xd fs=>obtain⟨j,⟨od,i,ep,e,c⟩,r⟩:=x;exact⟨j,⟨od,i,ep,k _ _ (.inl rfl) e,c⟩,r⟩
 |rng lo hi=>obtain⟨t,u,v,e⟩:=x;exact⟨t,u,v,k _ _ (.inl rfl) e⟩
 |frz g u ih=>obtain⟨e,q⟩:=x;exact⟨k _ _ (.inl rfl) e,ih q⟩
 |tbl ps=>
  have e:h.get? a=some {cls:=.none,data:=.fields ps}:=x
  show h'.get? a=some {cls:=.none,data:=.fields ps}
  exact k a _ (.inl rfl) e
 |met f y=>
  have e:h.get? a=some (lu (.ref f) (.ref y)):=x
  show h'.get? a=some (lu (.ref f) (.ref y))
  exact k a _ (.inl rfl) e
 |ext φ=>obtain⟨p,⟨o,e⟩,st⟩:=x;exact⟨st _ _ p fun o q=>k _ _ (.inl rfl) q,⟨o,k _ _ (.inl rfl) e⟩,st⟩
theorem yA.lt (x:yA P w H h)(e:H a=some o):a<h.objs.size:=(x a o e).lt
theorem yA.fresh (x:yA P w H h)(e:h.objs.size<=a):H a=none:=by
 cases q:H a with
 |none=>rfl
 |some u=>exact absurd (bu (x.lt q) e) (bH _)
theorem yA.kept (x:yA P w H h)(k:∀b u,h.get? b=some u->h'.get? b=some u):yA P w H h':=fun a o e=>
 (x a o e).stay (fun b u _ q=>k b u q) (fun _ q=>q) fun _ _ q=>q
theorem yA.laid (x:yA P w H h)(k:∀b u,h.get? b=some u->h'.get? b=some u)(f:h.objs.size<=a)(new:yS P w (upd H a o) h' a o):yA P w (upd H a o) h':=fun b u e=>by
 have d:=x.fresh f
 by_cases hb:b=a
 ·subst hb;rw[zE]at e;cases e;exact new
 ·rw[zG hb]at e
  exact(x b u e).stay (fun c v _ q=>k c v q) (fun c q=>by rw[zG (yG q d)];exact q) fun c xs q=>by rw[zG (yG q d)];exact q
end
def Rd (H:Hp)(a:ak)(u:HO):Prop:=H a=some u\/∃o,H a=some (.frz o u)
theorem Rd.of {H:Hp}{a:ak}{u:HO}(h:H a=some u):Rd H a u:=.inl h
theorem Rd.ok {P:aJ}{w:aY}{H:Hp}{h:bE}{a:ak}{u:HO}(r:Rd H a u)(x:yA P w H h):yS P w H h a u:=by
 rcases r with r|⟨o,r⟩
 ·exact x a u r
 ·obtain⟨_,q⟩:=x a _ r
  exact q
def Mut:Option HO->Prop
 |some (.lst _)=>True
 |some (.dK _)=>True
 |some (.dT _)=>True
 |some (.set _ _)=>True
 |some (.ins _ _ _)=>True
 |some (.ext _)=>True
 |_=>False
section
variable{P:aJ}{w:aY}{H:Hp}{h h':bE}{x e:ak}{o':HO}
theorem yA.write (ok:yA P w H h)(g:Mut (H x))(l:e=x\/H e=some (.own x))(k:∀b u,b≠e->h.get? b=some u->h'.get? b=some u)(j:∃u,h'.get? e=some u)
  (new:yS P w (upd H x o') h' x o'):yA P w (upd H x o') h':=fun b u q=>by
 have d:∀c y,H c=some (.own y)->c≠x:=fun c y r z=>by subst z;rw[r]at g;exact g
 have f:∀c xs,H c=some (.tup xs)->c≠x:=fun c xs r z=>by subst z;rw[r]at g;exact g
 by_cases hb:b=x
 ·subst hb;rw[zE]at q;cases q;exact new
 ·rw[zG hb]at q
  by_cases a:b=e
  ·have m:H b=some (.own x):=by
    rcases l with z|z
    ·exact absurd (a.trans z) hb
    ·rw[a];exact z
   rw[q]at m;cases m
   obtain⟨v,hv⟩:=j
   exact⟨v,by rw[a];exact hv⟩
  ·refine(ok b u q).stay (fun c v i r=>k c v ?_ r) (fun c r=>by rw[zG (d c b r)];exact r) fun c xs r=>by rw[zG (f c xs r)];exact r
   rcases i with rfl|i
   ·exact a
   ·rintro rfl
    rcases l with z|z
    ·exact d c b i z
    ·rw[i]at z;cases z;exact hb rfl
end
structure Un (fs ex:List ak) (H H':Hp) (h h':bE):Prop where
 keep:∀b o,h.get? b=some o->H b=none->b∉fs->b∉ex->h'.get? b=some o
 slot:∀b o,h.get? b=some o->H b=none->b∈fs->b∉ex->∃sl,h'.get? b=some {o with slots:=sl}
 free:∀b o,h.get? b=some o->H b=none->b∉ex->H' b=none
 there:∀b o,h.get? b=some o->b∉ex->∃o',h'.get? b=some o'
 tups:∀b xs,H b=some (.tup xs)->H' b=some (.tup xs)
 frzs:∀b o u,H b=some (.frz o u)->H' b=some (.frz o u)
 tbls:∀b ps,H b=some (.tbl ps)->∃more,H' b=some (.tbl (ps++more))
section
variable{fs fs' ex ex':List ak}{H H1 H2:Hp}{h h1 h2 h':bE}{a x e:ak}{o:HO}
theorem Un.any (u:Un fs ex H H1 h h1){b:ak}{c:Obj}(q:h.get? b=some c)(n:H b=none)(d:b∉ex):∃f,h1.get? b=some {c with slots:=f}:=by
 by_cases hb:b∈fs
 ·exact u.slot b c q n hb d
 ·exact⟨c.slots,u.keep b c q n hb d⟩
theorem Un.kept (k:∀b u,h.get? b=some u->h'.get? b=some u):Un fs ex H H h h' :=
 ⟨fun b c q _ _ _=>k b c q,fun b c q _ _ _=>⟨c.slots,k b c q⟩,fun _ _ _ n _=>n,fun b c q _=>⟨c,k b c q⟩,fun _ _ q=>q,fun _ _ _ q=>q,fun _ ps q=>⟨#[],by rw[q];simp⟩⟩
theorem Un.refl:Un fs ex H H h h:=Un.kept fun _ _ q=>q
theorem Un.laid (k:∀b u,h.get? b=some u->h'.get? b=some u)(d:h.objs.size<=a)(c:H a=none):Un fs ex H (upd H a o) h h' where
 keep:=fun b u q _ _ _=>k b u q
 slot:=fun b u q _ _ _=>⟨u.slots,k b u q⟩
 free:=fun b u q n _=>by rw[zG (bc (bu (aE q) d))];exact n
 there:=fun b u q _=>⟨u,k b u q⟩
 tups:=fun b xs q=>by rw[zG (yG q c)];exact q
 frzs:=fun b u xs q=>by rw[zG (yG q c)];exact q
 tbls:=fun b ps q=>⟨#[],by rw[zG (yG q c),q];simp⟩
theorem Un.write (d:Mut (H x))(j:e=x\/H e=some (.own x))(k:∀b u,b≠e->h.get? b=some u->h'.get? b=some u)(f:∃u,h'.get? e=some u):Un fs ex H (upd H x o) h h':=by
 have i:∀b,H b=none->b≠x:=fun b n z=>by subst z;rw[n]at d;exact d
 have hb:∀b,H b=none->b≠e:=fun b n z=>by
  subst z
  rcases j with r|r
  ·exact i b n r
  ·rw[n]at r;cases r
 have g:∀b u,H b=some u->¬Mut (some u)->b≠x:=fun b u q nm z=>by subst z;rw[q]at d;exact nm d
 refine⟨fun b u q n _ _=>k b u (hb b n) q,fun b u q n _ _=>⟨u.slots,k b u (hb b n) q⟩,fun b u q n _=>by rw[zG (i b n)];exact n,fun b u q _=>?_,
  fun b xs q=>by rw[zG (g b _ q fun z=>z)];exact q,fun b u xs q=>by rw[zG (g b _ q fun z=>z)];exact q,fun b ps q=>⟨#[],by rw[zG (g b _ q fun z=>z),q];simp⟩⟩
 by_cases c:b=e
 ·subst c;exact f
 ·exact⟨u,k b u c q⟩
end
def trk (h:bE)(H:Hp):List ak:=(bC h.objs.size).filter fun a=>(H a).isSome
def jY (h:bE)(H:Hp):bE:=PySem.W.hideAll h (trk h H)
theorem zJh (h:bE)(H:Hp):(jY h H).objs.size=h.objs.size:=PySem.W.hideAll_size _ _
theorem zJi {h:bE}{H:Hp}{b:ak}{o:Obj}(e:h.get? b=some o)(n:H b=none):(jY h H).get? b=some o :=
 PySem.W.hideAll_get _ e fun a=>by
  have q:(H b).isSome=true:=(aL.mp a).2
  rw[n]at q;simp at q
theorem zJj {h:bE}{H:Hp}{b:ak}{o:Obj}(e:(jY h H).get? b=some o):h.get? b=some o/\H b=none:=by
 have a:h.get? b=some o:=PySem.W.of_hideAll (trk h H) e
 refine⟨a,?_⟩
 cases q:H b with
 |none=>rfl
 |some x=>
  have c:b∈trk h H:=aL.mpr ⟨bI.mpr (aE a),by simp[q]⟩
  have z:(jY h H).get? b=none:=PySem.W.hideAll_none (trk h H) c
  rw[z]at e;cases e
def zJk (g h:bE)(L:ak):List (ak×Obj):=(bC h.objs.size).filterMap fun a=>if a=L\/(g.get? a).isSome=true then none else(h.get? a).map fun o=>(a,o)
def yT (g h:bE)(L d:ak):List (ak×Obj):=(zJk g h L).filter fun p=>decide (p.1≠d)
structure Mod (K:ag) (mg:Str->Option aj) (base:bE):Prop where
 kin:K.In base
 glob:base.Ns mainGlobals mg
 blt:∃mb,base.Ns builtinsNs mb/\∀x:Str,x≠"__name__"->mb x=bootBuiltins x
 nolimit:base.NoLimit
structure Cx where
 prog:aJ
 w:aY
 K:ag
 mg:Str->Option aj
 base:bE
 A:bO
 N:List Str
 s₀:ao
 H₀:Hp
 env:Env
 outer:List Env
 stack:List Env
 ex:List ak
 fn:Str->Bool
 calm:Bool
 pn:List (ak×Obj)
 xe:aj->ao->Prop
def uN (l:List Env):List ak:=l.filterMap (·.frame)
abbrev Cx.fs (X:Cx):List ak:=uN X.outer
def Vis (sc:fX)(x:Str):Prop:=sc.names.lookup x=some .local\/sc.names.lookup x=some .cell\/sc.names.lookup x=some .free
def Loc (sc:fX)(x:Str):Prop:=sc.names.lookup x=some .local\/sc.names.lookup x=some .cell
def zJl (env:Env)(h:bE)(m:Str->Option aj)(x:Str)(u:aj):Prop :=
 (env.kindOf x=some .local/\m x=some u)\/((env.kindOf x=some .cell\/env.kindOf x=some .free)/\∃c,env.cells.lookup x=some c/\h.IsCell c (some u))
structure Cx.Ok (X:Cx):Prop where
 mod:Mod X.K X.mg X.base
 kind:X.env.scope.kind=.function
 glob:X.env.globals=mainGlobals
 blt:X.env.builtins=builtinsNs
 above:X.s₀.heap.objs.size<=X.env.locals
 inj:∀x y c,X.env.cells.lookup x=some c->X.env.cells.lookup y=some c->x=y
 has:∀x,(X.env.kindOf x=some .cell\/X.env.kindOf x=some .free)->∃c,X.env.cells.lookup x=some c
 cab:∀x c,X.fn x=true->X.env.cells.lookup x=some c->X.s₀.heap.objs.size<=c
 hd:X.calm=true->X.A.handled=none
 frames:X.A.frames=some X.stack
 stk:X.stack=X.outer\/(X.stack=X.env::X.outer/\X.env.frame=some X.env.locals)
 exf:∀b∈X.ex,b≠X.env.locals/\∀x c,X.env.cells.lookup x=some c->c≠b
 bs:∀b o,X.base.get? b=some o->X.s₀.heap.get? b=some o/\X.H₀ b=none
 bsz:X.base.objs.size<=X.s₀.heap.objs.size
 noex:∀b o,X.base.get? b=some o->b∉X.ex
 exfs:∀b∈X.ex,b∉X.fs
 funs:X.s₀.heap.FunFrames X.base X.outer
 frf:∀b∈X.fs,X.H₀ b=none
structure Inv (X:Cx) (pins:List (ak×Obj)) (σ:List (Option V)) (H:Hp) (s:ao):Prop where
 ok:X.Ok
 os:s.os=X.s₀.os
 bare:lx s.gens
 base:Un X.fs X.ex X.H₀ H X.s₀.heap s.heap
 loc:∃m,s.heap.Ns X.env.locals m/\∀(i:Nat) (x:Str) (v:V),X.N[i]?=some x->σ[i]?=some (some v)->Vis X.env.scope x->∃u,zR v u/\zJl X.env s.heap m x u
 cell:∀x c,X.env.cells.lookup x=some c->∃v,s.heap.IsCell c v
 free:H X.env.locals=none
 freeC:∀x c,X.env.cells.lookup x=some c->H c=none
 pin:∀p∈X.pn++pins,s.heap.get? p.1=some p.2/\H p.1=none/\p.1≠X.env.locals/\p.1∉X.fs/\∀v,p.2.data≠.cell v
 hok:yA X.prog X.w H s.heap
 len:σ.length=X.N.length
section
variable{X:Cx}{pins:List (ak×Obj)}{σ:List (Option V)}{H H':Hp}{s:ao}{h':bE}
theorem Cx.Ok.nofr (ok:X.Ok){b:ak}{o:Obj}(e:X.base.get? b=some o):b∉X.fs:=fun hb=>by
 have:=(ok.funs.mem hb).1
 rw[e]at this;cases this
theorem Inv.bs (I:Inv X pins σ H s):∀b o,X.base.get? b=some o->s.heap.get? b=some o/\H b=none:=fun b o e=>
 ⟨I.base.keep b o (I.ok.bs b o e).1 (I.ok.bs b o e).2 (I.ok.nofr e) (I.ok.noex b o e),I.base.free b o (I.ok.bs b o e).1 (I.ok.bs b o e).2 (I.ok.noex b o e)⟩
theorem Inv.bk (I:Inv X pins σ H s):∀b o,X.base.get? b=some o->s.heap.get? b=some o:=fun b o e=>(I.bs b o e).1
theorem Inv.mod (I:Inv X pins σ H s):Mod X.K X.mg X.base:=I.ok.mod
theorem Inv.kIn (I:Inv X pins σ H s):X.K.In s.heap:=I.ok.mod.kin.keeps I.bk
theorem Inv.nolimit (I:Inv X pins σ H s):s.heap.NoLimit:=I.ok.mod.nolimit.keeps I.bk
theorem Inv.lt (I:Inv X pins σ H s):X.env.locals<s.heap.objs.size:=let⟨_,a,_⟩:=I.loc;a.lt
theorem Inv.sz (I:Inv X pins σ H s):X.s₀.heap.objs.size<=s.heap.objs.size:=bR I.ok.above (oj I.lt)
theorem Inv.nofs (I:Inv X pins σ H s){a:ak}(h:s.heap.objs.size<=a):a∉X.fs:=fun hb=>by
 obtain⟨_,o,b,_⟩:=I.ok.funs.mem hb
 exact absurd (bu (aE b) (bR I.sz h)) (bH _)
theorem Inv.cne (I:Inv X pins σ H s):∀x c,X.env.cells.lookup x=some c->c≠X.env.locals:=fun x c e z=>by
 obtain⟨v,o,d,hd⟩:=I.cell x c e
 obtain⟨m,⟨f,g,ep,a,b,_⟩,_⟩:=I.loc
 rw[z,a]at d;cases d;rw[b]at hd;cases hd
theorem Inv.funs (I:Inv X pins σ H s):s.heap.FunFrames X.base X.outer:=by
 have all:∀(l:List Env),(∀b∈uN l,b∈X.fs)->X.s₀.heap.FunFrames X.base l->s.heap.FunFrames X.base l:=by
  intro l
  induction l with
  |nil=>intro _ _;trivial
  |cons env r ih=>
   intro c hl
   obtain⟨d,⟨L,o,hf,f,g,hd⟩,h⟩:=hl
   have a:L∈X.fs:=c L (by unfold uN;rw[jq,hf];exact az)
   obtain⟨i,e⟩:=I.base.slot L o g (I.ok.frf L a) a fun z=>I.ok.exfs L z a
   exact⟨d,⟨L,_,hf,f,e,hd⟩,ih (fun b hb=>c b (by unfold uN;rw[jq,hf];exact aC _ hb)) h⟩
 exact all X.outer (fun _ hb=>hb) I.ok.funs
theorem Inv.stack (I:Inv X pins σ H s):s.heap.FunFrames X.base X.stack:=by
 rcases I.ok.stk with e|⟨e,hf⟩
 ·rw[e];exact I.funs
 ·rw[e]
  obtain⟨m,a,_⟩:=I.loc
  refine .cons (by rw[I.ok.kind];decide) hf a ?_ I.funs
  exact Heap.get?_none_of_le (bR I.ok.bsz I.ok.above)
theorem Inv.stkSub (I:Inv X pins σ H s):∀b∈uN X.stack,b∈X.env.locals::X.fs:=fun b hb=>by
 rcases I.ok.stk with e|⟨e,hf⟩
 ·rw[e]at hb;exact aC _ hb
 ·rw[e]at hb
  unfold uN at hb
  rw[jq,hf]at hb
  exact hb
theorem Inv.stkFree (I:Inv X pins σ H s):∀b∈uN X.stack,H b=none:=fun b hb=>by
 rcases aG.mp (I.stkSub b hb)with e|hb
 ·rw[e];exact I.free
 ·obtain⟨_,o,a,_⟩:=I.ok.funs.mem hb
  exact I.base.free b o a (I.ok.frf b hb) fun z=>I.ok.exfs b z hb
theorem Inv.step {g':Array qe}{t':Nat}{d':Drawn}{ch:List ak}(I:Inv X pins σ H s)
  (f:∀b∈ch,(b∈X.ex\/X.s₀.heap.objs.size<=b)/\b≠X.env.locals/\(∀x c,X.env.cells.lookup x=some c->c≠b)/\∀p∈X.pn++pins,p.1≠b)
  (keep:∀b o,b≠X.env.locals->b∉X.fs->b∉ch->s.heap.get? b=some o->H b=none->h'.get? b=some o)
  (slot:∀b o,b≠X.env.locals->b∈X.fs->b∉ch->s.heap.get? b=some o->H b=none->∃C,h'.get? b=some {o with slots:=C}) (free:∀b o,b∉ch->s.heap.get? b=some o->H b=none->H' b=none)
  (there:∀b o,b∉ch->s.heap.get? b=some o->∃y,h'.get? b=some y)
  (tups:∀b xs,H b=some (.tup xs)->H' b=some (.tup xs)) (frzs:∀b o u,H b=some (.frz o u)->H' b=some (.frz o u)) (tbls:∀b ps,H b=some (.tbl ps)->∃more,H' b=some (.tbl (ps++more)))
  (ns:∀m,s.heap.Ns X.env.locals m->h'.Ns X.env.locals m) (hok:yA X.prog X.w H' h') (J:lx g') :
  Inv X pins σ H' {s with heap:=h',gens:=g',drawn:=d',toks:=t'}:=by
 have A:∀b o,X.s₀.heap.get? b=some o->b≠X.env.locals:=fun b o e=>bc (bu (aE e) I.ok.above)
 have j:∀b o,X.s₀.heap.get? b=some o->b∉X.ex->b∉ch:=fun b o e a hb=>by
  rcases(f b hb).1 with z|z
  ·exact a z
  ·exact absurd (bu (aE e) z) (bH _)
 have g:∀x c,X.env.cells.lookup x=some c->∀v,s.heap.IsCell c v->h'.IsCell c v:=fun x c e v ⟨o,t,hd⟩=>by
  have h:c∉ch:=fun z=>(f c z).2.2.1 x c e rfl
  by_cases E:c∈X.fs
  ·obtain⟨C,q⟩:=slot c o (I.cne x c e) E h t (I.freeC x c e)
   exact⟨_,q,hd⟩
  ·exact⟨o,keep c o (I.cne x c e) E h t (I.freeC x c e),hd⟩
 refine⟨I.ok,I.os,J,⟨fun b o e n hb a=>?_,fun b o e n hb a=>?_,fun b o e n a=>?_,fun b o e a=>?_,fun b xs e=>tups b xs (I.base.tups b xs e),fun b o xs e=>frzs b o xs (I.base.frzs b o xs e),fun b ps e=>?_⟩,?_,fun x c e=>?_,?_,fun x c e=>?_,fun p F=>?_,hok,I.len⟩
 ·exact keep b o (A b o e) hb (j b o e a) (I.base.keep b o e n hb a) (I.base.free b o e n a)
 ·obtain⟨C,e1⟩:=I.base.slot b o e n hb a
  obtain⟨D,B⟩:=slot b _ (A b o e) hb (j b o e a) e1 (I.base.free b o e n a)
  exact⟨D,B⟩
 ·obtain⟨y,e1⟩:=I.base.there b o e a
  exact free b y (j b o e a) e1 (I.base.free b o e n a)
 ·obtain⟨y,e1⟩:=I.base.there b o e a
  exact there b y (j b o e a) e1
 ·obtain⟨L,e1⟩:=I.base.tbls b ps e
  obtain⟨M,B⟩:=tbls b _ e1
  exact⟨L++M,by rw[B,Array.append_assoc]⟩
 ·obtain⟨m,N,hl⟩:=I.loc
  refine⟨m,ns m N,fun i x v e1 B O=>?_⟩
  obtain⟨u,r,l⟩:=hl i x v e1 B O
  refine⟨u,r,?_⟩
  rcases l with l|⟨k,c,e,z⟩
  ·exact .inl l
  ·exact .inr ⟨k,c,e,g x c e _ z⟩
 ·obtain⟨v,z⟩:=I.cell x c e
  exact⟨v,g x c e v z⟩
 ·obtain⟨m,⟨o,_,_,t,_⟩,_⟩:=I.loc
  exact free _ o (fun z=>(f _ z).2.1 rfl) t I.free
 ·obtain⟨v,o,t,hd⟩:=I.cell x c e
  exact free c o (fun z=>(f c z).2.2.1 x c e rfl) t (I.freeC x c e)
 ·obtain⟨e,n,ne,G,d⟩:=I.pin p F
  have h:p.1∉ch:=fun z=>(f p.1 z).2.2.2 p F rfl
  exact⟨keep p.1 p.2 ne G h e n,free p.1 p.2 h e n,ne,G,d⟩
theorem Inv.un {t':Nat}(I:Inv X pins σ H s)(u:Un X.fs [] H H' s.heap h')(hok:yA X.prog X.w H' h'):Inv X pins σ H' {s with heap:=h',toks:=t'}:=by
 obtain⟨m,⟨o,i,ep,d,r⟩,_⟩:=id I.loc
 obtain⟨j,f⟩:=u.any d I.free (by simp)
 exact I.step (g':=s.gens) (d':=s.drawn) (ch:=[]) (fun _ z=>nomatch z) (fun b o _ hb _ e n=>u.keep b o e n hb (by simp)) (fun b o _ hb _ e n=>u.slot b o e n hb (by simp)) (fun b o _ e n=>u.free b o e n (by simp)) (fun b o _ e=>u.there b o e (by simp)) u.tups u.frzs u.tbls (fun l g=>by
  obtain⟨p,es',c,a,h⟩:=g
  rw[d]at a;cases a
  exact⟨_,es',c,f,h⟩) hok I.bare
theorem Inv.call {g':Array qe}{t':Nat}{d':Drawn}{ch:List ak}(I:Inv X pins σ H s)(u:Un (uN X.stack) ch H H' s.heap h')(hok:yA X.prog X.w H' h')(j:lx g')
  (d:∀b∈ch,(b∈X.ex\/X.s₀.heap.objs.size<=b)/\b≠X.env.locals/\(∀x c,X.env.cells.lookup x=some c->c≠b)/\∀p∈X.pn++pins,p.1≠b) :
  Inv X pins σ H' {s with heap:=h',gens:=g',drawn:=d',toks:=t'}:=by
 obtain⟨m,⟨o,t,ep,i,r⟩,_⟩:=id I.loc
 obtain⟨v,g⟩:=u.any i I.free fun z=>(d _ z).2.1 rfl
 exact I.step (ch:=ch) d (fun b o g hb a e n=>u.keep b o e n (fun z=>(aG.mp (I.stkSub b z)).elim g hb) a) (fun b o _ _ a e n=>u.any e n a) (fun b o a e n=>u.free b o e n a) (fun b o a e=>u.there b o e a) u.tups u.frzs u.tbls (fun y l=>by
  obtain⟨A,es',h,f,q⟩:=l
  rw[i]at f;cases f
  exact⟨_,es',h,g,q⟩) hok j
theorem Inv.turned {t':Nat}{it:ak}(I:Inv X pins σ H s)(k:∀b o,b≠it->s.heap.get? b=some o->h'.get? b=some o)(g:H it=none)(f:it≠X.env.locals)
  (h:it∈X.ex\/X.s₀.heap.objs.size<=it) (i:∀x c,X.env.cells.lookup x=some c->c≠it) (j:∀p∈X.pn++pins,p.1≠it):Inv X pins σ H {s with heap:=h',toks:=t'}:=by
 have d:∀b u,H b=some u->b≠it:=fun b u e z=>by rw[z,g]at e;cases e
 refine I.step (g':=s.gens) (d':=s.drawn) (ch:=[it]) (fun b hb=>?_) (fun b o _ _ a e _=>k b o (fun z=>a (by simp[z])) e) (fun b o _ _ a e _=>⟨o.slots,k b o (fun z=>a (by simp[z])) e⟩) (fun _ _ _ _ n=>n)
  (fun b o a e=>⟨o,k b o (fun z=>a (by simp[z])) e⟩) (fun _ _ e=>e) (fun _ _ _ e=>e) (fun b ps e=>⟨#[],by rw[e];simp⟩) (fun m l=>?_) (fun b u e=>?_) I.bare
 ·have e:b=it:=by simpa using hb
  subst e
  exact⟨h,f,i,j⟩
 ·obtain⟨o,t,ep,w,r⟩:=l
  exact⟨o,t,ep,k _ o (d5 f) w,r⟩
 ·refine(I.hok b u e).stay (fun c v a q=>k c v ?_ q) (fun _ q=>q) fun _ _ q=>q
  rcases a with z|z
  ·rw[z];exact d b u e
  ·exact d c _ z
theorem Inv.tok (I:Inv X pins σ H s)(t:Nat):Inv X pins σ H {s with toks:=t}:=I.un (h':=s.heap) (t':=t) Un.refl I.hok
theorem Inv.kept {t':Nat}(I:Inv X pins σ H s)(k:∀b u,s.heap.get? b=some u->h'.get? b=some u):Inv X pins σ H {s with heap:=h',toks:=t'}:=I.un (Un.kept k) (I.hok.kept k)
theorem Inv.laid {a:ak}{o:HO}{t':Nat}(I:Inv X pins σ H s)(k:∀b u,s.heap.get? b=some u->h'.get? b=some u)(c:s.heap.objs.size<=a)(new:yS X.prog X.w (upd H a o) h' a o) :
  Inv X pins σ (upd H a o) {s with heap:=h',toks:=t'}:=I.un (Un.laid k c (I.hok.fresh c)) (I.hok.laid k c new)
theorem Inv.write {x e:ak}{o:HO}{t':Nat}(I:Inv X pins σ H s)(c:Mut (H x))(d:e=x\/H e=some (.own x))(k:∀b u,b≠e->s.heap.get? b=some u->h'.get? b=some u)(a:∃u,h'.get? e=some u)
  (new:yS X.prog X.w (upd H x o) h' x o):Inv X pins σ (upd H x o) {s with heap:=h',toks:=t'}:=I.un (Un.write c d k a) (I.hok.write c d k a new)
theorem Inv.pins_of {pins':List (ak×Obj)}(I:Inv X pins σ H s)(h:∀p∈pins',s.heap.get? p.1=some p.2/\H p.1=none/\p.1≠X.env.locals/\p.1∉X.fs/\∀v,p.2.data≠.cell v):Inv X pins' σ H s :=
 ⟨I.ok,I.os,I.bare,I.base,I.loc,I.cell,I.free,I.freeC,fun p a=>(bw.mp a).elim (fun z=>I.pin p (cb _ z)) (h p),I.hok,I.len⟩
theorem zFC {N:List Str}(c:N.Nodup){i j:Nat}{x:Str}(a:N[i]?=some x)(b:N[j]?=some x):i=j:=by
 obtain⟨e,e1⟩:=ai.mp a
 obtain⟨f,d⟩:=ai.mp b
 exact(dU c).mp (e1.trans d.symm)
theorem zJm {M:Model}{A:bO}{E:aj->ao->Prop}{i:Nat}{x:Str}{v:V}{u:aj}{Q:Unit->ao->Prop}(I:Inv X pins σ H s)(hN:X.N.Nodup)(hi:X.N[i]?=some x)(t:Loc X.env.scope x)(r:zR v u)
  (h:∀s',Inv X pins (σ.set i (some v)) H s'->(∃a,gq a s.heap s'.heap/\(a=X.env.locals\/X.env.cells.lookup x=some a))->Q () s') (hf:X.fn x=true\/X.env.scope.names.lookup x=some .local:=by first|exact .inl rfl|exact .inr rfl|assumption):wpAny M A (storeName X.env x u) Q E s:=by
 obtain⟨m,Y,hl⟩:=id I.loc
 have J:(X.env.scope.kind== .class||(X.env.scope.kind== .module&&X.env.locals !=X.env.globals))=false:=by rw[I.ok.kind];rfl
 have L:i<σ.length:=by rw[I.len];exact(ai.mp hi).1
 have cne:=I.cne
 have g:∀{a:ak} {h':bE},(∃o,s.heap.get? a=some o/\H a=none)->gq a s.heap h'->yA X.prog X.w H h':=fun{a h'} ha f b ob e=>by
  obtain⟨_,_,B⟩:=ha
  refine(I.hok b ob e).stay (fun c U l q=>(f.2 c ?_).trans q) (fun _ q=>q) fun _ _ q=>q
  rintro rfl
  rcases l with rfl|l
  ·rw[B]at e;cases e
  ·rw[B]at l;cases l
 rcases t with D|D
 ·refine wpAny_storeName_local D Y (fun h' Z f=>?_) J
  obtain⟨oL,_,_,aa,_⟩:=id Y
  refine h _ ⟨I.ok,I.os,I.bare,⟨fun b o e n hb t=>?_,fun b o e n hb t=>?_,I.base.free,fun b o e t=>?_,I.base.tups,I.base.frzs,I.base.tbls⟩,⟨_,Z,fun j y v' e1 C e3=>?_⟩,fun y c e=>?_,I.free,I.freeC,fun p hp=>?_,g ⟨oL,aa,I.free⟩ f,by simpa using I.len⟩ ⟨_,f,.inl rfl⟩
  ·exact(f.2 b (bc (bu (aE e) I.ok.above))).trans (I.base.keep b o e n hb t)
  ·obtain⟨sl,e1⟩:=I.base.slot b o e n hb t
   exact⟨sl,(f.2 b (bc (bu (aE e) I.ok.above))).trans e1⟩
  ·obtain⟨o',e1⟩:=I.base.there b o e t
   exact⟨o',(f.2 b (bc (bu (aE e) I.ok.above))).trans e1⟩
  ·by_cases F:j=i
   ·subst F
    rw[hi]at e1;cases e1
    rw[mi L]at C
    cases C
    exact⟨u,r,.inl ⟨D,by simp⟩⟩
   ·rw[m8 (d5 F)]at C
    obtain⟨u',r',q⟩:=hl j y v' e1 C e3
    refine⟨u',r',?_⟩
    rcases q with⟨k,e⟩|⟨k,c,e,z⟩
    ·refine .inl ⟨k,?_⟩
     have:y≠x:=fun e=>F (zFC hN e1 (e▸hi))
     simp[this,e]
    ·exact .inr ⟨k,c,e,z.sameBut f (cne y c e)⟩
  ·obtain⟨U,z⟩:=I.cell y c e
   exact⟨U,z.sameBut f (cne y c e)⟩
  ·obtain⟨e,n,ne,nf,d⟩:=I.pin p hp
   exact⟨(f.2 p.1 ne).trans e,n,ne,nf,d⟩
 ·have G:X.fn x=true:=by
   rcases hf with z|z
   ·exact z
   ·rw[z]at D;cases D
  obtain⟨c,l⟩:=I.ok.has x (.inl D)
  obtain⟨U,z⟩:=I.cell x c l
  refine wpAny_storeName_cell I.ok.kind D l z (fun h' O f=>?_)
  obtain⟨oc,P,R⟩:=id z
  refine h {s with heap:=h'} ⟨I.ok,I.os,I.bare,⟨fun b o e n hb t=>?_,fun b o e n hb t=>?_,I.base.free,fun b o e t=>?_,I.base.tups,I.base.frzs,I.base.tbls⟩,⟨m,Y.sameBut f (d5 (cne x c l)),fun j y v' e1 C e3=>?_⟩,fun y W e=>?_,I.free,I.freeC,fun p hp=>?_,g ⟨oc,P,I.freeC x c l⟩ f,by simpa using I.len⟩ ⟨c,f,.inr l⟩
  ·exact(f.2 b (bc (bu (aE e) (I.ok.cab x c G l)))).trans (I.base.keep b o e n hb t)
  ·obtain⟨sl,e1⟩:=I.base.slot b o e n hb t
   exact⟨sl,(f.2 b (bc (bu (aE e) (I.ok.cab x c G l)))).trans e1⟩
  ·obtain⟨o',e1⟩:=I.base.there b o e t
   exact⟨o',(f.2 b (bc (bu (aE e) (I.ok.cab x c G l)))).trans e1⟩
  ·by_cases F:j=i
   ·subst F
    rw[hi]at e1;cases e1
    rw[mi L]at C
    cases C
    exact⟨u,r,.inr ⟨.inl D,c,l,O⟩⟩
   ·rw[m8 (d5 F)]at C
    obtain⟨u',r',q⟩:=hl j y v' e1 C e3
    refine⟨u',r',?_⟩
    rcases q with q|⟨k,W,e,z'⟩
    ·exact .inl q
    ·refine .inr ⟨k,W,e,z'.sameBut f ?_⟩
     rintro rfl
     exact F (zFC hN e1 (I.ok.inj _ _ _ e l▸hi))
  ·by_cases T:W=c
   ·subst T;exact⟨_,O⟩
   ·obtain⟨w2,z2⟩:=I.cell y W e
    exact⟨w2,z2.sameBut f T⟩
  ·obtain⟨e,n,ne,nf,d⟩:=I.pin p hp
   refine⟨(f.2 p.1 ?_).trans e,n,ne,nf,d⟩
   intro q
   rw[q,P]at e
   have q':oc=p.2:=aD e
   exact d U (by rw[<-q'];exact R)
theorem zCl {M:Model}{A:bO}{E:aj->ao->Prop}{i:Nat}{x:Str}{v:V}{u:aj}{Q:Unit->ao->Prop}(I:Inv X pins σ H s)(a:X.N.Nodup)(hi:X.N[i]?=some x)(b:Loc X.env.scope x)(r:zR v u)
  (h:∀s',Inv X pins (σ.set i (some v)) H s'->Q () s') (hf:X.fn x=true\/X.env.scope.names.lookup x=some .local:=by first|exact .inl rfl|exact .inr rfl|assumption):wpAny M A (storeName X.env x u) Q E s :=
 zJm I a hi b r (fun s' c _=>h s' c) hf
theorem Inv.call' {s':ao}{ch:List ak}(I:Inv X pins σ H s)(d:s'.os=s.os)(u:Un (uN X.stack) ch H H' s.heap s'.heap)(hok:yA X.prog X.w H' s'.heap)(f:lx s'.gens)
  (a:∀b∈ch,(b∈X.ex\/X.s₀.heap.objs.size<=b)/\b≠X.env.locals/\(∀x c,X.env.cells.lookup x=some c->c≠b)/\∀p∈X.pn++pins,p.1≠b):Inv X pins σ H' s':=by
 obtain⟨h',g',d',t',g⟩:=s'
 have e:g=s.os:=d
 subst e
 exact I.call (g':=g') (t':=t') (d':=d') u hok f a
end
abbrev XK:=aj->Option ak->Hp->Prop
abbrev St:=List (Option V)
abbrev VK:=V->Hp->Prop
abbrev TE:=St->Hp->VK->Prop
abbrev TT:=St->Hp->(Bool->Hp->Prop)->Prop
abbrev TA:=St->Hp->(List V->Hp->Prop)->Prop
structure Ends where
 nx:St->Hp->Prop
 rt:VK
 bk:St->Hp->Prop:=fun _ _=>False
 ct:St->Hp->Prop:=fun _ _=>False
abbrev TS:=Ends->St->Hp->Prop
def EP (X:Cx)(pins:List (ak×Obj))(σ:St)(Q:VK)(u:aj)(s':ao):Prop:=∃v H',Inv X pins σ H' s'/\zR v u/\Q v H'
def TP (X:Cx)(pins:List (ak×Obj))(σ:St)(Q:Bool->Hp->Prop)(b:Bool)(s':ao):Prop:=∃H',Inv X pins σ H' s'/\Q b H'
def AP (X:Cx)(pins:List (ak×Obj))(σ:St)(Q:List V->Hp->Prop)(us:List aj)(s':ao):Prop:=∃vs H',Inv X pins σ H' s'/\zL vs us/\Q vs H'
def SP (X:Cx)(pins:List (ak×Obj))(D:Ends)(f:Flow)(s':ao):Prop :=
 match f with
 | .next=>∃σ' H',Inv X pins σ' H' s'/\D.nx σ' H'
 | .brk=>∃σ' H',Inv X pins σ' H' s'/\D.bk σ' H'
 | .cont=>∃σ' H',Inv X pins σ' H' s'/\D.ct σ' H'
 | .ret u=>∃v σ' H',Inv X pins σ' H' s'/\zR v u/\D.rt v H'
def PE (X:Cx)(e:bJ)(t:TE):Prop :=
 ∀(pins:List (ak×Obj)) (s:ao) (σ:St) (H:Hp) (Q:VK),Inv X pins σ H s->t σ H Q->wpAny (model X.prog X.w) X.A (eval e X.env) (EP X pins σ Q) X.xe s
def PT (X:Cx)(e:bJ)(t:TT):Prop :=
 ∀(pins:List (ak×Obj)) (s:ao) (σ:St) (H:Hp) (Q:Bool->Hp->Prop),Inv X pins σ H s->t σ H Q->wpAny (model X.prog X.w) X.A (isTrue e X.env (eval e X.env)) (TP X pins σ Q) X.xe s
def PW (X:Cx)(e:bJ)(t:TT):Prop :=
 ∀(whole:Sem aj) (pins:List (ak×Obj)) (s:ao) (σ:St) (H:Hp) (Q:Bool->Hp->Prop),Inv X pins σ H s->t σ H Q->wpAny (model X.prog X.w) X.A (isTrue e X.env whole) (TP X pins σ Q) X.xe s
theorem PW.pt {X:Cx}{e:bJ}{t:TT}(h:PW X e t):PT X e t:=h _
def PA (X:Cx)(es:List bJ)(t:TA):Prop :=
 ∀(pos:Pos) (pins:List (ak×Obj)) (s:ao) (σ:St) (H:Hp) (Q:List V->Hp->Prop),Inv X pins σ H s->t σ H Q->wpAny (model X.prog X.w) X.A (spliced (backTo pos (starEach es X.env))) (AP X pins σ Q) X.xe s
def PS (X:Cx)(st:c8)(t:TS):Prop :=
 ∀(pins:List (ak×Obj)) (s:ao) (σ:St) (H:Hp) (D:Ends),Inv X pins σ H s->t D σ H->wpAny (model X.prog X.w) X.A (exec st X.env) (SP X pins D) X.xe s
def qE (X:Cx)(st:List c8)(t:TS):Prop :=
 ∀(pins:List (ak×Obj)) (s:ao) (σ:St) (H:Hp) (D:Ends),Inv X pins σ H s->t D σ H->wpAny (model X.prog X.w) X.A (execs st X.env) (SP X pins D) X.xe s
theorem zI {α:Type}{t:Sem α}{Q b:α->ao->Prop}{M:Model}{A:bO}{E:aj->ao->Prop}{s:ao}(h:wpAny M A t Q E s)(c:∀a s,Q a s->b a s):wpAny M A t b E s:=cy h c fun _ _ x=>x
section
variable{X:Cx}
def zAS (i:Nat):TE:=fun σ H Q=>∃v,σ[i]?=some (some v)/\Q v H
def tC (v:V):TE:=fun _ H Q=>Q v H
theorem zJn {i:Nat}{x:Str}{pos:Pos}(j:X.N[i]?=some x)(hv:Vis X.env.scope x)(hd:(x==("__debug__" : Str))=false:=by decide)(f:(x==("__classdict__" : Str))=false:=by decide):PE X (.Name x pos) (zAS i):=by
 intro d s σ H Q I h
 obtain⟨v,e,h⟩:=h
 obtain⟨m,n,hl⟩:=I.loc
 obtain⟨u,r,l⟩:=hl i x v j e hv
 have fin:EP X d σ Q u s:=⟨v,H,I,r,h⟩
 rcases l with⟨b,o⟩|⟨b,c,g,a⟩
 ·exact mj (jb I.ok.kind b n o fin) hd
 ·rcases b with b|b
  ·exact mj (wpAny_loadName_cell I.ok.kind b g a fin) hd
  ·exact mj (wpAny_loadName_free I.ok.kind b g a fin f) hd
theorem zO {i j pos}:PE X (.Constant (.int i) j pos) (tC (.int i)):=fun _ _ _ H _ I h=>iu ⟨.int i,H,I.tok _,⟨_,rfl⟩,h⟩
theorem qN {b j pos}:PE X (.Constant (.bool b) j pos) (tC (.bl b)):=fun _ _ _ H _ I h=>Constant_bool ⟨.bl b,H,I,rfl,h⟩
theorem zFD {j pos}:PE X (.Constant .none j pos) (tC .non):=fun _ _ _ H _ I h=>Constant_none ⟨.non,H,I,rfl,h⟩
theorem y9 {x j pos}:PE X (.Constant (.str x) j pos) (tC (.str x)):=fun _ _ _ H _ I h=>Calls.Constant_str ⟨.str x,H,I.tok _,⟨_,rfl⟩,h⟩
def Gl (X:Cx)(x:Str):Prop:=X.env.kindOf x=some .globalImplicit
theorem zFE {E:aj->ao->Prop}{a:List (ak×Obj)}{s:ao}{σ:St}{H:Hp}{x:Str}{u:aj}{pos:Pos}{Q:aj->ao->Prop}(I:Inv X a σ H s)(b:Gl X x)(c:X.mg x=some u)(h:Q u s)
  (hd:(x==("__debug__" : Str))=false:=by decide):wpAny (model X.prog X.w) X.A (eval (.Name x pos) X.env) Q E s :=
 ka I.ok.kind b (Calls.loadGlobal_global (by rw[I.ok.glob];exact I.mod.glob.keeps I.bk) c h) hd
theorem qZ {E:aj->ao->Prop}{a:List (ak×Obj)}{s:ao}{σ:St}{H:Hp}{x:Str}{u:aj}{pos:Pos}{Q:aj->ao->Prop}(I:Inv X a σ H s)(b:Gl X x)(c:X.mg x=none)(hv:bootBuiltins x=some u)(h:Q u s)
  (d:x≠"__name__" :=by decide) (hd:(x==("__debug__" : Str))=false:=by decide):wpAny (model X.prog X.w) X.A (eval (.Name x pos) X.env) Q E s:=by
 obtain⟨mb,e,f⟩:=I.mod.blt
 exact ka I.ok.kind b (Calls.loadGlobal_builtin (by rw[I.ok.glob];exact I.mod.glob.keeps I.bk) c (by rw[I.ok.blt];exact e.keeps I.bk) ((f x d).trans hv) h) hd
theorem yN {x:Str}{v:V}{u:aj}{pos:Pos}(a:Gl X x)(b:X.mg x=some u)(r:zR v u)(hd:(x==("__debug__" : Str))=false:=by decide):PE X (.Name x pos) (tC v) :=
 fun _ _ _ H _ I h=>zFE I a b ⟨v,H,I,r,h⟩ hd
theorem gR {x:Str}{v:V}{u:aj}{pos:Pos}(a:Gl X x)(b:X.mg x=none)(hv:bootBuiltins x=some u)(r:zR v u)(c:x≠"__name__" :=by decide)(hd:(x==("__debug__" : Str))=false:=by decide):PE X (.Name x pos) (tC v) :=
 fun _ _ _ H _ I h=>qZ I a b hv ⟨v,H,I,r,h⟩ c hd
variable{a b:bJ}{ta tb:TE}{pos:Pos}
def PC (X:Cx)(op:qf)(a b:bJ)(t:TE):Prop :=
 ∀(pins:List (ak×Obj)) (s:ao) (σ:St) (H:Hp) (Q:VK),Inv X pins σ H s->t σ H Q->
  wpAny (model X.prog X.w) X.A (eval a X.env) (fun v s₁=>wpAny (model X.prog X.w) X.A (eval b X.env) (fun u s₂=>wpAny (model X.prog X.w) X.A (compareOp op v u) (EP X pins σ Q) X.xe s₂) X.xe s₁) X.xe s
theorem zJo (b:bJ){op:qf}(h:op≠.In)(c:op≠.NotIn):behindInMarks op b=false:=by
 have e1:(op==CmpOp.In)=false:=by cases op<;>first|rfl|exact absurd rfl h
 have d:(op==CmpOp.NotIn)=false:=by cases op<;>first|rfl|exact absurd rfl c
 cases b<;>simp[behindInMarks,e1,d]
def tB (t:TE):TT:=fun σ H Q=>t σ H fun x H1=>∃c,x=.bl c/\Q c H1
theorem zFF {op:qf}{t:TE}(h:PC X op a b t)(f:behindInMarks op b=false:=by first|exact zJo _ (by decide) (by decide)|rfl):PT X (.Compare a [op] [b] pos) (tB t):=by
 intro e s σ H Q I g
 refine mQ (zI (h e s σ H _ I g) fun v o f=>zI f fun u p i=>zI i fun c r ⟨x,j,l,m,n⟩=>?_) f
 obtain⟨d,rfl,q⟩:=n
 cases m
 exact dv ⟨j,l,q⟩
theorem vX {e:bJ}{t:TE}(h:PE X e t)(f:∀whole,isTrue e X.env whole=(do let v<-whole;standAt e.pos;holding [v] (truthy v)):=by intro _;rfl):PT X e (tB t):=by
 intro c s σ H Q I g
 refine isTrue_plain (zI (h c s σ H _ I g) fun v n ⟨x,i,j,l,m⟩=>?_) (f _)
 obtain⟨d,rfl,q⟩:=m
 cases l
 exact dv ⟨i,j,q⟩
variable{tA tB':TT}{yT:List bJ}
def zJp (t u:TT):TT:=fun σ H Q=>t σ H fun c H1=>if c=true then u σ H1 Q else Q false H1
def tOr (t u:TT):TT:=fun σ H Q=>t σ H fun c H1=>if c=true then Q true H1 else u σ H1 Q
def zJq (t:TT):TT:=fun σ H Q=>t σ H fun c H1=>Q (!c) H1
theorem zJr (ha:PT X a tA):PW X (.BoolOp .And [a] pos) tA:=by
 intro f d s σ H Q I h
 refine isTrue_and (zI (ha d s σ H Q I h) fun c g e=>?_)
 cases c with
 |true=>exact isTrue_and_nil e
 |false=>exact e
theorem gS (ha:PT X a tA):PW X (.BoolOp .Or [a] pos) tA:=by
 intro f d s σ H Q I h
 refine isTrue_or (zI (ha d s σ H Q I h) fun c g e=>?_)
 cases c with
 |false=>exact isTrue_or_nil e
 |true=>exact e
theorem zFG (ha:PT X a tA)(hb:PW X (.BoolOp .And (b::yT) pos) tB'):PW X (.BoolOp .And (a::b::yT) pos) (zJp tA tB'):=by
 intro i d s σ H Q I h
 refine isTrue_and (zI (ha d s σ H _ I h) fun c j ⟨e,f,g⟩=>?_)
 cases c with
 |true=>exact hb i d j σ e Q f g
 |false=>exact⟨e,f,g⟩
theorem gT (ha:PT X a tA)(hb:PW X (.BoolOp .Or (b::yT) pos) tB'):PW X (.BoolOp .Or (a::b::yT) pos) (tOr tA tB'):=by
 intro i d s σ H Q I h
 refine isTrue_or (zI (ha d s σ H _ I h) fun c j ⟨e,f,g⟩=>?_)
 cases c with
 |true=>exact⟨e,f,g⟩
 |false=>exact hb i d j σ e Q f g
theorem v1 (ha:PT X a tA):PT X (.UnaryOp .Not a pos) (zJq tA):=by
 intro d s σ H Q I h
 exact isTrue_not (ha d s σ H (fun c e=>Q (!c) e) I h)
def zJs (ta tb:TE):TE:=fun σ H Q=>ta σ H fun x H1=>∃c,x=.bl c/\if c=true then tb σ H1 Q else Q (.bl false) H1
def zJt (ta tb:TE):TE:=fun σ H Q=>ta σ H fun x H1=>∃c,x=.bl c/\if c=true then Q (.bl true) H1 else tb σ H1 Q
theorem gE {op}{t:TE}(h:PE X a t):PE X (.BoolOp op [a] pos) t:=fun c s σ H Q I d=>BoolOp_one (h c s σ H Q I d)
theorem zAT (ha:PE X a ta)(hb:PE X (.BoolOp .And (b::yT) pos) tb):PE X (.BoolOp .And (a::b::yT) pos) (zJs ta tb):=by
 intro d s σ H Q I h
 refine BoolOp_and (zI (ha d s σ H _ I h) fun v i ⟨x,f,g,j,e⟩=>?_)
 obtain⟨c,rfl,e⟩:=e
 cases j
 refine dv ?_
 cases c with
 |true=>exact hb d i σ f Q g e
 |false=>exact⟨.bl false,f,g,rfl,e⟩
theorem zFH (ha:PE X a ta)(hb:PE X (.BoolOp .Or (b::yT) pos) tb):PE X (.BoolOp .Or (a::b::yT) pos) (zJt ta tb):=by
 intro d s σ H Q I h
 refine BoolOp_or (zI (ha d s σ H _ I h) fun v i ⟨x,f,g,j,e⟩=>?_)
 obtain⟨c,rfl,e⟩:=e
 cases j
 refine dv ?_
 cases c with
 |false=>exact hb d i σ f Q g e
 |true=>exact⟨.bl true,f,g,rfl,e⟩
def tIf (t:TT)(ta tb:TE):TE:=fun σ H Q=>t σ H fun c H1=>if c=true then ta σ H1 Q else tb σ H1 Q
theorem zJu {c:bJ}(l:PT X c tA)(ha:PE X a ta)(hb:PE X b tb):PE X (.IfExp c a b pos) (tIf tA ta tb):=by
 intro e s σ H Q I h
 refine wpAny_IfExp (zI (l e s σ H _ I h) fun d f ⟨g,i,j⟩=>?_)
 cases d with
 |true=>exact ha e f σ g Q i j
 |false=>exact hb e f σ g Q i j
end
def zZ (K:ag)(H:Hp)(a:ak)(xs:List V):Prop :=
 Rd H a (.lst xs)\/
  ∃(o:Obj) (its:Array aj) (n:Nat),K.lookup a=some o/\o.cls=.type "list"/\o.dict=none/\o.data=.seq its n/\its.size<=sizeLine/\zL xs its.toList
def zY (K:ag)(H:Hp)(a:ak)(xs:List V):Prop :=
 Rd H a (.tup xs)\/
  ∃(o:Obj) (its:Array aj) (n:Nat),K.lookup a=some o/\o.cls=.type "tuple"/\o.data=.seq its n/\its.size<=sizeLine/\zL xs its.toList
def zJv:aj->Option V
 | .none=>some .non
 | .bool b=>some (.bl b)
 | .int i _=>some (.int i)
 | .str x _=>some (.str x)
 | .bytes b _=>some (.byt b)
 | .float b _=>some (.flt b)
 | .ref a=>some (.ref a)
 | .type n=>some (.ty n)
 |_=>none
theorem zR.abs {x:V}{u:aj}(r:zR x u):zJv u=some x:=by
 cases x with
 |non=>cases r;rfl
 |bl _=>cases r;rfl
 |int _=>obtain⟨t,rfl⟩:=r;rfl
 |str _=>obtain⟨t,rfl⟩:=r;rfl
 |byt _=>obtain⟨t,rfl⟩:=r;rfl
 |flt _=>obtain⟨t,rfl⟩:=r;rfl
 |ref _=>cases r;rfl
 |ty _=>cases r;rfl
theorem zR.inj {x y:V}{u:aj}(r:zR x u)(q:zR y u):x=y:=aD (r.abs.symm.trans q.abs)
theorem zL.inj:∀{xs ys:List V}{a:List aj},zL xs a->zL ys a->xs=ys
 |_,_,_,.nil,.nil=>rfl
 |_,_,_,.cons r t,.cons b t'=>by rw[r.inj b,zL.inj t t']
section
variable{X:Cx}{pins:List (ak×Obj)}{σ:St}{H:Hp}{s:ao}{a:ak}{xs ys:List V}
theorem zZ.of {K:ag}(h:H a=some (.lst xs)):zZ K H a xs:=.inl (.inl h)
theorem zY.of {K:ag}(h:H a=some (.tup xs)):zY K H a xs:=.inl (.inl h)
theorem Inv.list (I:Inv X pins σ H s)(h:zZ X.K H a xs):∃its:List aj,zL xs its/\PlainL s.heap a its.toArray/\xs.length<=sizeLine:=by
 rcases h with h|⟨o,its,n,b,c,hd,d,hz,r⟩
 ·obtain⟨z,its,n,r,e⟩:=h.ok I.hok
  exact⟨its,r,⟨_,n,e,rfl,rfl,rfl⟩,z⟩
 ·refine⟨its.toList,r,⟨o,n,I.kIn a o b,c,hd,by simpa using d⟩,?_⟩
  have e:=r.length
  simp only[bj]at e
  omega
theorem Inv.tuple (I:Inv X pins σ H s)(h:zY X.K H a xs):∃its:List aj,zL xs its/\qd s.heap a its.toArray/\xs.length<=sizeLine:=by
 rcases h with h|⟨o,its,n,b,c,d,hz,r⟩
 ·obtain⟨z,its,r,p⟩:=h.ok I.hok
  exact⟨its,r,p,z⟩
 ·refine⟨its.toList,r,⟨o,I.kIn a o b,c,n,by simpa using d⟩,?_⟩
  have e:=r.length
  simp only[bj]at e
  omega
theorem Inv.list_inj (I:Inv X pins σ H s)(h:zZ X.K H a xs)(h':zZ X.K H a ys):xs=ys:=by
 obtain⟨its,r,⟨o,n,e,_,_,d⟩,_⟩:=I.list h
 obtain⟨its',c,⟨g,i,b,_,_,d'⟩,_⟩:=I.list h'
 rw[e]at b;cases b
 rw[d]at d'
 injection d' with f _
 have:its=its':=by simpa using congrArg om f
 subst this
 exact r.inj c
theorem Inv.tuple_inj (I:Inv X pins σ H s)(h:zY X.K H a xs)(h':zY X.K H a ys):xs=ys:=by
 obtain⟨its,r,⟨o,e,_,n,d⟩,_⟩:=I.tuple h
 obtain⟨its',c,⟨g,b,_,i,d'⟩,_⟩:=I.tuple h'
 rw[e]at b;cases b
 rw[d]at d'
 injection d' with f _
 have:its=its':=by simpa using congrArg om f
 subst this
 exact r.inj c
end
abbrev Cx.wish (X:Cx)(E:aj->ao->Prop):Cx:={X with xe:=E}
abbrev Cx.nox (X:Cx):Cx:=X.wish fun _ _=>False
theorem Cx.Ok.wish {X:Cx}(ok:X.Ok)(E:aj->ao->Prop):(X.wish E).Ok :=
 ⟨ok.mod,ok.kind,ok.glob,ok.blt,ok.above,ok.inj,ok.has,ok.cab,ok.hd,ok.frames,ok.stk,ok.exf,ok.bs,ok.bsz,ok.noex,ok.exfs,ok.funs,ok.frf⟩
theorem Cx.Ok.unwish {X:Cx}{E:aj->ao->Prop}(ok:(X.wish E).Ok):X.Ok :=
 ⟨ok.mod,ok.kind,ok.glob,ok.blt,ok.above,ok.inj,ok.has,ok.cab,ok.hd,ok.frames,ok.stk,ok.exf,ok.bs,ok.bsz,ok.noex,ok.exfs,ok.funs,ok.frf⟩
section
variable{X:Cx}{pins:List (ak×Obj)}{σ:St}{H:Hp}{s:ao}{E:aj->ao->Prop}
theorem Inv.wish (I:Inv X pins σ H s)(E:aj->ao->Prop):Inv (X.wish E) pins σ H s:=⟨I.ok.wish E,I.os,I.bare,I.base,I.loc,I.cell,I.free,I.freeC,I.pin,I.hok,I.len⟩
theorem Inv.unwish (I:Inv (X.wish E) pins σ H s):Inv X pins σ H s:=⟨I.ok.unwish,I.os,I.bare,I.base,I.loc,I.cell,I.free,I.freeC,I.pin,I.hok,I.len⟩
theorem SP.unwish {D:Ends}{f:Flow}{s':ao}(h:SP (X.wish E) pins D f s'):SP X pins D f s':=by
 cases f with
 |next=>obtain⟨a,b,I,q⟩:=h;exact⟨a,b,I.unwish,q⟩
 |brk=>obtain⟨a,b,I,q⟩:=h;exact⟨a,b,I.unwish,q⟩
 |cont=>obtain⟨a,b,I,q⟩:=h;exact⟨a,b,I.unwish,q⟩
 |ret u=>obtain⟨v,a,b,I,r,q⟩:=h;exact⟨v,a,b,I.unwish,r,q⟩
theorem qE.nox {st:List c8}{t:TS}(h:qE X.nox st t):qE X st t:=fun pins s σ H D I a=>
 cy (h pins s σ H D (I.wish _) a) (fun _ _ q=>q.unwish) fun _ _ z=>fm z
end
section
variable{X:Cx}{st:c8}{yT:List c8}{t u:TS}{e:bJ}{te:TE}{pos:Pos}
def zFI:TS:=fun D σ H=>D.nx σ H
def zBa (t u:TS):TS:=fun D σ H=>t {D with nx:=u D} σ H
theorem yU:qE X [] zFI:=fun _ _ σ H _ I h=>jk ⟨σ,H,I,h⟩
theorem zQ (b:PS X st t)(c:qE X yT u):qE X (st::yT) (zBa t u):=by
 intro a s σ H D I h
 refine o8 (zI (b a s σ H {D with nx:=u D} I h) fun f d q=>?_)
 cases f with
 |next=>
  obtain⟨g,i,j,q⟩:=q
  exact c a d g i D j q
 |ret v=>exact q
 |brk=>exact q
 |cont=>exact q
theorem zK (b:PS X st t):qE X [st] t:=by
 intro a s σ H D I h
 refine o8 (zI (b a s σ H D I h) fun f c q=>?_)
 cases f with
 |next=>exact jk q
 |ret v=>exact q
 |brk=>exact q
 |cont=>exact q
theorem Inv.quiet {a:List (ak×Obj)}{σ:St}{H:Hp}{s:ao}(I:Inv X a σ H s):interactive X.env=false:=by simp[interactive,I.ok.kind]
def zJw (te:TE):TS:=fun D σ H=>te σ H fun _ H1=>D.nx σ H1
theorem q8 (b:PE X e te)(c:swapsWith e none pos.line X.env=pure false:=by rfl):PS X (.Expr e pos) (zJw te):=by
 intro a s σ H D I h
 exact wpAny_Expr_any (zI (b a s σ H _ I h) fun v i ⟨x,d,f,j,g⟩=>⟨σ,d,f,g⟩) I.quiet c
def zJx (te:TE):TS:=fun D σ H=>te σ H D.rt
theorem z6 (b:PE X e te):PS X (.Return (some e) pos) (zJx te):=by
 intro a s σ H D I h
 exact wpAny_Return_some (zI (b a s σ H _ I h) fun v i ⟨x,c,d,f,g⟩=>⟨x,σ,c,d,f,g⟩)
def zJy (c:TT)(t u:TS):TS:=fun D σ H=>c σ H fun b H1=>if b=true then t D σ H1 else u D σ H1
theorem yV {c:bJ}{a b:List c8}{g:TT}(n:PT X c g)(ha:qE X a t)(hb:qE X b u):PS X (.If c a b pos) (zJy g t u):=by
 intro f s σ H D I h
 refine wpAny_If (zI (n f s σ H _ I h) fun d i ⟨j,l,m⟩=>?_)
 cases d with
 |true=>exact ha f i σ j D l m
 |false=>exact hb f i σ j D l m
def zJz:TS:=fun _ _ _=>False
theorem zAw:PS X st zJz:=fun _ _ _ _ _ _ h=>h.elim
end
abbrev TG:=V->St->Hp->(St->Hp->Prop)->Prop
abbrev gF:=List V->St->Hp->(St->Hp->Prop)->Prop
def PG (X:Cx)(target:bJ)(t:TG):Prop :=
 ∀(pins:List (ak×Obj)) (s:ao) (σ:St) (H:Hp) (v:V) (u:aj) (Q:St->Hp->Prop),Inv X pins σ H s->zR v u->t v σ H Q->
  wpAny (model X.prog X.w) X.A (assign target X.env u) (fun _ s'=>∃σ' H',Inv X pins σ' H' s'/\Q σ' H') X.xe s
def PGs (X:Cx)(ts:List bJ)(t:gF):Prop :=
 ∀(pins:List (ak×Obj)) (s:ao) (σ:St) (H:Hp) (vs:List V) (us:List aj) (Q:St->Hp->Prop),Inv X pins σ H s->zL vs us->t vs σ H Q->
  wpAny (model X.prog X.w) X.A (assignInOrder ((assignEach ts X.env).map (·.2)) us) (fun _ s'=>∃σ' H',Inv X pins σ' H' s'/\Q σ' H') X.xe s
section
variable{X:Cx}{pos:Pos}
def zCm (i:Nat):TG:=fun v σ H Q=>Q (σ.set i (some v)) H
theorem z8 {i:Nat}{x:Str}(b:X.N.Nodup)(hi:X.N[i]?=some x)(c:Loc X.env.scope x)(hf:X.fn x=true\/X.env.scope.names.lookup x=some .local:=by first|exact .inl rfl|exact .inr rfl|assumption):PG X (.Name x pos) (zCm i):=by
 intro a s σ H v u Q I r h
 exact oo (zCl I b hi c r (fun s' d=>⟨_,H,d,h⟩) hf)
def zKA:gF:=fun vs σ H Q=>vs=[]/\Q σ H
def zKB (t:TG)(u:gF):gF:=fun vs σ H Q=>∃v r,vs=v::r/\t v σ H fun σ' H'=>u r σ' H' Q
theorem uS:PGs X [] zKA:=by
 intro a s σ H vs b Q I r h
 obtain⟨e,h⟩:=h
 subst e
 cases r
 exact assignInOrder_nil ⟨σ,H,I,h⟩
theorem yW {e:bJ}{b:List bJ}{t:TG}{u:gF}(c:PG X e t)(d:PGs X b u)
  (f:(assignEach (e::b) X.env).map (·.2)=assign e X.env::(assignEach b X.env).map (·.2):=by rfl):PGs X (e::b) (zKB t u):=by
 intro a s σ H vs o Q I r h
 obtain⟨v,p,e1,h⟩:=h
 subst e1
 cases r with
 |cons r g=>
  rw[f]
  refine assignInOrder_cons (zI (c a s σ H _ _ _ I r h) fun _ i ⟨j,l,m,n⟩=>?_)
  exact d a i j l _ _ Q m g n
def zFJ (K:ag)(n:Nat)(t:gF):TG:=fun v σ H Q=>∃a xs,v=.ref a/\zY K H a xs/\xs.length=n/\t xs σ H Q
theorem kO {d:List bJ}{k:Nat}{t:gF}{n:Nat}(j:X.calm=true)(h:PGs X d t)
  (l:(assignEach d X.env).length=n:=by rfl) (f:(assignEach d X.env).findIdx? (·.1)=none:=by rfl):PG X (.Tuple d k pos) (zFJ X.K n t):=by
 intro c s σ H v u Q I r g
 obtain⟨a,xs,e1,m,hl,g⟩:=g
 subst e1
 cases r
 obtain⟨its,i,p,hz⟩:=I.tuple m
 refine assign_Tuple_tuple (I.ok.hd j) p (by simp[l,<-hl,i.length]) f fun h' q=>?_
 have w:Inv X c σ H {s with heap:=h'}:=I.kept (t':=s.toks) fun b o e=>q b o (bc (aE e)) e
 exact h c _ σ H xs _ Q w (by simpa using i) g
def zFK (te:TE)(g:TG):TS:=fun D σ H=>te σ H fun x H1=>g x σ H1 D.nx
theorem yH {i:Nat}{x:Str}{e:bJ}{c:TE}{a:Pos}(d:X.N.Nodup)(hi:X.N[i]?=some x)(f:Loc X.env.scope x)(g:PE X e c)(j:swapsWith e (some (.Name x a)) pos.line X.env=pure false:=by rfl)(hf:X.fn x=true\/X.env.scope.names.lookup x=some .local:=by first|exact .inl rfl|exact .inr rfl|assumption) :
  PS X (.Assign [.Name x a] e pos) (zFK c (zCm i)):=by
 intro b s σ H D I h
 refine wpAny_Assign_Name (zI (g b s σ H _ I h) fun v q ⟨y,l,m,n,o⟩=>?_) j
 exact zCl m d hi f n (fun r p=>⟨_,l,p,o⟩) hf
def zKC (c:TT)(tb:TS):TS:=fun D σ H=>∃W:Nat->St->Hp->Prop,(∃m,W m σ H)/\∀m σ H,W m σ H->
 c σ H fun b H1=>if b=true then∃N:St->Hp->Prop,(∀σ' H',N σ' H'->∃m',m'<m/\W m' σ' H')/\tb {D with nx:=N,ct:=N,bk:=D.nx} σ H1 else D.nx σ H1
theorem zKD {c:bJ}{body:List c8}{r:TT}{tb:TS}(t:PassesOwn (model X.prog X.w) X.A X.env X.xe)(E:PT X c r)(hb:qE X body tb):PS X (.While c body [] pos) (zKC r tb):=by
 intro a s σ H D I h
 obtain⟨W,⟨F,w0⟩,d⟩:=h
 refine wpAny_While (codeAny_whileLoop (fun n s'=>∃u x,Inv X a u x s'/\W n u x) ?_ F ⟨σ,H,I,w0⟩)
 rintro n G ⟨i,y,J,w1⟩
 refine eX t (zI (E a G i y _ J (d n i y w1)) fun b L ⟨z,B,j⟩=>?_)
 cases b with
 |true=>
  obtain⟨N,C,j⟩:=j
  rw[if_pos rfl]
  refine eX t (zI (hb a L i z _ B j) fun f M l=>?_)
  cases f with
  |next=>
   obtain⟨e,g,m,o⟩:=l
   obtain⟨p,q,w3⟩:=C e g o
   exact⟨p,q,e,g,m,w3⟩
  |cont=>
   obtain⟨e,g,m,o⟩:=l
   obtain⟨p,q,w3⟩:=C e g o
   exact⟨p,q,e,g,m,w3⟩
  |brk=>exact l
  |ret v=>exact l
 |false=>
  rw[if_neg aV]
  exact jk ⟨i,z,B,j⟩
end
structure It where
 go:Nat->Hp->Prop
 yld:Nat->Hp->V->Hp->Prop
 stop:Nat->Hp->Prop
def uT (X:Cx)(pins:List (ak×Obj))(H:Hp)(b:ak):Prop :=
 H b=none/\b≠X.env.locals/\b∉X.fs/\(b∈X.ex\/X.s₀.heap.objs.size<=b)/\(∀x c,X.env.cells.lookup x=some c->c≠b)/\∀p∈X.pn++pins,p.1≠b
theorem Inv.fpOk {X:Cx}{a:List (ak×Obj)}{σ:St}{H d:Hp}{s:ao}{b:ak}(I:Inv X a σ H s)(hb:s.heap.objs.size<=b)(f:d b=none):uT X a d b:=by
 refine⟨f,cS (bu I.lt hb),I.nofs hb,.inr (bR I.sz hb),fun x c e z=>?_,fun p g z=>?_⟩
 ·obtain⟨v,q⟩:=I.cell x c e
  exact absurd (bu q.lt (by rw[z];exact hb)) (bH _)
 ·exact absurd (bu (aE (I.pin p g).1) (by rw[z];exact hb)) (bH _)
structure Turn (P:aJ) (w:aY) (K:ag) (tg:bJ) (J:It) (fp:List ak) (it:ak) (tn:Nat->bE->Prop):Prop where
 mem:it∈fp
 obj:∀i h,tn i h->∀b∈fp,∃o,h.get? b=some o/\∀v,o.data≠.cell v
 keep:∀i h h',tn i h->(∀b∈fp,∀o,h.get? b=some o->h'.get? b=some o)->tn i h'
 item:∀(X:Cx),X.prog=P->X.w=w->X.K=K->X.calm=true->∀(i:Nat) (pins:List (ak×Obj)) (s:ao) (σ:St) (H:Hp) (E:aj->ao->Prop),Inv X pins σ H s->(∀b∈fp,uT X pins H b)->tn i s.heap->J.go i H->
  wpAny (model P w) X.A (pyNext (.ref it)) (fun r s1=>∃u,r=some u/\
   wpAny (model P w) X.A (letOwnedTupleGo tg (.ref it) u) (fun _ s2=>∃x H',Inv X pins σ H' s2/\zR x u/\J.yld i H x H'/\tn (i+1) s2.heap/\∀b∈fp,H' b=none) E s1) E s
 done:∀(X:Cx),X.prog=P->X.w=w->X.K=K->X.calm=true->∀(i:Nat) (pins:List (ak×Obj)) (s:ao) (σ:St) (H:Hp) (E:aj->ao->Prop),Inv X pins σ H s->(∀b∈fp,uT X pins H b)->tn i s.heap->J.stop i H->
  wpAny (model P w) X.A (pyNext (.ref it)) (fun r s1=>r=none/\Inv X pins σ H s1) E s
 self:∀(A:bO) (i:Nat) (s:ao) (Q:aj->ao->Prop) (E:aj->ao->Prop),tn i s.heap->Q (.ref it) s->wpAny (model P w) A (pyIter (.ref it)) Q E s
abbrev TI:=St->Hp->(It->Hp->Prop)->Prop
def PIE (X:Cx)(pins:List (ak×Obj))(σ:St)(tg:bJ)(R:It->Hp->Prop)(itv:aj)(s2:ao):Prop :=
 ∃(it:ak) (fp:List ak) (tn:Nat->bE->Prop) (J:It) (H':Hp),itv=.ref it/\Inv X pins σ H' s2/\Turn X.prog X.w X.K tg J fp it tn/\tn 0 s2.heap/\(∀b∈fp,uT X pins H' b)/\R J H'
def PI (X:Cx)(tg iter:bJ)(wi:TI):Prop :=
 ∀(pins:List (ak×Obj)) (s:ao) (σ:St) (H:Hp) (R:It->Hp->Prop),Inv X pins σ H s->wi σ H R->
  wpAny (model X.prog X.w) X.A (eval iter X.env) (fun v s1=>wpAny (model X.prog X.w) X.A (pyIter v) (PIE X pins σ tg R) X.xe s1) X.xe s
theorem zAU {M:Model}{A:bO}{E:aj->ao->Prop}{s:ao}{b:bJ}{it:ak}{u:aj}{o:Obj}{n:String}{vs:Array aj}{Q:Unit->ao->Prop}(c:s.heap.get? it=some o)(d:o.cls=.type n)(hd:o.data=.fields vs)
  (e:["enumerate","zip","dict_itemiterator","dict_reverseitemiterator","odict_iterator","itertools.zip_longest","itertools.pairwise"].contains n=false) (a:Q () s):wpAny M A (letOwnedTupleGo b (.ref it) u) Q E s:=by
 unfold letOwnedTupleGo
 cases b<;>first
  |exact ar a
  |(cases u<;>first
    |exact ar a
    |(refine af (wpAny_load c ?_)
      rw[d,hd]
      show wpAny M A (if(["enumerate","zip","dict_itemiterator","dict_reverseitemiterator","odict_iterator","itertools.zip_longest","itertools.pairwise"].contains n&&vs[0]? ==some (rawInt _))=true then _ else _) Q E s
      rw[if_neg (by intro h;rw[e,c7]at h;cases h)]
      exact ar a))
def Itl (K:ag)(a:ak):It :=
 ⟨fun i H=>∃xs x,zZ K H a xs/\xs[i]?=some x,fun i H x H'=>H'=H/\∀xs,zZ K H a xs->xs[i]?=some x,fun i H=>∃xs,zZ K H a xs/\xs.length<=i⟩
def Itt (K:ag)(a:ak):It :=
 ⟨fun i H=>∃xs x,zY K H a xs/\xs[i]?=some x,fun i H x H'=>H'=H/\∀xs,zY K H a xs->xs[i]?=some x,fun i H=>∃xs,zY K H a xs/\xs.length<=i⟩
def Itr (lo:Int)(n:Nat):It:=⟨fun i _=>i<n,fun i H x H'=>H'=H/\x=.int (lo+i),fun i _=>n<=i⟩
theorem zKE {P:aJ}{w:aY}{K:ag}{F:bJ}(a it:ak):Turn P w K F (Itl K a) [it] it (fun i h=>h.IsListIter it a i) where
 mem:=by simp
 obj:=fun i h st b hb=>by
  have e:b=it:=by simpa using hb
  subst e
  obtain⟨o,e,c,d⟩:=st
  exact⟨o,e,fun v z=>by rw[d]at z;cases z⟩
 keep:=fun i h h' st k=>st.at fun o e=>k it (by simp) o e
 item:=by
  intro X l m n D i f s σ H E I hf st q
  subst l m n
  obtain⟨xs,x,j,r⟩:=q
  obtain⟨its,t,p,hz⟩:=I.list j
  obtain⟨u,G,J⟩:=t.get r
  obtain⟨y,f1,f2,A,B,C⟩:=hf it (by simp)
  refine wpAny_pyNext_list_item st p.isList (x:=u) (by simpa using G) fun h' g sb=>?_
  have L:Inv X f σ H {s with heap:=h'}:=I.turned (t':=s.toks) (fun b o hb e=>(sb.2 b hb).trans e) y f1 A B C
  obtain⟨o,e,c,d⟩:=id g
  exact⟨u,rfl,zAU (s:={s with heap:=h'}) e c d (by decide) ⟨x,H,L,J,⟨rfl,fun ys M=>by rw[I.list_inj M j];exact r⟩,g,fun b hb=>(hf b hb).1⟩⟩
 done:=by
  intro X l m n D i f s σ H E I hf st q
  subst l m n
  obtain⟨xs,j,r⟩:=q
  obtain⟨its,t,p,hz⟩:=I.list j
  obtain⟨y,f1,f2,A,B,C⟩:=hf it (by simp)
  have hl:=t.length
  exact wpAny_pyNext_list_end (I.ok.hd D) st p.isList (by simp;omega) fun h' N=>⟨rfl,I.turned (t':=s.toks) (fun b o hb e=>N b o hb e) y f1 A B C⟩
 self:=fun _ _ _ _ _ st h=>wpAny_pyIter_listiter st h
theorem zKF {P:aJ}{w:aY}{K:ag}{F:bJ}(a it:ak):Turn P w K F (Itt K a) [it] it (fun i h=>h.IsTupleIter it a i) where
 mem:=by simp
 obj:=fun i h st b hb=>by
  have e:b=it:=by simpa using hb
  subst e
  obtain⟨o,e,c,d⟩:=st
  exact⟨o,e,fun v z=>by rw[d]at z;cases z⟩
 keep:=fun i h h' st k=>st.at fun o e=>k it (by simp) o e
 item:=by
  intro X l m n D i f s σ H E I hf st q
  subst l m n
  obtain⟨xs,x,j,r⟩:=q
  obtain⟨its,t,p,hz⟩:=I.tuple j
  obtain⟨u,G,J⟩:=t.get r
  obtain⟨y,f1,f2,A,B,C⟩:=hf it (by simp)
  refine wpAny_pyNext_tuple_item st (show s.heap.IsTuple a its.toArray from p) (x:=u) (by simpa using G) fun h' g sb=>?_
  have L:Inv X f σ H {s with heap:=h'}:=I.turned (t':=s.toks) (fun b o hb e=>(sb.2 b hb).trans e) y f1 A B C
  obtain⟨o,e,c,d⟩:=id g
  exact⟨u,rfl,zAU (s:={s with heap:=h'}) e c d (by decide) ⟨x,H,L,J,⟨rfl,fun ys M=>by rw[I.tuple_inj M j];exact r⟩,g,fun b hb=>(hf b hb).1⟩⟩
 done:=by
  intro X l m n D i f s σ H E I hf st q
  subst l m n
  obtain⟨xs,j,r⟩:=q
  obtain⟨its,t,p,hz⟩:=I.tuple j
  obtain⟨y,f1,f2,A,B,C⟩:=hf it (by simp)
  have hl:=t.length
  exact wpAny_pyNext_tuple_end (I.ok.hd D) st (show s.heap.IsTuple a its.toArray from p) (by simp;omega) fun h' N=>⟨rfl,I.turned (t':=s.toks) (fun b o hb e=>N b o hb e) y f1 A B C⟩
 self:=fun _ _ _ _ _ st h=>wpAny_pyIter_tupleiter st h
theorem zKG {P:aJ}{w:aY}{K:ag}{u:bJ}(it:ak)(lo:Int)(n:Nat):Turn P w K u (Itr lo n) [it] it (fun i h=>IsRangeIter h it (lo+(i:Nat)*1) ((n:Int)- (i:Nat)) 1) where
 mem:=by simp
 obj:=fun i h st b hb=>by
  have e:b=it:=by simpa using hb
  subst e
  exact⟨_,st,fun v z=>by
   have x:Data.fields _=Data.cell v:=z
   cases x⟩
 keep:=fun i h h' st k=>k it (by simp) _ st
 item:=by
  intro X d f g j i a s σ H E I hf st l
  subst d f g
  obtain⟨m,f1,f2,p,q,r⟩:=hf it (by simp)
  have W:=Walks.range (prog:=X.prog) (w:=X.w) (I.ok.hd j) it lo 1 n
  refine W.item i s _ _ l st fun v h' tk hv c y=>?_
  obtain⟨t,rfl⟩:=hv
  have A:Inv X a σ H {s with heap:=h',toks:=tk}:=I.turned (fun b o hb e=>y b o (by simpa using hb) e) m f1 p q r
  refine⟨_,rfl,zAU (s:={s with heap:=h',toks:=tk}) (n :="range_iterator") c rfl rfl (by decide) ⟨.int (lo+i),H,A,⟨t,?_⟩,⟨rfl,rfl⟩,c,fun b hb=>(hf b hb).1⟩⟩
  rw[Int.mul_one]
 done:=by
  intro X d f g j i a s σ H E I hf st l
  subst d f g
  obtain⟨m,f1,f2,p,q,r⟩:=hf it (by simp)
  exact wpAny_pyNext_range_end (I.ok.hd j) st (by have:n<=i:=l;omega) fun h' B=>⟨rfl,I.turned (t':=s.toks) (fun b o hb e=>B b o hb e) m f1 p q r⟩
 self:=fun _ _ _ _ _ st h=>wpAny_pyIter_rangeiter st h
section
variable{X:Cx}{tg:bJ}
def zKH (K:ag)(tl:TE):TI:=fun σ H R=>tl σ H fun x H1=>∃a,x=.ref a/\(∃xs,zZ K H1 a xs)/\R (Itl K a) H1
def zKI (K:ag)(tl:TE):TI:=fun σ H R=>tl σ H fun x H1=>∃a,x=.ref a/\(∃xs,zY K H1 a xs)/\R (Itt K a) H1
theorem jA {l:bJ}{tl:TE}(hl:PE X l tl):PI X tg l (zKH X.K tl):=by
 intro c s σ H R I h
 refine zI (hl c s σ H _ I h) fun v d ⟨x,g,f,i,j⟩=>?_
 obtain⟨a,e,⟨xs,m⟩,q⟩:=j
 subst e
 cases i
 obtain⟨its,n,p,hz⟩:=f.list m
 refine d8 p.isList ?_
 refine⟨d.heap.objs.size,[d.heap.objs.size],_,_,g,rfl,f.kept (t':=d.toks) fun b o e=>ae _ e,zKE a _,⟨_,aA _ rfl,rfl,rfl⟩,fun b hb=>?_,q⟩
 have e:b=d.heap.objs.size:=by simpa using hb
 subst e
 exact f.fpOk (ay _) (f.hok.fresh (ay _))
theorem zAx {l:bJ}{tl:TE}(hl:PE X l tl):PI X tg l (zKI X.K tl):=by
 intro c s σ H R I h
 refine zI (hl c s σ H _ I h) fun v d ⟨x,g,f,i,j⟩=>?_
 obtain⟨a,e,⟨xs,m⟩,q⟩:=j
 subst e
 cases i
 obtain⟨its,n,p,hz⟩:=f.tuple m
 refine fM (show d.heap.IsTuple a its.toArray from p) ?_
 refine⟨d.heap.objs.size,[d.heap.objs.size],_,_,g,rfl,f.kept (t':=d.toks) fun b o e=>ae _ e,zKF a _,⟨_,aA _ rfl,rfl,rfl⟩,fun b hb=>?_,q⟩
 have e:b=d.heap.objs.size:=by simpa using hb
 subst e
 exact f.fpOk (ay _) (f.hok.fresh (ay _))
theorem zFL {a:List (ak×Obj)}{σ:St}{H:Hp}{s:ao}{R:It->Hp->Prop}{E:aj->ao->Prop}{lo hi:Int}{t u v:Tok}{tk:Nat}(I:Inv X a σ H s)(d:-(2^62)<=lo)(f:lo<2^62)(g:-(2^62)<=hi)(h:hi<2^62)
  (q:R (Itr lo (hi-lo).toNat) H):wpAny (model X.prog X.w) X.A (pyIter (.ref s.heap.objs.size)) (PIE X a σ tg R) E {s with heap:=s.heap.push {cls:=.type "range",data:=.fields #[.int lo t,.int hi u,.int 1 v]},toks:=tk}:=by
 refine wpAny_pyIter_range (IsRange.new ..) (small_one d f g h) ?_
 have c:Inv X a σ H {s with heap:=s.heap.push {cls:=.type "range",data:=.fields #[.int lo t,.int hi u,.int 1 v]},toks:=tk}:=I.kept fun b o e=>ae _ e
 refine⟨(s.heap.push {cls:=.type "range",data:=.fields #[.int lo t,.int hi u,.int 1 v]}).objs.size,[(s.heap.push {cls:=.type "range",data:=.fields #[.int lo t,.int hi u,.int 1 v]}).objs.size],_,_,H,rfl,
  c.kept (t':=tk) fun b o e=>ae _ e,zKG _ lo (hi-lo).toNat,?_,fun b hb=>?_,q⟩
 ·have e1:lo+((0:Nat):Int)*1=lo:=by simp
  have i:(((hi-lo).toNat:Nat):Int)- ((0:Nat):Int)=su lo hi 1:=by rw[rangeSize_one];split<;>omega
  show IsRangeIter _ _ (lo+((0:Nat):Int)*1) ((((hi-lo).toNat:Nat):Int)- ((0:Nat):Int)) 1
  rw[e1,i]
  exact aA _ rfl
 ·have e:b=(s.heap.push {cls:=.type "range",data:=.fields #[.int lo t,.int hi u,.int 1 v]}).objs.size:=by simpa using hb
  subst e
  exact c.fpOk (ay _) (c.hok.fresh (ay _))
def zKJ (ta:TA):TI:=fun σ H R=>ta σ H fun vs H1=>∃j:Int,vs=[.int j]/\-(2^62)<=j/\j<2^62/\R (Itr 0 j.toNat) H1
def zKK (ta:TA):TI:=fun σ H R=>ta σ H fun vs H1=>∃i j:Int,vs=[.int i,.int j]/\(-(2^62)<=i/\i<2^62/\-(2^62)<=j/\j<2^62)/\R (Itr i (j-i).toNat) H1
theorem zCn {a:bJ}{d:TA}{p pos:Pos}(f:Gl X "range")(g:X.mg "range"=none)(ha:PA X [a] d)(i:starEach [a] X.env=[(false,eval a X.env)]:=by rfl):PI X tg (.Call (.Name "range" p) [a] [] pos) (zKJ d):=by
 intro b s σ H R I h
 refine Call_ (qZ I f g boot_range (cJ (zI (ha pos b s σ H _ I h) fun u v ⟨vs,w,l,m,c⟩=>?_) i rfl))
 obtain⟨j,e,c,n,q⟩:=c
 subst e
 cases m with
 |cons r o=>
  cases o
  obtain⟨t,rfl⟩:=r
  exact call_range_1 (zFL l (by omega) (by omega) c n (by simpa using q))
theorem zKL {a b:bJ}{l:TA}{p pos:Pos}(m:Gl X "range")(n:X.mg "range"=none)(ha:PA X [a,b] l)(o:starEach [a,b] X.env=[(false,eval a X.env),(false,eval b X.env)]:=by rfl)(c:starEach [b] X.env=[(false,eval b X.env)]:=by rfl) :
  PI X tg (.Call (.Name "range" p) [a,b] [] pos) (zKK l):=by
 intro d s σ H R I h
 refine Call_ (qZ I m n boot_range (cJ (zI (ha pos d s σ H _ I h) fun A B ⟨vs,C,u,v,f⟩=>?_) (by rw[o,c]) (by rw[c];rfl)))
 obtain⟨i,j,e,⟨f,w,x,y⟩,q⟩:=f
 subst e
 cases v with
 |cons r g=>
  cases g with
  |cons z g=>
   cases g
   obtain⟨t,rfl⟩:=r
   obtain⟨t',rfl⟩:=z
   exact call_range_2 (zFL u f w x y q)
def zKM (wi:TI)(g:TG)(tb:TS):TS:=fun D σ H=>wi σ H fun J H1=>∃W:Nat->Nat->St->Hp->Prop,(∃m,W 0 m σ H1)/\∀i m σ H,W i m σ H->
 (J.stop i H/\D.nx σ H)\/(J.go i H/\∃N:St->Hp->Prop,(∀σ' H',N σ' H'->∃m',m'<m/\W (i+1) m' σ' H')/\∀x H',J.yld i H x H'->g x σ H' fun σ2 H2=>tb {D with nx:=N,ct:=N,bk:=D.nx} σ2 H2)
def zAV (fp:List ak)(h:bE):List (ak×Obj):=fp.filterMap fun b=>(h.get? b).map fun o=>(b,o)
theorem gU {fp:List ak}{h:bE}{b:ak}{o:Obj}(hb:b∈fp)(e:h.get? b=some o):(b,o)∈zAV fp h:=nY.mpr ⟨b,hb,by rw[e];rfl⟩
theorem zKN {fp:List ak}{h:bE}{p:ak×Obj}(a:p∈zAV fp h):p.1∈fp/\h.get? p.1=some p.2:=by
 obtain⟨b,hb,e⟩:=nY.mp a
 cases q:h.get? b with
 |none=>rw[q]at e;cases e
 |some o=>
  rw[q]at e
  have c:(b,o)=p:=aD e
  subst c
  exact⟨hb,q⟩
theorem Inv.pinned {a:List (ak×Obj)}{σ:St}{H:Hp}{s:ao}{fp:List ak}(I:Inv X a σ H s)(hf:∀b∈fp,uT X a H b)(f:∀b∈fp,∃o,s.heap.get? b=some o/\∀v,o.data≠.cell v):Inv X (a++zAV fp s.heap) σ H s :=
 I.pins_of fun p g=>(bw.mp g).elim (fun z=>I.pin p (aX _ z)) fun z=>by
  obtain⟨hb,e⟩:=zKN z
  obtain⟨h,f1,f2,_⟩:=hf p.1 hb
  obtain⟨o,c,d⟩:=f p.1 hb
  rw[e]at c;cases c
  exact⟨e,h,f1,f2,d⟩
theorem Inv.unpinned {a pl:List (ak×Obj)}{σ:St}{H:Hp}{s:ao}(I:Inv X (a++pl) σ H s):Inv X a σ H s:=I.pins_of fun p b=>I.pin p (aX _ (cb _ b))
theorem uE {iter:bJ}{body:List c8}{Y:TI}{g:TG}{tb:TS}{pos:Pos}(z:PassesOwn (model X.prog X.w) X.A X.env X.xe)(Z:X.calm=true)(hi:PI X tg iter Y)(hg:PG X tg g)(hb:qE X body tb)
  (hs:∀x,foldedSetIterable iter X.env x=pure x:=by intro _;rfl):PS X (.For tg iter body [] pos) (zKM Y g tb):=by
 intro a s σ H D I h
 refine wpAny_For (zI (hi a s σ H _ I h) fun v s1 h1=>zI h1 fun aa s2 h2=>?_) hs
 obtain⟨it,fp,tn,J,H2,e,I2,T,O,f2,W,⟨m0,w0⟩,B⟩:=h2
 subst e
 have c:∀{q:Hp},(∀b∈fp,q b=none)->∀b∈fp,uT X a q b:=fun hn b hb=>⟨hn b hb,(f2 b hb).2⟩
 refine codeAny_forLoop_any (fun n s'=>∃i C q,Inv X a C q s'/\tn i s'.heap/\(∀b∈fp,q b=none)/\W i n C q) ?_ m0 ⟨0,σ,H2,I2,O,fun b hb=>(f2 b hb).1,w0⟩
 rintro n s3 ⟨i,E,M,I3,F,G,w3⟩
 rcases B i n E M w3 with⟨stop,qn⟩|⟨go,N,hN,step⟩
 ·refine eX z (zI (T.done X rfl rfl rfl Z i a s3 E M X.xe I3 (c G) F stop) fun r s4 ⟨P,I4⟩=>?_)
  subst P
  exact jk ⟨E,M,I4,qn⟩
 ·refine eX z (zI (T.item X rfl rfl rfl Z i a s3 E M X.xe I3 (c G) F go) fun r s4 ⟨u,P,h4⟩=>?_)
  subst P
  refine eX z (zI h4 fun _ s5 ⟨x,H5,I5,r5,y5,y,Q⟩=>?_)
  have R:=I5.pinned (c Q) (T.obj _ _ y)
  refine eX z (zI (hg _ s5 E H5 x u _ R r5 (step x H5 y5)) fun _ s6 ⟨σ6,H6,I6,q6⟩=>?_)
  refine eX z (zI (hb _ s6 σ6 H6 _ I6 q6) fun f U t=>?_)
  have again:∀{j:St} {l:Hp},Inv X (a++zAV fp s5.heap) j l U->N j l->∃m,m<n/\∃i C q,Inv X a C q U/\tn i U.heap/\(∀b∈fp,q b=none)/\W i m C q:=fun{j l} p L=>by
   obtain⟨m',hm,w7⟩:=hN j l L
   refine⟨m',hm,i+1,j,l,p.unpinned,T.keep _ _ _ y fun b hb o e=>(p.pin (b,o) (aX _ (aX _ (gU hb e)))).1,fun b hb=>?_,w7⟩
   obtain⟨o,e,d⟩:=T.obj _ _ y b hb
   exact(p.pin (b,o) (aX _ (aX _ (gU hb e)))).2.1
  cases f with
  |next=>obtain⟨j,l,p,L⟩:=t;exact again p L
  |cont=>obtain⟨j,l,p,L⟩:=t;exact again p L
  |brk=>obtain⟨j,l,p,t⟩:=t;exact⟨j,l,p.unpinned,t⟩
  |ret v=>obtain⟨x7,j,l,p,r7,t⟩:=t;exact⟨x7,j,l,p.unpinned,r7,t⟩
end
abbrev R2:=V->V->Hp->VK->Prop
def yI (X:Cx)(f:aj->aj->Sem aj)(r:R2):Prop :=
 ∀(pins:List (ak×Obj)) (s:ao) (σ:St) (H:Hp) (x y:V) (v u:aj) (Q:VK),Inv X pins σ H s->zR x v->zR y u->r x y H Q->
  wpAny (model X.prog X.w) X.A (f v u) (EP X pins σ Q) X.xe s
def UnR (X:Cx)(f:aj->Sem aj)(r:V->Hp->VK->Prop):Prop :=
 ∀(pins:List (ak×Obj)) (s:ao) (σ:St) (H:Hp) (x:V) (v:aj) (Q:VK),Inv X pins σ H s->zR x v->r x H Q->
  wpAny (model X.prog X.w) X.A (f v) (EP X pins σ Q) X.xe s
def uU (X:Cx)(f:aj)(r:List V->Hp->VK->Prop):Prop :=
 ∀(pins:List (ak×Obj)) (s:ao) (σ:St) (H:Hp) (xs:List V) (us:List aj) (Q:VK),Inv X pins σ H s->zL xs us->r xs H Q->
  wpAny (model X.prog X.w) X.A (call f us) (EP X pins σ Q) X.xe s
def tOp (r:R2)(ta tb:TE):TE:=fun σ H Q=>ta σ H fun x H1=>tb σ H1 fun y H2=>r x y H2 Q
def tUn (r:V->Hp->VK->Prop)(ta:TE):TE:=fun σ H Q=>ta σ H fun x H1=>r x H1 Q
def rI (C:Int->Int->Prop)(g:Int->Int->V):R2:=fun x y H Q=>∃i j,x=.int i/\y=.int j/\C i j/\Q (g i j) H
def gG (g:Int->Int->V):R2:=fun x y H Q=>∃i j,x=.int i/\y=.int j/\Q (g i j) H
def rU (g:Int->V):V->Hp->VK->Prop:=fun x H Q=>∃i,x=.int i/\Q (g i) H
section
variable{X:Cx}{a b c:bJ}{ta tb tc:TE}{pos:Pos}
theorem zCo (ha:PE X a ta)(hb:PE X b tb){d:List (ak×Obj)}{s:ao}{σ:St}{H:Hp}{R:V->V->Hp->Prop}(I:Inv X d σ H s)
  (h:ta σ H fun x i=>tb σ i fun y e=>R x y e) {Q:aj->ao->Prop} {f:aj->aj->Sem aj}
  (hf:∀v u g x y e,Inv X d σ e g->zR x v->zR y u->R x y e->wpAny (model X.prog X.w) X.A (f v u) Q X.xe g) :
  wpAny (model X.prog X.w) X.A (eval a X.env) (fun v j=>wpAny (model X.prog X.w) X.A (eval b X.env) (fun u l=>wpAny (model X.prog X.w) X.A (f v u) Q X.xe l) X.xe j) X.xe s:=by
 refine zI (ha d s σ H _ I h) fun v m ⟨x,i,n,o,p⟩=>?_
 refine zI (hb d m σ i _ n p) fun u g ⟨y,e,q,r,t⟩=>?_
 exact hf v u g x y e q o r t
theorem zS {op:Operator}{r:R2}(e:yI X (binaryOp op) r)(ha:PE X a ta)(hb:PE X b tb):PE X (.BinOp a op b pos) (tOp r ta tb):=by
 intro d s σ H Q I h
 exact wpAny_BinOp (zCo ha hb I h fun v u f x y g i j l q=>e d f σ g x y v u Q i j l q)
theorem zKO {op:UnaryOp}{r:V->Hp->VK->Prop}(e:UnR X (unaryOp op) r)(ha:PE X a ta):PE X (.UnaryOp op a pos) (tUn r ta):=by
 intro d s σ H Q I h
 exact UnaryOp_ (zI (ha d s σ H _ I h) fun v f ⟨x,g,i,j,l⟩=>e d f σ g x v Q i j l)
theorem opI {f:aj->aj->Sem aj}{C:Int->Int->Prop}{g:Int->Int->Int}
  (rule:∀(i j:Int) (t u:Tok) (s:ao) (Q:aj->ao->Prop) (E:aj->ao->Prop),C i j->Q (.int (g i j) s.toks) {s with toks:=s.toks+1}->wpAny (model X.prog X.w) X.A (f (.int i t) (.int j u)) Q E s) :
  yI X f (rI C fun i j=>.int (g i j)):=by
 intro d s σ H x y v u Q I e l h
 obtain⟨i,j,rfl,rfl,m,q⟩:=h
 obtain⟨t,rfl⟩:=e
 obtain⟨t',rfl⟩:=l
 exact rule i j t t' s _ _ m ⟨.int (g i j),H,I.tok _,⟨_,rfl⟩,q⟩
theorem zFM {f:aj->aj->Sem aj}{g:Int->Int->Int}
  (rule:∀(i j:Int) (t u:Tok) (s:ao) (Q:aj->ao->Prop) (E:aj->ao->Prop),Q (.int (g i j) s.toks) {s with toks:=s.toks+1}->wpAny (model X.prog X.w) X.A (f (.int i t) (.int j u)) Q E s) :
  yI X f (gG fun i j=>.int (g i j)):=by
 intro d s σ H x y v u Q I e l h
 obtain⟨i,j,rfl,rfl,q⟩:=h
 obtain⟨t,rfl⟩:=e
 obtain⟨t',rfl⟩:=l
 exact rule i j t t' s _ _ ⟨.int (g i j),H,I.tok _,⟨_,rfl⟩,q⟩
theorem zCp {f:aj->aj->Sem aj}{g:Int->Int->Bool}
  (rule:∀(i j:Int) (t u:Tok) (s:ao) (Q:aj->ao->Prop) (E:aj->ao->Prop),Q (.bool (g i j)) s->wpAny (model X.prog X.w) X.A (f (.int i t) (.int j u)) Q E s) :
  yI X f (gG fun i j=>.bl (g i j)):=by
 intro d s σ H x y v u Q I e l h
 obtain⟨i,j,rfl,rfl,q⟩:=h
 obtain⟨t,rfl⟩:=e
 obtain⟨t',rfl⟩:=l
 exact rule i j t t' s _ _ ⟨.bl (g i j),H,I,rfl,q⟩
def zKP (i j:Int):Prop:=0<j/\j<1073741824
def zKQ (i j:Int):Prop:=0<=j/\j<=1000000/\i.natAbs<2^64
def zAy (i j:Int):Prop:=(-(2^64)<i/\i<2^64)\/(-(2^64)<j/\j<2^64)
theorem zAy.ok {i j:Int}(h:zAy i j):IntMulOk i j:=by
 rcases h with⟨d,e⟩|⟨d,e⟩
 ·exact .of_left (rE d e)
 ·exact .of_right (rE d e)
theorem yY:yI X (binaryOp .Add) (gG fun i j=>.int (i+j)):=zFM fun _ _ _ _ _ _ _ q=>add_int q
theorem zCq:yI X (binaryOp .Sub) (gG fun i j=>.int (i-j)):=zFM fun _ _ _ _ _ _ _ q=>sub_int q
theorem kP:yI X (binaryOp .Mult) (rI zAy fun i j=>.int (i*j)):=opI fun _ _ _ _ _ _ _ d q=>mul_int q d.ok
theorem zAW:yI X (binaryOp .FloorDiv) (rI zKP fun i j=>.int (i/j)):=opI fun i j _ _ _ _ _ d q=>by
 have e:(0:Int)<j:=d.1
 have f:j<1073741824:=d.2
 exact floordiv_int (by omega) (by rw[kb i (by omega)];exact q) (.inl (PyProof.noPylong_small (by omega)))
theorem gW:yI X (binaryOp .Mod) (rI (fun _ j=>0<j) fun i j=>.int (i%j)):=opI fun i j _ _ _ _ _ d q=>by
 have e:(0:Int)<j:=d
 exact mod_int' (by omega) (by rw[Int.fmod_eq_emod_of_nonneg i (by omega)];exact q)
theorem zKR:yI X (binaryOp .Pow) (rI zKQ fun i j=>.int (i^j.toNat)):=opI fun _ _ _ _ _ _ _ d q=>pow_int_small d.1 d.2.1 d.2.2 q
theorem unI {f:aj->Sem aj}{g:Int->Int}
  (rule:∀(i:Int) (t:Tok) (s:ao) (Q:aj->ao->Prop) (E:aj->ao->Prop),Q (.int (g i) s.toks) {s with toks:=s.toks+1}->wpAny (model X.prog X.w) X.A (f (.int i t)) Q E s) :
  UnR X f (rU fun i=>.int (g i)):=by
 intro d s σ H x v Q I e h
 obtain⟨i,rfl,q⟩:=h
 obtain⟨t,rfl⟩:=e
 exact rule i t s _ _ ⟨.int (g i),H,I.tok _,⟨_,rfl⟩,q⟩
theorem zKS:UnR X (unaryOp .USub) (rU fun i=>.int (-i)):=unI fun _ _ _ _ _ q=>neg_int q
end
def zFN:V->V->Bool
 | .non,.non=>true| .non,.int _=>true| .int _,.non=>true| .non,.bl _=>true| .bl _,.non=>true| .non,.str _=>true| .str _,.non=>true
 | .int _,.int _=>true| .bl _,.bl _=>true| .str _,.str _=>true| .byt _,.byt _=>true
 | .int _,.str _=>true| .str _,.int _=>true| .bl _,.str _=>true| .str _,.bl _=>true
 |_,_=>false
def rEq:R2:=fun x y H Q=>zFN x y=true/\Q (.bl (decide (x=y))) H
def rNe:R2:=fun x y H Q=>zFN x y=true/\Q (.bl (!decide (x=y))) H
theorem zFO {i j:Int}:decide (V.int i=V.int j)=(i==j):=by
 rw[dN]
 simp
theorem zFP {i j:Bool}:decide (V.bl i=V.bl j)=(i==j):=by
 rw[dN]
 simp
theorem zFQ {i j:Str}:decide (V.str i=V.str j)=(i==j):=by
 rw[dN]
 simp
theorem zFR {i j:Array UInt8}:decide (V.byt i=V.byt j)=(i.toList==j.toList):=by
 rw[dN]
 cases i
 cases j
 simp
section
variable{X:Cx}{a b c:bJ}{ta tb tc:TE}{pos:Pos}
theorem yQ {d:List (ak×Obj)}{σ:St}{H:Hp}{s:ao}{Q:VK}{k f:Bool}(I:Inv X d σ H s)(q:Q (.bl k) H)(e:k=f):EP X d σ Q (.bool f) s:=by
 subst e
 exact⟨.bl k,H,I,rfl,q⟩
theorem zAz:yI X (compareOp .Eq) rEq:=by
 intro g s σ H x y v u Q I f d h
 obtain⟨e,q⟩:=h
 cases x with
 |non=>
  cases f
  cases y with
  |non=>cases d;exact rg (yQ I q (by simp))
  |bl j=>cases d;exact rh (yQ I q (by simp))
  |int j=>obtain⟨t',rfl⟩:=d;exact rF (yQ I q (by simp))
  |str j=>obtain⟨t',rfl⟩:=d;exact rG (yQ I q (by simp))
  |_=>exact absurd (show false=true from e) aV
 |bl i=>
  cases f
  cases y with
  |non=>cases d;exact ri (yQ I q (by simp))
  |bl j=>cases d;exact eq_bool (yQ I q zFP)
  |str j=>obtain⟨t',rfl⟩:=d;exact rj (yQ I q (by simp))
  |_=>exact absurd (show false=true from e) aV
 |int i=>
  obtain⟨t,rfl⟩:=f
  cases y with
  |non=>cases d;exact rH (yQ I q (by simp))
  |int j=>obtain⟨t',rfl⟩:=d;exact eq_int (yQ I q zFO)
  |str j=>obtain⟨t',rfl⟩:=d;exact rJ (yQ I q (by simp))
  |_=>exact absurd (show false=true from e) aV
 |str i=>
  obtain⟨t,rfl⟩:=f
  cases y with
  |non=>cases d;exact rK (yQ I q (by simp))
  |bl j=>cases d;exact rk (yQ I q (by simp))
  |int j=>obtain⟨t',rfl⟩:=d;exact rL (yQ I q (by simp))
  |str j=>obtain⟨t',rfl⟩:=d;exact eq_str (yQ I q zFQ)
  |_=>exact absurd (show false=true from e) aV
 |byt i=>
  obtain⟨t,rfl⟩:=f
  cases y with
  |byt j=>obtain⟨t',rfl⟩:=d;exact PySem.W.eq_bytes (yQ I q zFR)
  |_=>exact absurd (show false=true from e) aV
 |_=>cases y<;>exact absurd (show false=true from e) aV
theorem zAX:yI X (compareOp .NotEq) rNe:=by
 intro g s σ H x y v u Q I f d h
 obtain⟨e,q⟩:=h
 cases x with
 |non=>
  cases f
  cases y with
  |non=>cases d;exact rl (yQ I q (by simp))
  |bl j=>cases d;exact rm (yQ I q (by simp))
  |int j=>obtain⟨t',rfl⟩:=d;exact rM (yQ I q (by simp))
  |str j=>obtain⟨t',rfl⟩:=d;exact rN (yQ I q (by simp))
  |_=>exact absurd (show false=true from e) aV
 |bl i=>
  cases f
  cases y with
  |non=>cases d;exact ro (yQ I q (by simp))
  |bl j=>cases d;exact ne_bool (yQ I q (congrArg not zFP))
  |str j=>obtain⟨t',rfl⟩:=d;exact rq (yQ I q (by simp))
  |_=>exact absurd (show false=true from e) aV
 |int i=>
  obtain⟨t,rfl⟩:=f
  cases y with
  |non=>cases d;exact rO (yQ I q (by simp))
  |int j=>obtain⟨t',rfl⟩:=d;exact ne_int (yQ I q (congrArg not zFO))
  |str j=>obtain⟨t',rfl⟩:=d;exact rP (yQ I q (by simp))
  |_=>exact absurd (show false=true from e) aV
 |str i=>
  obtain⟨t,rfl⟩:=f
  cases y with
  |non=>cases d;exact rQ (yQ I q (by simp))
  |bl j=>cases d;exact rA (yQ I q (by simp))
  |int j=>obtain⟨t',rfl⟩:=d;exact rR (yQ I q (by simp))
  |str j=>obtain⟨t',rfl⟩:=d;exact ne_str (yQ I q (congrArg not zFQ))
  |_=>exact absurd (show false=true from e) aV
 |byt i=>
  obtain⟨t,rfl⟩:=f
  cases y with
  |byt j=>obtain⟨t',rfl⟩:=d;exact PySem.W.ne_bytes (yQ I q (congrArg not zFR))
  |_=>exact absurd (show false=true from e) aV
 |_=>cases y<;>exact absurd (show false=true from e) aV
theorem zBA:yI X (compareOp .Lt) (gG fun i j=>.bl (decide (i<j))):=zCp fun _ _ _ _ _ _ _ q=>lt_int q
theorem kR:yI X (compareOp .LtE) (gG fun i j=>.bl (decide (i<=j))):=zCp fun _ _ _ _ _ _ _ q=>le_int q
theorem zKT:yI X (compareOp .Gt) (gG fun i j=>.bl (decide (j<i))):=zCp fun _ _ _ _ _ _ _ q=>gt_int q
theorem zKU:yI X (compareOp .Lt) (fun x y H Q=>∃i j,x=.str i/\y=.str j/\Q (.bl (decide (i.cps.toList<j.cps.toList))) H):=by
 intro d s σ H x y v u Q I e f h
 obtain⟨i,j,rfl,rfl,q⟩:=h
 obtain⟨t,rfl⟩:=e
 obtain⟨t',rfl⟩:=f
 exact lt_str (yQ I q rfl)
theorem zKV:yI X (compareOp .In) (fun x y H Q=>∃i j,x=.str i/\y=.str j/\Q (.bl (!(iy j i 0 j.length 1).isEmpty)) H):=by
 intro d s σ H x y v u Q I e f h
 obtain⟨i,j,rfl,rfl,q⟩:=h
 obtain⟨t,rfl⟩:=e
 obtain⟨t',rfl⟩:=f
 exact in_str (yQ I q rfl)
theorem zKW:yI X (compareOp .Is) (fun x y H Q=>y=.non/\Q (.bl (decide (x=.non))) H):=by
 intro d s σ H x y v u Q I e f h
 obtain⟨rfl,q⟩:=h
 cases f
 refine is_none_gen (yQ I q ?_)
 cases x<;>first
  |(cases e;rfl)
  |(obtain⟨t,rfl⟩:=e;rfl)
theorem yI.or {f:aj->aj->Sem aj}{r e:R2}(h:yI X f r)(h':yI X f e):yI X f (fun x y H Q=>r x y H Q\/e x y H Q):=by
 intro d s σ H x y v u Q I g i q
 rcases q with q|q
 ·exact h d s σ H x y v u Q I g i q
 ·exact h' d s σ H x y v u Q I g i q
theorem vD (b:bJ){op:qf}(h:op≠.In:=by decide)(d:op≠.NotIn:=by decide):behindInMarks op b=false:=by
 have e1:(op==CmpOp.In)=false:=by cases op<;>first|rfl|exact absurd rfl h
 have e:(op==CmpOp.NotIn)=false:=by cases op<;>first|rfl|exact absurd rfl d
 cases b<;>simp[behindInMarks,e1,e]
theorem qO {op:qf}{r:R2}(e:yI X (compareOp op) r)(ha:PE X a ta)(hb:PE X b tb)(f:behindInMarks op b=false):PE X (.Compare a [op] [b] pos) (tOp r ta tb):=by
 intro d s σ H Q I h
 exact wpAny_Compare1 (zCo ha hb I h fun v u g x y i j l m q=>e d g σ i x y v u Q j l m q) f
def zFS (t:TE):TT:=fun σ H Q=>t σ H fun x H'=>∃k,x=.bl k/\Q k H'
theorem vY {op:qf}{r:R2}(f:yI X (compareOp op) r)(ha:PE X a ta)(hb:PE X b tb)(g:behindInMarks op b=false):PT X (.Compare a [op] [b] pos) (zFS (tOp r ta tb)):=by
 intro d s σ H Q I h
 refine mQ (zI (ha d s σ H _ I h) fun v i ⟨x,j,l,m,n⟩=>zI (hb d i σ j _ l n) fun u o ⟨y,p,q,t,w⟩=>
  zI (f d o σ p x y v u _ q m t w) fun c E ⟨z,A,B,C,k,e,D⟩=>?_) g
 subst e
 cases C
 exact dv ⟨A,B,D⟩
def zFT (r r':R2)(ta tb tc:TE):TE:=fun σ H Q=>ta σ H fun x H1=>tb σ H1 fun y H2=>r x y H2 fun z H3=>∃k,z=.bl k/\
 (if k=true then tc σ H3 fun w' H4=>r' y w' H4 Q else Q (.bl false) H3)
theorem zKX {op g:qf}{r j:R2}(p:yI X (compareOp op) r)(i:yI X (compareOp g) j)(ha:PE X a ta)(hb:PE X b tb)(q:PE X c tc)
  (t:lastMarks [op,g] [b,c]=false:=by with_unfolding_all rfl):PE X (.Compare a [op,g] [b,c] pos) (zFT r j ta tb tc):=by
 intro f s σ H Q I h
 refine Compare_chain (zI (ha f s σ H _ I h) fun v w ⟨x,A,B,C,D⟩=>chain_link (zI (hb f w σ A _ B D) fun u E ⟨y,F,G,l,J⟩=>
  zI (p f E σ F x y v u _ G C l J) fun d L ⟨z,m,n,M,k,e,o⟩=>?_)) t
 subst e
 cases M
 refine dv ?_
 cases k with
 |false=>exact ite_ff ⟨.bl false,m,n,rfl,o⟩
 |true=>exact ite_tt (chain_last (zI (q f L σ m _ n o) fun N O ⟨P,R,T,U,W⟩=>i f O σ R y P u N Q T l U W))
theorem zCr {op g:qf}{r j:R2}(p:yI X (compareOp op) r)(i:yI X (compareOp g) j)(ha:PE X a ta)(hb:PE X b tb)(q:PE X c tc)
  (t:lastMarks [op,g] [b,c]=false:=by with_unfolding_all rfl):PT X (.Compare a [op,g] [b,c] pos) (zFS (zFT r j ta tb tc)):=by
 intro f s σ H Q I h
 refine isTrue_chain (zI (ha f s σ H _ I h) fun v w ⟨x,A,B,C,D⟩=>test_link (zI (hb f w σ A _ B D) fun u E ⟨y,F,G,l,J⟩=>
  zI (p f E σ F x y v u _ G C l J) fun d L ⟨z,m,n,M,k,e,o⟩=>?_)) t
 subst e
 cases M
 refine dv ?_
 cases k with
 |false=>
  obtain⟨k',N,O⟩:=o
  cases N
  exact ite_ff ⟨m,n,O⟩
 |true=>
  refine ite_tt (test_last (zI (q f L σ m _ n o) fun P R ⟨T,U,W,Y,Z⟩=>zI (i f R σ U y T u P _ W l Y Z) fun d' s5 ⟨z2,H5,I5,r5,k2,e2,q5⟩=>?_))
  subst e2
  cases r5
  exact dv ⟨H5,I5,q5⟩
theorem zBB:(sizeLine:Nat)<2^63:=by rw[aF];decide
theorem zCs:yI X (binaryOp .Add) (fun x y H Q=>∃i j,x=.str i/\y=.str j/\i.length+j.length<=sizeLine/\Q (.str (i++j)) H):=by
 intro d s σ H x y v u Q I e f h
 obtain⟨i,j,rfl,rfl,hz,q⟩:=h
 obtain⟨t,rfl⟩:=e
 obtain⟨t',rfl⟩:=f
 exact add_str (fun t' tk=>⟨.str (i++j),H,I.tok _,⟨_,rfl⟩,q⟩) hz
theorem uF {x:V}{d:List aj}(r:zL [x] d):∃u,d=[u]/\zR x u:=by
 cases r with
 |cons e f=>cases f;exact⟨_,rfl,e⟩
theorem zAY {x y:V}{d:List aj}(r:zL [x,y] d):∃u e,d=[u,e]/\zR x u/\zR y e:=by
 cases r with
 |cons f g=>
  cases g with
  |cons h i=>cases i;exact⟨_,_,rfl,f,h⟩
theorem zKY (f:X.calm=true):uU X (.builtin "max") (fun xs H Q=>∃i j,xs=[.int i,.int j]/\Q (.int (if j>i then j else i)) H):=by
 intro e s σ H xs g Q I r h
 obtain⟨i,j,rfl,q⟩:=h
 obtain⟨u,l,rfl,⟨t,rfl⟩,⟨t',rfl⟩⟩:=zAY r
 refine max_two_ints (I.ok.hd f) fun h' tk k=>⟨_,H,I.kept k,?_,q⟩
 by_cases d:j>i
 ·rw[if_pos d,if_pos d];exact⟨_,rfl⟩
 ·rw[if_neg d,if_neg d];exact⟨_,rfl⟩
theorem zKZ (f:X.calm=true):uU X (.builtin "min") (fun xs H Q=>∃i j,xs=[.int i,.int j]/\Q (.int (if j<i then j else i)) H):=by
 intro e s σ H xs g Q I r h
 obtain⟨i,j,rfl,q⟩:=h
 obtain⟨u,l,rfl,⟨t,rfl⟩,⟨t',rfl⟩⟩:=zAY r
 refine min_two_ints (I.ok.hd f) fun h' tk k=>⟨_,H,I.kept k,?_,q⟩
 by_cases d:j<i
 ·rw[if_pos d,if_pos d];exact⟨_,rfl⟩
 ·rw[if_neg d,if_neg d];exact⟨_,rfl⟩
end
structure ObjM (h:bE) (x dx C:ak) (mA:Str->Option aj):Prop where
 obj:h.get? x=some (eW C dx)
 ns:h.Ns1 dx mA
 ne:dx≠x
theorem zKa {h:bE}{c:ak}{d:Str->Option aj}(n:h.Ns1 c d):∃od,h.get? c=some od/\∀name,m9 name od=some (d name):=by
 obtain⟨o,f,ep,g,hd,i,_,j⟩:=n
 refine⟨o,g,fun name=>?_⟩
 have e:=j name
 unfold nsFind findBy at e
 rw[<-Array.find?_toList]at e
 unfold m9
 rw[hd]
 dsimp only
 split
 ·rename_i y q
  rw[q]at e
  exact congrArg some e
 ·rename_i q
  rw[q]at e
  have a:f.toList.any (·.refKey)=false:=by
   rw[List.any_eq_false]
   intro y l
   obtain⟨z,t,b⟩:=i y (Array.mem_toList_iff.mp l)
   simp[uf,b]
  have m:¬f.toList.any (·.refKey)=true:=by rw[a];exact aV
  rw[if_neg m]
  exact congrArg some e
theorem ObjM.look {h:bE}{x a C:ak}{b:Str->Option aj}(I:ObjM h x a C b):∃od,PySem.W.InstAt h x (eW C a) C (some od)/\∀name,m9 name od=some (b name) :=
 let⟨od,c,hl⟩:=zKa I.ns
 ⟨od,⟨I.obj,rfl,rfl,c⟩,hl⟩
theorem qM.some_of {v:V}{o:Option aj}(r:qM (some v) o):∃u,o=some u/\zR v u:=by
 cases o with
 |none=>exact(show False from r).elim
 |some u=>exact⟨u,rfl,r⟩
section
variable{P:aJ}{w:aY}{H H':Hp}{h h':bE}{a C dx:ak}{fs fs':List (Str×V)}
theorem zKb (hok:yA P w H h)(e:H a=some (.ins C dx fs)):∃b,ObjM h a dx C b/\(∀f,qM (fs.lookup f) (b f))/\sF b (fs.map (·.1))/\fs.length<=1000/\H dx=some (.own a):=by
 obtain⟨d,z,ne,c,b,n,r,q⟩:=(show yS P w H h a (.ins C dx fs)from hok a _ e)
 exact⟨b,⟨c,n,ne⟩,r,q,z,d⟩
end
structure Cls (K:ag) (C:ak):Prop where
 pg:o9 K C ug=true
 hd:PySem.W.hasDictIn K C=true
 po:PySem.W.plainOver K C=true
 sa:qg K (.ref C) "__setattr__"=some (some (.builtin "object.__setattr__"))
theorem Cls.get {K:ag}{C:ak}(c:Cls K C)(f:Str):o9 K C f=true:=c.pg
section
variable{X:Cx}{pins:List (ak×Obj)}{σ:St}{H:Hp}{s:ao}{a C dx:ak}{fs:List (Str×V)}{f:Str}{v:V}{A:bO}{E:aj->ao->Prop}
theorem Inv.made (I:Inv X pins σ H s):Inv X pins σ (upd (upd H s.heap.objs.size (.own (s.heap.objs.size+1))) (s.heap.objs.size+1) (.ins C s.heap.objs.size []))
  {s with heap:=(s.heap.push dH).push (eW C s.heap.objs.size)}:=by
 have e1:(s.heap.push dH).get? s.heap.objs.size=some dH:=aA s.heap rfl
 have c:((s.heap.push dH).push (eW C s.heap.objs.size)).get? (s.heap.objs.size+1)=some (eW C s.heap.objs.size):=by
  have:=aA (s.heap.push dH) (o:=eW C s.heap.objs.size) rfl
  rwa [bF]at this
 have d:(s.heap.push dH).Ns s.heap.objs.size (fun _=>none):=⟨dH,#[],_,e1,rfl,(fun e g=>absurd g (by simp)),fun _=>rfl⟩
 have h:=I.laid (a:=s.heap.objs.size) (o:=.own (s.heap.objs.size+1)) (h':=s.heap.push dH) (t':=s.toks) (fun b u q=>ae _ q) (ay _) ⟨_,e1⟩
 refine h.laid (a:=s.heap.objs.size+1) (o:=.ins C s.heap.objs.size []) (t':=s.toks) (fun b u q=>ae _ q) (fN (bF _ _)) ?_
 have ne:s.heap.objs.size≠s.heap.objs.size+1:=bc (dB _)
 refine⟨by rw[zG ne,zE],bp _,ne,c,fun _=>none,(Heap.Ns1.of_empty d).at fun o q=>ae _ q,fun _=>True.intro,fun y i=>absurd rfl i⟩
end
section
variable{X:Cx}{pins:List (ak×Obj)}{σ:St}{H:Hp}{s:ao}{A:bO}{E:aj->ao->Prop}{Q:aj->ao->Prop}{c:aj}{b:Bool}
inductive TyOf (K:ag) (H:Hp):V->aj->Prop where
 |non:TyOf K H .non (.type "NoneType")
 |bl (x:Bool):TyOf K H (.bl x) (.type "bool")
 |int (i:Int):TyOf K H (.int i) (.type "int")
 |str (x:Str):TyOf K H (.str x) (.type "str")
 |flt (x:UInt64):TyOf K H (.flt x) (.type "float")
 |lst {a:ak} {xs:List V} (e:H a=some (.lst xs)):TyOf K H (.ref a) (.type "list")
 |frz {a:ak} {o:Obj} {xs:List V} (e:H a=some (.frz o (.lst xs))):TyOf K H (.ref a) (.type "list")
 |tup {a:ak} {xs:List V} (e:H a=some (.tup xs)):TyOf K H (.ref a) (.type "tuple")
 |dK {a:ak} {kvs:List (zJ×V)} (e:H a=some (.dK kvs)):TyOf K H (.ref a) (.type "dict")
 |dT {a:ak} {kvs:List (List yR×V)} (e:H a=some (.dT kvs)):TyOf K H (.ref a) (.type "dict")
 |ins {a C dx:ak} {fs:List (Str×V)} (e:H a=some (.ins C dx fs)) (cl:Cls K C) (ha:qg K (.ref C) "__class__"=some (some (.builtin "object.__class__")))
   (hn:PySem.W.specialIn K (.builtin "object.__class__") "__get__"=some (some (.builtin "getset_descriptor.__get__"))) (htk:PySem.W.takesIn K (.builtin "object.__class__")=some true)
   (hm:PySem.W.mroIn K C (.type "object")=some true):TyOf K H (.ref a) (.ref C)
theorem zKc {x:V}{u t:aj}(I:Inv X pins σ H s)(d:zR x u)(ty:TyOf X.K H x t)(e:bx X.K t c=some b)(h:∀tk,Q (.bool b) {s with toks:=tk}) :
  wpAny (model X.prog X.w) A (call (.builtin "isinstance") [u,c]) Q E s:=by
 cases ty with
 |non=>cases(show u=Value.none from d);exact dm PySem.W.kitx_none I.kIn True.intro e (fun z=>nomatch z) h
 |bl y=>cases(show u=Value.bool y from d);exact dm PySem.W.kitx_bool I.kIn True.intro e (fun z=>nomatch z) h
 |int i=>obtain⟨t,q⟩:=(show∃t,u=Value.int i t from d);cases q;exact dm PySem.W.kitx_int I.kIn True.intro e (fun z=>nomatch z) h
 |str y=>obtain⟨t,q⟩:=(show∃t,u=Value.str y t from d);cases q;exact dm PySem.W.kitx_str I.kIn True.intro e (fun z=>nomatch z) h
 |flt y=>obtain⟨t,q⟩:=(show∃t,u=Value.float y t from d);cases q;exact dm PySem.W.kitx_float I.kIn True.intro e (fun z=>nomatch z) h
 | @lst a xs f=>
  cases(show u=Value.ref a from d)
  obtain⟨_,_,n,_,g⟩:=(show yS X.prog X.w H s.heap a (.lst xs)from I.hok a _ f)
  exact dm oq I.kIn ⟨_,g,rfl⟩ e (fun z=>nomatch z) h
 | @frz a r xs f=>
  cases(show u=Value.ref a from d)
  obtain⟨_,_,_,n,_,g⟩:=(show yS X.prog X.w H s.heap a (.frz r (.lst xs))from I.hok a _ f)
  exact dm oq I.kIn ⟨_,g,rfl⟩ e (fun z=>nomatch z) h
 | @tup a xs f=>
  cases(show u=Value.ref a from d)
  obtain⟨_,_,_,p⟩:=(show yS X.prog X.w H s.heap a (.tup xs)from I.hok a _ f)
  obtain⟨o,g,j,_⟩:=p
  exact dm PySem.W.kitx_tuple I.kIn ⟨o,g,j⟩ e (fun z=>nomatch z) h
 | @dK a kvs f=>
  cases(show u=Value.ref a from d)
  obtain⟨_,_,vs,_,p⟩:=(show yS X.prog X.w H s.heap a (.dK kvs)from I.hok a _ f)
  obtain⟨o,v,ep,g,j,_⟩:=p
  exact dm ou I.kIn ⟨o,g,j.1⟩ e (fun z=>nomatch z) h
 | @dT a kvs f=>
  cases(show u=Value.ref a from d)
  obtain⟨_,_,xs,_,o,v,ep,g,j,_⟩:=(show yS X.prog X.w H s.heap a (.dT kvs)from I.hok a _ f)
  exact dm ou I.kIn ⟨o,g,j.1⟩ e (fun z=>nomatch z) h
 | @ins a C F fs f m ha B l D=>
  cases(show u=Value.ref a from d)
  obtain⟨G,O,_⟩:=zKb I.hok f
  obtain⟨od,J,_⟩:=O.look
  exact dm (PySem.W.kitx_own (m.get _) m.hd ha B l D) I.kIn J e (fun z=>nomatch z) h
end
structure Room (k:Nat) (A:bO):Prop where
 hd:A.handled=none
 dp:A.depth+3*k+5<recursionLimit
 un:A.units+16*k+200<cLine
theorem Room.mono {j k:Nat}{A:bO}(r:Room k A)(h:j<=k):Room j A:=⟨r.hd,by have:=r.dp;omega,by have:=r.un;omega⟩
theorem Room.deeper {k:Nat}{A:bO}(r:Room (k+1) A)(env:Env):Room k (A.deeper env) :=
 ⟨r.hd,by have:=r.dp;show A.depth+1+3*k+5<_;omega,by have:=r.un;show A.units+3+16*k+200<_;omega⟩
theorem Room.in1 {k:Nat}{A:bO}(r:Room (k+1) A):Room k A.in1 :=
 ⟨r.hd,by have:=r.dp;show A.depth+3*k+5<_;omega,by have:=r.un;show A.units+1+16*k+200<_;omega⟩
theorem Room.depth {k:Nat}{A:bO}(r:Room k A):A.depth<recursionLimit:=by have:=r.dp;omega
theorem Room.units {k:Nat}{A:bO}(r:Room k A):A.units+64<cLine:=by have:=r.un;omega
def zBb:TA:=fun _ H Q=>Q [] H
def zBC (ta:TE)(tr:TA):TA:=fun σ H Q=>ta σ H fun x H1=>tr σ H1 fun xs H2=>Q (x::xs) H2
section
variable{X:Cx}{e:bJ}{es:List bJ}{te:TE}{t:TA}{pos:Pos}
theorem zD:PA X [] zBb:=fun _ _ _ _ H Q I h=>iC ⟨[],H,I,.nil,h⟩
theorem zC (ha:PE X e te)(b:PA X es t)(c:starEach (e::es) X.env=(false,eval e X.env)::starEach es X.env:=by rfl):PA X (e::es) (zBC te t):=by
 intro pos a s σ H Q I h
 rw[c]
 show wpAny _ _ (spliced ((false,eval e X.env)::backTo pos (starEach es X.env))) _ _ s
 refine eI (zI (ha a s σ H _ I h) fun u d ⟨x,f,g,i,j⟩=>?_)
 exact zI (b pos a d σ f _ g j) fun p q ⟨xs,l,m,n,o⟩=>⟨x::xs,l,m,.cons i n,o⟩
def zKd (t:TA):TE:=fun σ H Q=>t σ H fun xs H1=>xs.length<=sizeLine/\∀p,H1 p=none->Q (.ref p) (upd H1 p (.tup xs))
def zKe (t:TA):TE:=fun σ H Q=>t σ H fun xs H1=>xs.length<=sizeLine/\∀p,H1 p=none->Q (.ref p) (upd H1 p (.lst xs))
theorem v9 {g}(h:PA X es t):PE X (.Tuple es g pos) (zKd t):=by
 intro a s σ H Q I i
 refine nG (zI (h pos a s σ H _ I i) fun j c ⟨xs,d,f,r,z,q⟩=>⟨by rw[<-r.length];exact z,?_⟩)
 have hf:d c.heap.objs.size=none:=f.hok.fresh (ay _)
 refine⟨.ref c.heap.objs.size,upd d c.heap.objs.size (.tup xs),f.laid (t':=c.toks) (fun b u e=>ae _ e) (ay _) ?_,rfl,q _ hf⟩
 exact⟨z,j,r,⟨_,aA _ rfl,rfl,_,rfl⟩⟩
theorem uG (h:PA X es t):PE X (.List es pos) (zKe t):=by
 intro a s σ H Q I g
 refine wpAny_List_spliced (zI (h pos a s σ H _ I g) fun i c ⟨xs,d,f,r,z,q⟩=>⟨by rw[<-r.length];exact z,?_⟩)
 have hf:d c.heap.objs.size=none:=f.hok.fresh (ay _)
 refine⟨.ref c.heap.objs.size,upd d c.heap.objs.size (.lst xs),f.laid (t':=c.toks) (fun b u e=>ae _ e) (ay _) ?_,rfl,q _ hf⟩
 exact⟨z,i,0,r,aA _ rfl⟩
end
abbrev Sp:=List V->Hp->VK->XK->Prop
abbrev jZ:=List Env->Hp->ao->XK->aj->ao->Prop
structure Env0 (P:aJ) (w:aY) (K:ag) (mg:Str->Option aj) (base:bE) (A:bO) (outer:List Env) (s:ao) (H:Hp):Prop where
 frames:A.frames=some outer
 mod:Mod K mg base
 bs:∀b o,base.get? b=some o->s.heap.get? b=some o/\H b=none
 bsz:base.objs.size<=s.heap.objs.size
 funs:s.heap.FunFrames base outer
 frf:∀b∈uN outer,H b=none
 hok:yA P w H s.heap
 bare:lx s.gens
def CE (outer:List Env)(P:aJ)(w:aY)(H:Hp)(s:ao)(Q:VK)(u:aj)(s':ao):Prop :=
 ∃v H',s'.os=s.os/\lx s'.gens/\Un (uN outer) [] H H' s.heap s'.heap/\yA P w H' s'.heap/\zR v u/\Q v H'
def CR (CX:jZ)(outer:List Env)(P:aJ)(w:aY)(H:Hp)(s:ao)(Q:VK)(E:XK)(r:qh)(s':ao):Prop :=
 match r with
 | .ok (.ret u)=>CE outer P w H s Q u s'
 | .ok _=>False
 | .error e=>CX outer H s E e s'
structure FnOk (P:aJ) (w:aY) (K:ag) (mg:Str->Option aj) (base:bE) (CX:jZ) (k:Nat) (f:ak) (fd:bg) (ps:List Str) (sp:Sp):Prop where
 len:∀vs H Q E,sp vs H Q E->vs.length=ps.length
 run:∀(A:bO) (outer:List Env) (s:ao) (H:Hp) (args:Args) (us:List aj) (vs:List V) (Q:VK) (E:XK),Room k A->Env0 P w K mg base A outer s H->ox s fd args (ps.zip us)->zL vs us->sp vs H Q E->
  codeAny (model P w) A (.call (.ref f) args) (CR CX outer P w H s Q E) s
theorem FnOk.imp {P:aJ}{w:aY}{K:ag}{mg:Str->Option aj}{base:bE}{a:jZ}{k:Nat}{f:ak}{fd:bg}{ps:List Str}{sp sp':Sp}(F:FnOk P w K mg base a k f fd ps sp)
  (h:∀vs H Q E,sp' vs H Q E->sp vs H Q E):FnOk P w K mg base a k f fd ps sp' :=
 ⟨fun vs H Q E q=>F.len vs H Q E (h _ _ _ _ q),fun A outer s H args b vs Q E c d hb hv e=>F.run A outer s H args b vs Q E c d hb hv (h _ _ _ _ e)⟩
theorem Env0.in1 {P:aJ}{w:aY}{K:ag}{mg:Str->Option aj}{base:bE}{A:bO}{outer:List Env}{s:ao}{H:Hp}(e:Env0 P w K mg base A outer s H) :
  Env0 P w K mg base A.in1 outer s H:=⟨e.frames,e.mod,e.bs,e.bsz,e.funs,e.frf,e.hok,e.bare⟩
section
variable{X:Cx}{pins:List (ak×Obj)}{σ:St}{H:Hp}{s s':ao}
theorem Inv.env0 (I:Inv X pins σ H s):Env0 X.prog X.w X.K X.mg X.base X.A X.stack s H :=
 ⟨I.ok.frames,I.ok.mod,I.bs,bR I.ok.bsz I.sz,I.stack,I.stkFree,I.hok,I.bare⟩
theorem Inv.after {Q:VK}{u:aj}(I:Inv X pins σ H s)(h:CE X.stack X.prog X.w H s Q u s'):EP X pins σ Q u s':=by
 obtain⟨v,c,os,bare,un,hok,r,q⟩:=h
 obtain⟨e,g,d,t,a⟩:=s'
 obtain rfl:a=s.os:=os
 exact⟨v,c,I.call (h':=e) (g':=g) (d':=d) (t':=t) (ch:=[]) un hok bare (fun b z=>absurd z (by simp)),r,q⟩
end
def zBD (sp:Sp)(dvs:List V)(E:XK)(t:TA):TE:=fun σ H Q=>t σ H fun vs H1=>sp (vs++dvs) H1 Q E
def j0 (K:ag)(fd:bg)(ps:List Str)(ds:List aj):Prop :=
 ∀(s:ao) (us:List aj),K.In s.heap->(us++ds).length=ps.length->ox s fd ⟨us,[]⟩ (ps.zip (us++ds))
theorem j0.all {K:ag}{fd:bg}{ps:List Str}(h:∀a:List aj,a.length=ps.length->bindArgs fd ⟨a,[]⟩=pure (ps.zip a)):j0 K fd ps []:=fun s a _ hl=>by
 rw[eY]at hl⊢
 exact .of_eq (h a hl)
def zCt (CX:jZ)(X:Cx)(E:XK):Prop:=∀(pins:List (ak×Obj)) (σ:St) (H:Hp) (s:ao) (e:aj) (s':ao),Inv X pins σ H s->CX X.stack H s E e s'->X.xe e s'
section
variable{X:Cx}{CX:jZ}{k:Nat}{f C:ak}{fd:bg}{ps:List Str}{sp:Sp}{dvs:List V}{ds:List aj}{E:XK}{x m:Str}{p pos apos:Pos}{e o:bJ}{es:List bJ}{ta:TE}{t:TA}
theorem zKf {a:List (ak×Obj)}{σ:St}{H:Hp}{s:ao}{Q:VK}{b:List aj}{vs:List V}(F:FnOk X.prog X.w X.K X.mg X.base CX k f fd ps sp)(g:Room k X.A)(hb:j0 X.K fd ps ds)(hd:zL dvs ds)(i:zCt CX X E)
  (I:Inv X a σ H s) (r:zL vs b) (h:sp (vs++dvs) H Q E):wpAny (model X.prog X.w) X.A (call (.ref f) b) (EP X a σ Q) X.xe s:=by
 have d:zL (vs++dvs) (b++ds):=r.append hd
 have hl:(b++ds).length=ps.length:=by rw[<-d.length];exact F.len _ _ _ _ h
 refine nZ (fb (F.run X.A X.stack s H ⟨b,[]⟩ (b++ds) (vs++dvs) Q E g I.env0 (hb s b I.kIn hl) d h) fun r s' c=>?_)
 cases r with
 |error e=>exact i a σ H s e s' I c
 |ok j=>
  cases j with
  |ret u=>exact I.after c
  |next=>exact fm c
  |brk=>exact fm c
  |cont=>exact fm c
theorem zKg (F:FnOk X.prog X.w X.K X.mg X.base CX k f fd ps sp)(g:Room k X.A)(i:Gl X x)(j:X.mg x=some (.ref f))(l:dy X.K (.ref f)=true)(hb:j0 X.K fd ps ds)(hd:zL dvs ds)(n:zCt CX X E)
  (ha:PA X (e::es) t) (b:(x==("__debug__" : Str))=false:=by decide) (u:starEach (e::es) X.env=(false,eval e X.env)::starEach es X.env:=by rfl) (c:(backTo pos (starEach es X.env)).any (·.1)=false:=by rfl) :
  PE X (.Call (.Name x p) (e::es) [] pos) (zBD sp dvs E t):=by
 intro a s σ H Q I h
 refine dW (zFE I i j ?_ b)
 refine PySem.W.callWith_K (h₀:=X.base) I.ok.mod.kin l (zI (ha pos a s σ H _ I h) fun v y ⟨vs,z,d,r,q⟩=>⟨d.kIn,?_⟩) u c
 exact zKf F g hb hd n d r q
end
section
variable{X:Cx}{CX:jZ}{k:Nat}{f C:ak}{fd:bg}{ps ks:List Str}{sp:Sp}{E:XK}{x m:Str}{p pos apos kpos:Pos}{e o:bJ}{es:List bJ}{kws:List mm}{te ta:TE}{t tk:TA}{nm:Option Str}
variable{g:List aj->List aj->List aj}{gV:List V->List V->List V}
end
structure FnScope (N P:List Str) (sc:fX):Prop where
 kind:sc.kind=.function
 co:sc.isCoroutine=false
 gen:sc.isGenerator=false
 nd:N.Nodup
 pre:N.take P.length=P
 par:∀x∈P,sc.names.lookup x=some .local\/sc.names.lookup x=some .cell
 nofree:∀y∈sc.names,y.2≠.free
theorem zFU {kindOf:Str->Option kc}{x:Str}:∀{binds:List (Str×aj)}{m:Str->Option aj},(∀v,(x,v)∉binds)->bindL kindOf binds m x=m x
 | [],_,_=>rfl
 |(n,v)::r,m,h=>by
  unfold bindL
  rw[zFU fun w a=>h w (aC _ a)]
  split
  ·have:x≠n:=by rintro rfl;exact h v az
   simp[this]
  ·rfl
theorem zFV {kindOf:Str->Option kc}{x:Str}:∀{binds:List (Str×aj)}{m:Str->Option aj},(∀v,(x,v)∉binds)->bindC kindOf binds m x=m x
 | [],_,_=>rfl
 |(n,v)::r,m,h=>by
  unfold bindC
  rw[zFV fun w a=>h w (aC _ a)]
  split
  ·rfl
  ·have:x≠n:=by rintro rfl;exact h v az
   simp[this]
theorem zFW {kindOf:Str->Option kc}{x:Str}{v:aj}:∀{P:List Str}{vs:List aj}{i:Nat}{m:Str->Option aj},P.Nodup->P[i]?=some x->vs[i]?=some v->kindOf x=some .local->
  bindL kindOf (P.zip vs) m x=some v
 | [],_,_,_,_,h,_,_=>by simp at h
 |_::_,[],_,_,_,_,h,_=>by simp at h
 |p::P,w::vs,0,m,nd,a,b,c=>by
  simp at a b;subst a;subst b
  show bindL kindOf ((p,w)::P.zip vs) m p=_
  unfold bindL
  rw[zFU fun v hv=>(bz.mp nd).1 (mH hv).1,if_pos c]
  simp
 |p::P,w::vs,i+1,m,nd,a,b,c=>by
  show bindL kindOf ((p,w)::P.zip vs) m x=_
  unfold bindL
  exact zFW (i:=i) (bz.mp nd).2 (by simpa using a) (by simpa using b) c
theorem zFX {kindOf:Str->Option kc}{x:Str}{v:aj}:∀{P:List Str}{vs:List aj}{i:Nat}{m:Str->Option aj},P.Nodup->P[i]?=some x->vs[i]?=some v->kindOf x≠some .local->
  bindC kindOf (P.zip vs) m x=some v
 | [],_,_,_,_,h,_,_=>by simp at h
 |_::_,[],_,_,_,_,h,_=>by simp at h
 |p::P,w::vs,0,m,nd,a,b,c=>by
  simp at a b;subst a;subst b
  show bindC kindOf ((p,w)::P.zip vs) m p=_
  unfold bindC
  rw[zFV fun v hv=>(bz.mp nd).1 (mH hv).1,if_neg c]
  simp
 |p::P,w::vs,i+1,m,nd,a,b,c=>by
  show bindC kindOf ((p,w)::P.zip vs) m x=_
  unfold bindC
  exact zFX (i:=i) (bz.mp nd).2 (by simpa using a) (by simpa using b) c
def start (N:List Str)(vs:List V):St:=vs.map some++bh (N.length-vs.length) none
def gX (CX:jZ)(P:aJ)(w:aY)(K:ag)(mg:Str->Option aj)(base:bE)(N:List Str)(qual:Str)(scope:fX)(f:ak)(cd:aj)(A:bO)(outer:List Env)(s:ao)(H:Hp)(E:XK):Cx where
 prog:=P
 w:=w
 K:=K
 mg:=mg
 base:=base
 A:=A.deeper (envOfC qual scope s.heap.objs.size f cd)
 N:=N
 s₀:=s
 H₀:=H
 env:=envOfC qual scope s.heap.objs.size f cd
 outer:=outer
 stack:=envOfC qual scope s.heap.objs.size f cd::outer
 ex:=[]
 calm:=true
 fn:=fun _=>true
 pn:=[]
 xe:=fun e s'=>wpAny (model P w) (A.deeper (envOfC qual scope s.heap.objs.size f cd)) (leaving (envOfC qual scope s.heap.objs.size f cd) e) (fun _ s''=>CX outer H s E e s'') (fun e' s''=>CX outer H s E e' s'') s'
theorem zFY {a:fX}{n:Nat}{x:Str}(h:a.names.lookup x=some .cell):∃c,(cellsFrom n a.names []).lookup x=some c:=by
 have q:=mq a.names n [] (.inl h)
 exact ij.mp q
theorem zKh {F:jZ}{P:aJ}{w:aY}{K:ag}{mg:Str->Option aj}{base:bE}{N ps:List Str}{d:Str}{scope:fX}{f:ak}{B:aj}{A:bO}{outer:List Env}{s G:ao}{H:Hp}{E:XK}{D:List aj}{vs:List V}
  (S:FnScope N ps scope) (hd:A.handled=none) (j:Env0 P w K mg base A outer s H) (hl:vs.length=ps.length) (r:zL vs D)
  (x:InCallC s s.heap.objs.size (bindL (envOfC d scope s.heap.objs.size f B).kindOf (ps.zip D) fun _=>none) (cellsFrom (s.heap.objs.size+1) scope.names []) (bindC (envOfC d scope s.heap.objs.size f B).kindOf (ps.zip D) fun _=>none) G) :
  Inv (gX F P w K mg base N d scope f B A outer s H E) [] (start N vs) H G:=by
 have L:ps.length<=N.length:=by have:=congrArg eE S.pre;rw[aI]at this;omega
 obtain⟨C,tk,rfl,I⟩:=x.done
 have l:∀b:ak,b∉(gX F P w K mg base N d scope f B A outer s H E).ex:=fun b z=>absurd (show b∈([]:List ak)from z) (by simp)
 refine⟨⟨j.mod,S.kind,rfl,rfl,ay _,fun y z c C g=>?_,fun y m=>?_,fun y c _ h=>?_,fun _=>hd,Around.frames_deeper j.frames,.inr ⟨rfl,rfl⟩,fun b z=>absurd z (l b),j.bs,j.bsz,fun b _ _=>l b,fun b z=>absurd z (l b),j.funs,j.frf⟩,
  rfl,j.bare,Un.kept I,⟨_,x.toInCall.ns,fun i y v C g O=>?_⟩,fun y c h=>⟨_,x.cell y c h⟩,j.hok.fresh (ay _),fun y c h=>?_,fun p o=>absurd (show p∈([]:List (ak×Obj))from o) (by simp),j.hok.kept I,?_⟩
 ·exact name_of_addr x.apart (eA C) (eA g)
 ·have m:scope.names.lookup y=some .cell\/scope.names.lookup y=some .free:=m
  rcases m with m|m
  ·exact zFY m
  ·exact absurd rfl (S.nofree _ (eA m))
 ·exact oj (x.above y c (eA h))
 ·have hi:i<vs.length:=by
   unfold start at g
   by_cases hi:i<vs.length
   ·exact hi
   ·rw[aP (by simpa using hi)]at g
    rw[lO]at g
    split at g<;>cases g
  have ha:vs[i]?=some v:=by
   unfold start at g
   rw[aT (by simpa using hi),aw]at g
   cases e:vs[i]? with
   |none=>rw[e]at g;cases g
   |some a=>rw[e]at g;cases g;rfl
  obtain⟨u,J,M⟩:=r.get ha
  have o:ps[i]?=some y:=by
   rw[<-S.pre,fu (by omega)];exact C
  have t:ps.Nodup:=by rw[<-S.pre];exact S.nd.sublist (iD _ _)
  refine⟨u,M,?_⟩
  rcases S.par y (aZ o)with k|k
  ·exact .inl ⟨k,zFW t o J k⟩
  ·obtain⟨c,e⟩:=zFY (n:=s.heap.objs.size+1) k
   refine .inr ⟨.inl k,c,e,?_⟩
   have q:=x.cell y c e
   rw[zFX t o J (by show scope.names.lookup y≠_;rw[k];decide)]at q
   exact q
 ·exact j.hok.fresh (oj (x.above y c (eA h)))
 ·unfold start
  show _=N.length
  rw[au,ah,dQ]
  omega
theorem zFZ {z:jZ}{P:aJ}{w:aY}{K:ag}{mg:Str->Option aj}{base:bE}{k:Nat}{f:ak}{name a:Str}{d:sr}{body:List c8}{scope:fX}{M kV l pm c ct oc:aj}{O od:Option ak}
  {C:Array (Option aj)} {N ps:List Str} {sp:Sp} (lk:K.lookup f=some ⟨oc,od,.func (dq name a d body scope M kV l pm O c ct),C⟩) (D:eJ K c a=true) (S:FnScope N ps scope)
  (len:∀vs H Q E,sp vs H Q E->vs.length=ps.length)
  (h:∀(A:bO) (outer:List Env) (s:ao) (H:Hp) (vs:List V) (Q:VK) (E:XK),Room k (A.deeper (envOfC a scope s.heap.objs.size f c))->sp vs H Q E->
   ∃t,qE (gX z P w K mg base N a scope f c A outer s H E) body t/\t {nx:=fun _ g=>Q .non g,rt:=Q} (start N vs) H) :
  FnOk P w K mg base z (k+1) f (dq name a d body scope M kV l pm O c ct) ps sp:=by
 refine⟨len,fun A outer s H args U vs Q E F m hb r p=>?_⟩
 have hl:=len _ _ _ _ p
 have R:K.In s.heap:=m.mod.kin.keeps fun b o e=>(m.bs b o e).1
 have G:s.heap.NoLimit:=m.mod.nolimit.keeps fun b o e=>(m.bs b o e).1
 have i:∀y∈ps.zip U,scope.names.lookup y.1=some .local\/(scope.names.lookup y.1=some .cell/\((cellsFrom (s.heap.objs.size+1) scope.names []).lookup y.1).isSome=true):=fun⟨n,v⟩ X=>by
  rcases S.par n (mH X).1 with q|q
  ·exact .inl q
  ·exact .inr ⟨q,mq _ _ _ (.inl q)⟩
 refine codeAny_call_function F.depth (R _ _ lk) rfl S.co S.gen rfl (PySem.W.codeRec_of R D) (hb _ _ _ _ ?_)
 refine wpAny_newFunctionEnv_cells S.kind i fun env Y T x=>?_
 subst Y
 refine⟨G.keeps x.toInCall.keep,codeAny_func ?_⟩
 obtain⟨t,Z,hq⟩:=h A outer s H vs Q E (F.deeper _) p
 have I:Inv (gX z P w K mg base N a scope f c A outer s H E) [] (start N vs) H T:=zKh S F.hd m hl r x
 refine cy (Z [] T (start N vs) H _ I hq) (fun fl s' j=>?_) fun e s' j=>j
 have fin:∀{B:St} {g:Hp} {v:V} {u:aj},Inv (gX z P w K mg base N a scope f c A outer s H E) [] B g s'->zR v u->Q v g->CE outer P w H s Q u s' :=
  fun{B g v u} J L q=>⟨v,g,J.os,J.bare,J.base,J.hok,L,q⟩
 cases fl with
 |ret u=>
  obtain⟨v,B,g,J,L,q⟩:=j
  exact fin J L q
 |next=>
  obtain⟨B,g,J,q⟩:=j
  exact fin (v:=V.non) (u:=Value.none) J rfl q
 |brk=>
  obtain⟨_,_,_,q⟩:=j
  exact fm q
 |cont=>
  obtain⟨_,_,_,q⟩:=j
  exact fm q
section
variable{X:Cx}{x:Str}{p pos:Pos}{e:bJ}{es:List bJ}{t:TA}{id T:String}{r:List V->Hp->VK->Prop}
def tCB (r:List V->Hp->VK->Prop)(t:TA):TE:=fun σ H Q=>t σ H fun vs H1=>r vs H1 Q
theorem yL (d:uU X (.builtin id) r)(f:Gl X x)(g:X.mg x=none)(hv:bootBuiltins x=some (.builtin id))(ha:PA X (e::es) t)(i:x≠"__name__" :=by decide)(b:(x==("__debug__" : Str))=false:=by decide)
  (j:starEach (e::es) X.env=(false,eval e X.env)::starEach es X.env:=by rfl) (c:(backTo pos (starEach es X.env)).any (·.1)=false:=by rfl):PE X (.Call (.Name x p) (e::es) [] pos) (tCB r t):=by
 intro a s σ H Q I h
 refine dW (qZ I f g hv ?_ i b)
 exact iU (zI (ha pos a s σ H _ I h) fun l m ⟨vs,n,o,q,u⟩=>d a m σ n vs l Q o q u) j c
theorem gY (d:uU X (.type T) r)(f:Gl X x)(g:X.mg x=none)(hv:bootBuiltins x=some (.type T))(ha:PA X (e::es) t)(i:x≠"__name__" :=by decide)(b:(x==("__debug__" : Str))=false:=by decide)
  (j:starEach (e::es) X.env=(false,eval e X.env)::starEach es X.env:=by rfl) (c:(backTo pos (starEach es X.env)).any (·.1)=false:=by rfl):PE X (.Call (.Name x p) (e::es) [] pos) (tCB r t):=by
 intro a s σ H Q I h
 refine dW (qZ I f g hv ?_ i b)
 exact cJ (zI (ha pos a s σ H _ I h) fun l m ⟨vs,n,o,q,u⟩=>d a m σ n vs l Q o q u) j c
end
end L2
namespace HT
open PySem PyProof.Rows
section
open PySem.SeqAt
open PySem.AutoSeq1 (wpAny_loadPart')
open PySem.MeetsSeq PySem.MeetsSeq2 PySem.MeetsSeq3
end
section
variable{prog:aJ}{w:aY}{A:bO}{E:aj->ao->Prop}{s:ao}
theorem cat_tup {t b:ak}{vs ws:List aj}{Q:aj->ao->Prop}(q:qd s.heap t vs.toArray)(hb:qd s.heap b ws.toArray)(hv:vs≠[])
  (r:ws=[]->Q (.ref t) s) (u:ws≠[]->Q (.ref s.heap.objs.size) {s with heap:=s.heap.push {cls:=.type "tuple",data:=.seq (vs++ws).toArray}})
  (hsz:vs.length+ws.length<=sizeLine):wpAny (model prog w) A (binaryOp .Add (.ref t) (.ref b)) Q E s:=by
 obtain⟨⟨cls,j,data,l⟩,h,m,n,hd⟩:=id q
 obtain⟨⟨o,c,data2,d⟩,a,f,p,g⟩:=id hb
 simp only at m hd f g
 subst m hd f g
 have e:vs.toArray++ws.toArray=(vs++ws).toArray:=by simp
 by_cases i:ws=[]
 ·exact oy ⟨_,h,rfl⟩ ⟨_,a,rfl⟩ lP nO iE iz (ik _ _)
   (tuple_addW1 t b vs.toArray ws.toArray n p j c l d (by simpa using hv) (by simp[i])) ⟨h,a,r i⟩
 ·refine oy ⟨_,h,rfl⟩ ⟨_,a,rfl⟩ lP nO iE iz (ik _ _)
   (tuple_addW2 t b vs.toArray ws.toArray n p j c l d (by simpa using hv) (by simpa using i) (by rw[aH,aH];exact hsz)) ⟨h,a,?_⟩
  rw[e]
  exact u i
def sIx (n d:Nat):Option Int->Nat
 |none=>d
 |some v=>if v<0 then(v+(n:Int)).toNat else min v.toNat n
theorem sIx_nat (n d k:Nat):sIx n d (some (k:Int))=min k n:=by
 show(if(k:Int)<0 then((k:Int)+(n:Int)).toNat else min (k:Int).toNat n)=min k n
 rw[if_neg (by omega),dh]
theorem sIx_le (n d:Nat)(hd:d<=n)(o:Option Int):sIx n d o<=n:=by
 cases o with
 |none=>exact hd
 |some v=>
  show(if v<0 then(v+(n:Int)).toNat else min v.toNat n)<=n
  by_cases hv:v<0
  ·rw[if_pos hv];omega
  ·rw[if_neg hv];exact Nat.min_le_right _ _
theorem zFa (v:Int)(n d:Nat):(if v<0 then max (v+(n:Int)) 0 else min v (n:Int))=((sIx n d (some v):Nat):Int):=by
 show(if v<0 then max (v+(n:Int)) 0 else min v (n:Int))=(((if v<0 then(v+(n:Int)).toNat else min v.toNat n):Nat):Int)
 by_cases hv:v<0
 ·simp only[if_pos hv];omega
 ·simp only[if_neg hv];omega
theorem zKi (lo hi:Option Int)(n:Nat):gy lo hi 1 (n:Int)=(((sIx n 0 lo:Nat):Int),((sIx n n hi:Nat):Int)):=by
 have a:¬((1:Int)<0):=by omega
 unfold gy
 simp only[a,if_false]
 refine eK ?_ ?_
 ·cases lo with
  |none=>rfl
  |some v=>exact zFa v n 0
 ·cases hi with
  |none=>rfl
  |some v=>exact zFa v n n
theorem zKj (i j:Nat):eV (i:Int) (j:Int) 1=j-i:=by
 unfold eV
 have a:(1:Int)>0:=by omega
 simp only[a,if_true,Int.ediv_one]
 split<;>omega
theorem zFb {v:aj}{o:Option Int}{Q:Option Int->ao->Prop}(p:mr v o)(h:Q o s):wpAny (model prog w) A (pK v) Q E s:=by
 cases p with
 |none=>exact qi h
 |int i t=>exact slicePart_int h
theorem sliceApplied_gen {e:ak}{c d:aj}{lo hi:Option Int}{n:Nat}{Q:Int×Int×Nat->ao->Prop}(f:s.heap.IsSliceOf e c d .none)(pl:mr c lo)(g:mr d hi)
  (h:Q (((sIx n 0 lo:Nat):Int),1,sIx n n hi-sIx n 0 lo) s):wpAny (model prog w) A (ke (.ref e) (pure (n:Int))) Q E s:=by
 obtain⟨os,a,i,b⟩:=id f
 unfold ke rB
 refine af (af (cM a b (x:=c) rfl (af (cM a b (x:=d) rfl (af (cM a b (x:=.none) rfl (ar ?_)))))))
 refine af (qi ?_)
 show wpAny _ _ (if((1:Int)==0)=true then _ else _) _ _ s
 rw[if_neg (by decide)]
 refine af (zFb pl (af (zFb g (af (ar ?_)))))
 show wpAny _ _ (match gy lo hi 1 (n:Int)with|(lo,hi)=>pure (lo,(1:Int),eV lo hi 1)) _ _ s
 rw[zKi lo hi n]
 show wpAny _ _ (pure (((sIx n 0 lo:Nat):Int),(1:Int),eV ((sIx n 0 lo:Nat):Int) ((sIx n n hi:Nat):Int) 1)) _ _ s
 rw[zKj]
 exact ar h
theorem zKk (xs:Array aj)(i k:Nat):((bC k).filterMap fun(m:Nat)=>xs[((i:Int)+(m:Int)*1).toNat]?).toArray=((xs.toList.drop i).take k).toArray:=by
 have e:(fun(m:Nat)=>xs[((i:Int)+(m:Int)*1).toNat]?)=fun m=>xs[i+m]?:=by
  funext m
  have:((i:Int)+(m:Int)*1).toNat=i+m:=by omega
  rw[this]
 rw[e]
 have:=pick_run xs i k
 rw[List.filterMap_map]at this
 have a:((fun x=>xs[x]?) ∘ fun x=>i+x)=fun m=>xs[i+m]?:=rfl
 rw[a]at this
 rw[this]
theorem getItem_tuple_cut {t c:ak}{items:Array aj}{i j:aj}{lo hi:Option Int}{Q:aj->ao->Prop}(b:qd s.heap t items)(l:s.heap.IsSliceOf c i j .none)(pl:mr i lo)(n:mr j hi)
  (o:¬(sIx items.size 0 lo=0/\sIx items.size items.size hi=items.size))
  (h:Q (.ref s.heap.objs.size) {s with heap:=s.heap.push {cls:=.type "tuple",data:=.seq ((items.toList.drop (sIx items.size 0 lo)).take (sIx items.size items.size hi-sIx items.size 0 lo)).toArray}})
  (hsz:items.size<=sizeLine):wpAny (model prog w) A (getItem (.ref t) (.ref c)) Q E s:=by
 have a:sizeOk (.seq ((items.toList.drop (sIx items.size 0 lo)).take (sIx items.size items.size hi-sIx items.size 0 lo)).toArray):=by
  show((items.toList.drop (sIx items.size 0 lo)).take (sIx items.size items.size hi-sIx items.size 0 lo)).toArray.size<=sizeLine
  rw[aH,aI,bQ,bj]
  omega
 have r:sIx items.size items.size hi<=items.size:=sIx_le _ _ (ay _) hi
 obtain⟨os,d,e,p⟩:=id l
 have f:s.TypeIs (.ref c) "slice" :=⟨os,d,e⟩
 unfold getItem
 try with_reducible refine cY ?_
 first|refine af (ar ?_)|skip
 refine af (oz b.typeIs (by decide) ?_)
 refine af (bS (name:=b8 "__getitem__") b.typeIs cK
  (bT cK b.typeIs nH ?_ (n0 _ _)))
 show wpAny _ _ (kf (.ref t)>>=_) _ _ s
 refine af (rS b ?_)
 refine af (gr f ?_)
 rw[if_pos (by decide)]
 refine af (sliceApplied_gen l pl n ?_)
 have g:¬((((sIx items.size 0 lo:Nat):Int)==0&& (1:Int)==1&& (sIx items.size items.size hi-sIx items.size 0 lo)==items.size)=true):=by
  intro q
  rw[aO,aO]at q
  have u:((sIx items.size 0 lo:Nat):Int)=0:=eq_of_beq q.1.1
  have v:sIx items.size items.size hi-sIx items.size 0 lo=items.size:=eq_of_beq q.2
  exact o ⟨by omega,by omega⟩
 show wpAny _ _ (if(((sIx items.size 0 lo:Nat):Int)==0&& (1:Int)==1&& (sIx items.size items.size hi-sIx items.size 0 lo)==items.size)=true then _ else _) _ _ s
 rw[if_neg g,zKk]
 first
  |exact af (m:=fw _) (cj (ar ⟨_,rfl,ar h⟩) a)
  |exact af (m:=fw _) (cj (af (ar (ar ⟨_,rfl,ar h⟩))) a)
  |exact af (af (m:=fw _) (cj (ar (ar ⟨_,rfl,ar h⟩)) a))
  |exact af (af (m:=fw _) (cj (ar ⟨_,rfl,ar h⟩) a))
end
end HT
namespace L2
open PySem PySem.Spec PyProof.Rows
abbrev TO:=St->Hp->(Option Int->Hp->Prop)->Prop
def PO (X:Cx)(e:Option bJ)(t:TO):Prop :=
 ∀(pins:List (ak×Obj)) (s:ao) (σ:St) (H:Hp) (Q:Option Int->Hp->Prop),Inv X pins σ H s->t σ H Q->
  wpAny (model X.prog X.w) X.A (evalPart e X.env) (fun u s'=>∃o H',Inv X pins σ H' s'/\mr u o/\Q o H') X.xe s
def zKl:TO:=fun _ H Q=>Q none H
def zKm (t:TE):TO:=fun σ H Q=>t σ H fun x H1=>∃i,x=.int i/\Q (some i) H1
section
variable{X:Cx}{e:bJ}{te:TE}{lo hi:Option bJ}{tl th:TO}{pos p2:Pos}
theorem jB:PO X none zKl:=by
 intro a s σ H Q I h
 rw[nP]
 exact ar ⟨none,H,I,.none,h⟩
theorem qF (h:PE X e te):PO X (some e) (zKm te):=by
 intro a s σ H Q I b
 rw[evalPart_some]
 refine zI (h a s σ H _ I b) fun u j ⟨x,c,d,f,g⟩=>?_
 obtain⟨i,rfl,q⟩:=g
 obtain⟨t,rfl⟩:=f
 exact⟨some i,c,d,.int i t,q⟩
def SlR (X:Cx)(r:V->Option Int->Option Int->Hp->VK->Prop):Prop :=
 ∀(pins:List (ak×Obj)) (s:ao) (σ:St) (H:Hp) (x:V) (v vl vu:aj) (lo hi:Option Int) (sl:ak) (Q:VK),Inv X pins σ H s->zR x v->s.heap.IsSliceOf sl vl vu .none->mr vl lo->mr vu hi->r x lo hi H Q->
  ∃T id,typeLookup (.type T) "__getitem__"=pure (some (.builtin id))/\s.TypeIs v T/\wpAny (model X.prog X.w) X.A (getItem v (.ref sl)) (EP X pins σ Q) X.xe s
def tSl (r:V->Option Int->Option Int->Hp->VK->Prop)(te:TE)(tl th:TO):TE:=fun σ H Q=>te σ H fun x H1=>tl σ H1 fun l H2=>th σ H2 fun u H3=>r x l u H3 Q
theorem j2 {r:V->Option Int->Option Int->Hp->VK->Prop}(i:SlR X r)(j:PE X e te)(hl:PO X lo tl)(m:PO X hi th):PE X (.Subscript e (.Slice lo hi none p2) pos) (tSl r te tl th):=by
 intro a s σ H Q I h
 refine kg (zI (j a s σ H _ I h) fun v n ⟨x,o,p,t,y⟩=>?_)
 refine wpAny_Slice (zI (hl a n σ o _ p y) fun d z ⟨l,B,C,pl,D⟩=>zI (m a z σ B _ C D) fun f c ⟨u,g,E,F,G⟩=>?_)
 rw[nP]
 refine ar ?_
 have J:Inv X a σ g {c with heap:=c.heap.push {cls:=.type "slice",data:=.fields #[d,f,.none]}}:=E.kept (t':=c.toks) fun b O q=>ae _ q
 obtain⟨T,id,L,M,N⟩:=i a {c with heap:=c.heap.push {cls:=.type "slice",data:=.fields #[d,f,.none]}} σ g x v d f l u c.heap.objs.size Q J t (tY ..) pl F G
 show wpAny (model X.prog X.w) X.A (subscriptTail e (.Slice lo hi none p2) v (.ref c.heap.objs.size)) (EP X a σ Q) X.xe {c with heap:=c.heap.push {cls:=.type "slice",data:=.fields #[d,f,.none]}}
 exact tm (ops:=[.ref c.heap.objs.size,v]) M L N (by with_unfolding_all rfl)
def v2 (xs:List V)(lo hi:Option Int):List V:=(xs.drop (HT.sIx xs.length 0 lo)).take (HT.sIx xs.length xs.length hi-HT.sIx xs.length 0 lo)
theorem zFc (xs:List V)(lo hi:Option Int):(v2 xs lo hi).length<=xs.length:=by
 unfold v2
 rw[aI,bQ]
 omega
def zKn (K:ag):V->Option Int->Option Int->Hp->VK->Prop:=fun x lo hi H Q=>∃a xs,x=.ref a/\zY K H a xs/\
 ¬(HT.sIx xs.length 0 lo=0/\HT.sIx xs.length xs.length hi=xs.length)/\∀p,H p=none->Q (.ref p) (upd H p (.tup (v2 xs lo hi)))
theorem zKo:SlR X (zKn X.K):=by
 intro d s σ H x v n p lo hi t Q I g i pl j h
 obtain⟨a,xs,rfl,l,m,q⟩:=h
 cases g
 obtain⟨its,r,f,hz⟩:=I.tuple l
 have c:its.toArray.size=xs.length:=by rw[aH];exact r.length.symm
 refine⟨"tuple",_,cK.lookup,f.typeIs,?_⟩
 refine HT.getItem_tuple_cut f i pl j (by rw[c];exact m) ?_ (by rw[c];exact hz)
 rw[c]
 refine⟨.ref s.heap.objs.size,_,I.laid (t':=s.toks) (o:=.tup (v2 xs lo hi)) (fun b u q=>ae _ q) (ay _) ?_,rfl,q _ (I.hok.fresh (ay _))⟩
 exact⟨bR (zFc xs lo hi) hz,_,(r.drop (HT.sIx xs.length 0 lo)).take (HT.sIx xs.length xs.length hi-HT.sIx xs.length 0 lo),sy _ _⟩
def zKp (K:ag):R2:=fun x y H Q=>∃a b xs ys,x=.ref a/\y=.ref b/\zY K H a xs/\zY K H b ys/\xs≠[]/\xs.length+ys.length<=sizeLine/\
 (ys=[]->Q (.ref a) H)/\(ys≠[]->∀p,H p=none->Q (.ref p) (upd H p (.tup (xs++ys))))
theorem zL.nil_iff {xs:List V}{a:List aj}(r:zL xs a):a=[]↔xs=[]:=by
 cases r with
 |nil=>simp
 |cons _ _=>simp
theorem zFd:yI X (binaryOp .Add) (zKp X.K):=by
 intro f s σ H x y v u Q I i j h
 obtain⟨a,b,xs,ys,rfl,rfl,ha,hb,l,hz,m,n⟩:=h
 cases i
 cases j
 obtain⟨its,d,p,_⟩:=I.tuple ha
 obtain⟨g,c,p2,_⟩:=I.tuple hb
 refine HT.cat_tup p p2 (fun z=>l (d.nil_iff.mp z)) (fun z=>⟨.ref a,H,I,rfl,m (c.nil_iff.mp z)⟩) (fun z=>?_) (by rw[<-d.length,<-c.length];exact hz)
 refine⟨.ref s.heap.objs.size,_,I.laid (t':=s.toks) (o:=.tup (xs++ys)) (fun b r q=>ae _ q) (ay _) ?_,rfl,n (fun w=>z (c.nil_iff.mpr w)) _ (I.hok.fresh (ay _))⟩
 exact⟨by rw[au];exact hz,_,d.append c,sy _ _⟩
end
def ixN (n:Nat)(i:Int):Option Nat:=if 0<=i then(if i<n then some i.toNat else none)else if-(n:Int)<=i then some (i+n).toNat else none
def gZ {α:Type}(xs:List α)(i:Int):Option α:=(ixN xs.length i).bind fun j=>xs[j]?
theorem zKq {n:Nat}{i:Int}{j:Nat}(h:ixN n i=some j):seqIndex? i n=some j/\j<n/\-(n:Int)<=i/\i<n:=by
 unfold ixN at h
 by_cases b:0<=i
 ·rw[if_pos b]at h
  by_cases a:i<n
  ·rw[if_pos a]at h
   have e:i.toNat=j:=aD h
   exact⟨by rw[seqIndex_of b a,e],by omega,by omega,a⟩
  ·rw[if_neg a]at h;cases h
 ·rw[if_neg b]at h
  by_cases a:-(n:Int)<=i
  ·rw[if_pos a]at h
   have e:(i+n).toNat=j:=aD h
   exact⟨by rw[seqIndex_neg (by omega) a,e],by omega,a,by omega⟩
  ·rw[if_neg a]at h;cases h
theorem zCu {α:Type}{xs:List α}{i:Int}{v:α}(h:gZ xs i=some v):∃j,seqIndex? i xs.length=some j/\xs[j]?=some v/\j<xs.length/\-(xs.length:Int)<=i/\i<xs.length:=by
 unfold gZ at h
 cases e:ixN xs.length i with
 |none=>rw[e]at h;cases h
 |some j=>
  rw[e]at h
  obtain⟨a,b,c,d⟩:=zKq e
  exact⟨j,a,h,b,c,d⟩
theorem zAZ {α:Type}{xs:List α}{j:Nat}{v:α}(h:xs[j]?=some v):gZ xs (j:Int)=some v:=by
 have a:j<xs.length:=(ai.mp h).1
 have e:ixN xs.length (j:Int)=some j:=by
  unfold ixN
  rw[if_pos (by omega),if_pos (by omega)];simp
 unfold gZ;rw[e];exact h
def zKr (b:bJ):Prop:=∀o i,subscripted b false o i=operate [o,i] (getItem o i)
def IxR (X:Cx)(r:R2):Prop :=
 ∀(value slice:bJ) (pins:List (ak×Obj)) (s:ao) (σ:St) (H:Hp) (x y:V) (v u:aj) (Q:VK),Inv X pins σ H s->zR x v->zR y u->r x y H Q->
  subscripted slice false v u=operate [v,u] (getItem v u)->wpAny (model X.prog X.w) X.A (subscriptTail value slice v u) (EP X pins σ Q) X.xe s
def gH (X:Cx)(id:String)(r:V->List V->Hp->VK->Prop):Prop :=
 ∀(pins:List (ak×Obj)) (s:ao) (σ:St) (H:Hp) (x:V) (xs:List V) (v:aj) (us:List aj) (Q:VK),Inv X pins σ H s->zR x v->zL xs us->r x xs H Q->
  wpAny (model X.prog X.w) X.A (call (.builtin id) (v::us)) (EP X pins σ Q) X.xe s
section
variable{X:Cx}{a b:bJ}{ta tb:TE}{pos:Pos}
theorem yM {r:R2}(d:IxR X r)(ha:PE X a ta)(hb:PE X b tb)(e:zKr b):PE X (.Subscript a b pos) (tOp r ta tb):=by
 intro c s σ H Q I h
 exact kg (zCo ha hb I h fun v u f x y g i j l q=>d a b c f σ g x y v u Q i j l q (e _ _))
def zKs (K:ag):R2:=fun x y H Q=>∃p xs i v,x=.ref p/\y=.int i/\zZ K H p xs/\gZ xs i=some v/\Q v H
def zFe (K:ag):R2:=fun x y H Q=>∃p xs i v,x=.ref p/\y=.int i/\zY K H p xs/\gZ xs i=some v/\Q v H
def zKt:R2:=fun x y H Q=>∃z i c,x=.str z/\y=.int i/\z.length<=sizeLine/\gZ z.cps.toList i=some c/\Q (.str ⟨#[c]⟩) H
theorem zBE:IxR X (zKs X.K):=by
 intro value slice c s σ H x y v u Q I n o h g
 obtain⟨p,xs,i,z,rfl,rfl,A,B,q⟩:=h
 cases n
 obtain⟨t,rfl⟩:=o
 obtain⟨its,r,pl,hz⟩:=I.list A
 obtain⟨j,d,C,F,D,E⟩:=zCu B
 obtain⟨w,l,e⟩:=r.get C
 have hl:=r.length
 have G:=zBB
 have fin:EP X c σ Q w s:=⟨z,H,I,e,q⟩
 by_cases m:0<=i
 ·have f:i.toNat=j:=by
   rw[seqIndex_of m E]at d
   exact aD d
  exact item_listR pl.isList m (by omega) (by rw[f];simpa using l) fin g
 ·have f:(i+(its.toArray.size:Int)).toNat=j:=by
   rw[seqIndex_neg (by omega) D]at d
   rw[aH,<-hl]
   exact aD d
  exact fO (x:=w) pl.isList.typeIs oA.lookup
   (wpAny_getItem_list_neg (Q:=fun r s'=>r=w/\EP X c σ Q r s') pl.isList (by omega) (by rw[aH]<;>omega) (by omega) (by rw[f];simpa using l) ⟨rfl,fin⟩) g
theorem vE:IxR X (zFe X.K):=by
 intro value slice c s σ H x y v u Q I e f h g
 obtain⟨p,xs,i,z,rfl,rfl,l,m,q⟩:=h
 cases e
 obtain⟨t,rfl⟩:=f
 obtain⟨its,r,pl,hz⟩:=I.tuple l
 obtain⟨j,n,o,B,C,D⟩:=zCu m
 obtain⟨w,A,d⟩:=r.get o
 have hl:=r.length
 have E:=zBB
 have fin:EP X c σ Q w s:=⟨z,H,I,d,q⟩
 exact fO (x:=w) pl.typeIs kh.lookup
  (nQ (j:=j) (Q:=fun r s'=>r=w/\EP X c σ Q r s') pl (by omega) (by omega) (by rw[aH,<-hl];exact n) (by simpa using A) ⟨rfl,fin⟩) g
theorem zKu:IxR X zKt:=by
 intro value slice d s σ H x y v u Q I f g h l
 obtain⟨z,i,c,rfl,rfl,hz,m,q⟩:=h
 obtain⟨t,rfl⟩:=f
 obtain⟨t',rfl⟩:=g
 obtain⟨j,e,n,w,o,p⟩:=zCu m
 have hl:z.cps.toList.length=z.length:=by simp[iV]
 rw[hl]at e o p
 have A:=zBB
 exact tm (typeIs_str s z t) slot_str_getitem.lookup (getItem_str (c:=c) (by
  have e1:decide (i< -(2^63:Int))=false:=decide_eq_false (by omega)
  have r:decide (i>=2^63)=false:=decide_eq_false (by omega)
  rw[e1,r,rT]) (by rw[e];simpa using n) ⟨.str ⟨#[c]⟩,H,I.tok _,⟨_,rfl⟩,q⟩) l
theorem Inv.lst {c:List (ak×Obj)}{σ:St}{H:Hp}{s:ao}{p:ak}{xs:List V}(I:Inv X c σ H s)(h:H p=some (.lst xs)) :
  ∃(its:List aj) (n:Nat),zL xs its/\s.heap.get? p=some {cls:=.type "list",data:=.seq its.toArray n}/\xs.length<=sizeLine:=by
 obtain⟨z,its,n,r,e⟩:=I.hok p _ h
 exact⟨its,n,r,e,z⟩
theorem zKv (lo hi:Option Int)(n:Nat):(sliceBounds lo hi none n).1=((HT.sIx n 0 lo:Nat):Int)/\(sliceBounds lo hi none n).2.1=((HT.sIx n n hi:Nat):Int)/\(sliceBounds lo hi none n).2.2=1:=by
 refine⟨?_,?_,rfl⟩
 ·cases lo with
  |none=>simp[sliceBounds,HT.sIx]
  |some i=>
   simp only[sliceBounds,HT.sIx,ph,show(1:Int)>0 by decide,if_true]
   by_cases h:i<0
   ·simp only[h,if_true]<;>omega
   ·simp only[h,if_false]<;>omega
 ·cases hi with
  |none=>simp[sliceBounds,HT.sIx]
  |some i=>
   simp only[sliceBounds,HT.sIx,ph,show(1:Int)>0 by decide,if_true]
   by_cases h:i<0
   ·simp only[h,if_true]<;>omega
   ·simp only[h,if_false]<;>omega
theorem zKw (its:List aj)(lo hi:Option Int):slicePick its.toArray lo hi none=((its.drop (HT.sIx its.length 0 lo)).take (HT.sIx its.length its.length hi-HT.sIx its.length 0 lo)).toArray:=by
 obtain⟨c,d,e⟩:=zKv lo hi its.toArray.size
 unfold slicePick
 rw[c,d,e]
 simp only[sliceRange_one,pick_run,aH]<;>rfl
def zKx (K:ag):V->Option Int->Option Int->Hp->VK->Prop:=fun x lo hi H Q=>∃a xs,x=.ref a/\zZ K H a xs/\∀p,H p=none->Q (.ref p) (upd H p (.lst (v2 xs lo hi)))
theorem zCv:SlR X (zKx X.K):=by
 intro d s σ H x v l m lo hi n Q I f g pl i h
 obtain⟨a,xs,rfl,j,q⟩:=h
 cases f
 obtain⟨its,r,e,hz⟩:=I.list j
 have c:=r.length
 refine⟨"list",_,oA.lookup,e.isList.typeIs,?_⟩
 refine wpAny_getItem_list_slice e.isList g pl i .none (by simp) ?_ (by rw[aH]<;>omega)
 rw[zKw,<-c]
 refine⟨.ref s.heap.objs.size,_,I.laid (t':=s.toks) (o:=.lst (v2 xs lo hi)) (fun b p q=>ae _ q) (ay _) ?_,rfl,q _ (I.hok.fresh (ay _))⟩
 exact⟨bR (zFc xs lo hi) hz,_,0,(r.drop (HT.sIx xs.length 0 lo)).take (HT.sIx xs.length xs.length hi-HT.sIx xs.length 0 lo),aA _ rfl⟩
def j3:V->Bool
 | .non=>true
 | .bl _=>true
 | .int _=>true
 | .str _=>true
 |_=>false
def jC:V->V->Bool
 | .non,.non=>true
 | .bl a,.bl b=>a==b
 | .bl a,.int b=>(if a then 1 else 0)==b
 | .int a,.bl b=>a==(if b then 1 else 0)
 | .int a,.int b=>a==b
 | .str a,.str b=>a==b
 |_,_=>false
theorem zKy {A:bO}{s:ao}{y x:V}{u v:aj}(d:zR y u)(c:zR x v)(f:j3 y=true)(e:j3 x=true):tX A s u v (jC y x):=by
 cases y with
 |non=>
  cases d
  cases x with
  |non=>cases c;exact uk _
  |bl b=>cases c;exact tw b
  |int b=>obtain⟨t,rfl⟩:=c;exact tL b t
  |str b=>obtain⟨t,rfl⟩:=c;exact tO b t
  |_=>exact absurd (show false=true from e) aV
 |bl a=>
  cases d
  cases x with
  |non=>cases c;exact tD a
  |bl b=>cases c;exact mZ a b
  |int b=>obtain⟨t,rfl⟩:=c;exact tP a b t
  |str b=>obtain⟨t,rfl⟩:=c;exact nF a b t
  |_=>exact absurd (show false=true from e) aV
 |int a=>
  obtain⟨t',rfl⟩:=d
  cases x with
  |non=>cases c;exact tQ a t'
  |bl b=>cases c;exact tR a t' b
  |int b=>obtain⟨t,rfl⟩:=c;exact n4 a t' b t
  |str b=>obtain⟨t,rfl⟩:=c;exact nV a t' b t
  |_=>exact absurd (show false=true from e) aV
 |str a=>
  obtain⟨t',rfl⟩:=d
  cases x with
  |non=>cases c;exact tS a t'
  |bl b=>cases c;exact nE a t' b
  |int b=>obtain⟨t,rfl⟩:=c;exact nW a t' b t
  |str b=>obtain⟨t,rfl⟩:=c;exact n5 a t' b t
  |_=>exact absurd (show false=true from e) aV
 |_=>exact absurd (show false=true from f) aV
def uV (x:V)(u:aj):Bool:=match u with
 | .none=>jC .non x
 | .bool b=>jC (.bl b) x
 | .int i _=>jC (.int i) x
 | .str z _=>jC (.str z) x
 |_=>false
theorem zFf {x y:V}{u:aj}(r:zR y u)(f:j3 y=true):uV x u=jC y x:=by
 cases y with
 |non=>cases r;rfl
 |bl b=>cases r;rfl
 |int i=>obtain⟨t,rfl⟩:=r;rfl
 |str z=>obtain⟨t,rfl⟩:=r;rfl
 |_=>exact absurd (show false=true from f) aV
theorem zBF {x:V}:∀{xs:List V}{c:List aj},zL xs c->xs.all j3=true->c.any (uV x)=xs.any fun y=>jC y x
 |_,_,.nil,_=>rfl
 |y::xs,u::c,.cons r t,f=>by
  rw[nR,aO]at f
  rw[fz,fz,zFf r f.1,zBF t f.2]
theorem zBG {A:bO}{s:ao}{x:V}{v:aj}(e:zR x v)(g:j3 x=true):∀{xs:List V}{d:List aj},zL xs d->xs.all j3=true->∀u∈d,tX A s u v (uV x u)
 |_,_,.nil,_=>fun u c=>by cases c
 |y::xs,u::d,.cons r t,f=>fun h c=>by
  rw[nR,aO]at f
  rcases aG.mp c with rfl|c
  ·rw[zFf r f.1];exact zKy r e f.1 g
  ·exact zBG e g t f.2 h c
def qG (x:V)(xs:List V):Bool:=xs.any fun y=>jC y x
def rIn (K:ag)(neg:Bool):R2:=fun x y H Q=>∃p xs,y=.ref p/\(zZ K H p xs\/zY K H p xs)/\j3 x=true/\xs.all j3=true/\Q (.bl (if neg then !qG x xs else qG x xs)) H
theorem zFg:yI X (compareOp .In) (rIn X.K false):=by
 intro e s σ H x y v u Q I f i h
 obtain⟨p,xs,rfl,c,g,fs,q⟩:=h
 cases i
 rcases c with c|c
 ·obtain⟨its,r,pl,hz⟩:=I.list c
  refine SeqAt.in_listAt (uV x) pl.isList (fun w d=>zBG f g r fs w (by simpa using d)) ⟨.bl _,H,I,rfl,?_⟩
  rw[show its.toArray.any (uV x)=its.any (uV x) by simp,zBF r fs]
  exact q
 ·obtain⟨its,r,pl,hz⟩:=I.tuple c
  refine SeqAt.in_tupleAt (uV x) pl (fun w d=>zBG f g r fs w (by simpa using d)) ⟨.bl _,H,I,rfl,?_⟩
  rw[show its.toArray.any (uV x)=its.any (uV x) by simp,zBF r fs]
  exact q
theorem zCw:yI X (compareOp .NotIn) (rIn X.K true):=by
 intro e s σ H x y v u Q I f i h
 obtain⟨p,xs,rfl,c,g,fs,q⟩:=h
 cases i
 rcases c with c|c
 ·obtain⟨its,r,pl,hz⟩:=I.list c
  refine SeqAt.notIn_listAt (uV x) pl.isList (fun w d=>zBG f g r fs w (by simpa using d)) ⟨.bl _,H,I,rfl,?_⟩
  rw[show its.toArray.any (uV x)=its.any (uV x) by simp,zBF r fs]
  exact q
 ·obtain⟨its,r,pl,hz⟩:=I.tuple c
  refine SeqAt.notIn_tupleAt (uV x) pl (fun w d=>zBG f g r fs w (by simpa using d)) ⟨.bl _,H,I,rfl,?_⟩
  rw[show its.toArray.any (uV x)=its.any (uV x) by simp,zBF r fs]
  exact q
theorem j4:uU X (.builtin "len") (fun xs H Q=>∃p ys,xs=[.ref p]/\(zZ X.K H p ys\/zY X.K H p ys)/\Q (.int ys.length) H):=by
 intro f s σ H xs i Q I r h
 obtain⟨p,ys,rfl,d,q⟩:=h
 obtain⟨u,rfl,g⟩:=uF r
 cases g
 have j:=zBB
 rcases d with d|d
 ·obtain⟨its,e,pl,hz⟩:=I.list d
  have c:=e.length
  exact Calls.call_len_list pl.isList (by simp only[aH]<;>omega) ⟨.int ys.length,H,I.tok _,⟨s.toks+1,by rw[aH,c]⟩,q⟩
 ·obtain⟨its,e,pl,hz⟩:=I.tuple d
  have c:=e.length
  exact len_tuple pl (by simp only[aH]<;>omega) ⟨.int ys.length,H,I.tok _,⟨s.toks+1,by rw[aH,c]⟩,q⟩
theorem j5:uU X (.builtin "len") (fun xs H Q=>∃z,xs=[.str z]/\z.length<=sizeLine/\Q (.int z.length) H):=by
 intro c s σ H xs d Q I r h
 obtain⟨z,rfl,hz,q⟩:=h
 obtain⟨u,rfl,t,rfl⟩:=uF r
 have e:=zBB
 exact len_str (by omega) ⟨.int z.length,H,I.tok _,⟨_,rfl⟩,q⟩
theorem zKz:uU X (.type "list") (fun xs H Q=>∃p ys,xs=[.ref p]/\(zZ X.K H p ys\/zY X.K H p ys)/\∀l,H l=none->Q (.ref l) (upd H l (.lst ys))):=by
 intro f s σ H xs x Q I r h
 obtain⟨p,ys,rfl,g,q⟩:=h
 obtain⟨u,rfl,v⟩:=uF r
 cases v
 have fin:∀(its:List aj),zL ys its->ys.length<=sizeLine->∀(h':bE) (c:Nat),(∀b t,s.heap.get? b=some t->h'.get? b=some t)->
   h'.get? s.heap.objs.size=some {cls:=.type "list",dict:=none,data:=.seq its.toArray c,slots:=#[]}->EP X f σ Q (.ref s.heap.objs.size) {s with heap:=h'}:=fun its d hz h' c kp e=>
  ⟨.ref s.heap.objs.size,_,I.laid (t':=s.toks) kp (ay _) (show yS X.prog X.w _ h' _ (.lst ys)from⟨hz,its,c,d,e⟩),rfl,q _ (I.hok.fresh (ay _))⟩
 rcases g with g|g
 ·obtain⟨its,d,pl,hz⟩:=I.list g
  have i:=d.length
  obtain⟨o,j,m,n,hd⟩:=pl.isList
  exact rV p (.inl rfl) j m hd (fun h' c kp e=>fin its d hz h' c kp e) (by simp only[aH]<;>omega)
 ·obtain⟨its,d,pl,hz⟩:=I.tuple g
  have i:=d.length
  obtain⟨o,j,m,n,hd⟩:=pl
  exact rV p (.inr rfl) j m hd (fun h' c kp e=>fin its d hz h' c kp e) (by simp only[aH]<;>omega)
theorem zFh:uU X (.type "tuple") (fun xs H Q=>∃p ys,xs=[.ref p]/\((zZ X.K H p ys/\∀l,H l=none->Q (.ref l) (upd H l (.tup ys)))\/(zY X.K H p ys/\Q (.ref p) H))):=by
 intro c s σ H xs n Q I r h
 obtain⟨p,ys,rfl,h⟩:=h
 obtain⟨u,rfl,j⟩:=uF r
 cases j
 rcases h with⟨d,q⟩|⟨d,q⟩
 ·obtain⟨its,f,pl,hz⟩:=I.list d
  have g:=f.length
  refine call_tuple_list pl.isList (fun h' kp=>?_) (by simp only[aH]<;>omega)
  have i:Inv X c σ H {s with heap:=h'}:=I.kept (t':=s.toks) kp
  have m:Inv X c σ (upd H h'.objs.size (.tup ys)) {s with heap:=h'.push {cls:=.type "tuple",data:=.seq its.toArray}} :=
   i.laid (t':=s.toks) (fun b o e=>ae _ e) (ay _) (show yS X.prog X.w _ _ _ (.tup ys)from⟨hz,its,f,sy _ _⟩)
  exact⟨.ref h'.objs.size,_,m,rfl,q _ (i.hok.fresh (ay _))⟩
 ·obtain⟨its,f,pl,hz⟩:=I.tuple d
  exact call_tuple_same pl ⟨.ref p,H,I,rfl,q⟩
def tyV (K:ag)(T:String)(x:V)(H:Hp):Prop:=match x with
 | .str _=>T="str"
 | .int _=>T="int"
 | .ref p=>(T="list"/\ ∃xs,zZ K H p xs)\/(T="tuple"/\ ∃o,K.lookup p=some o/\o.cls=.type "tuple"/\o.dict=none)\/
   (T="dict"/\ ((∃kvs,H p=some (.dK kvs))\/∃kvs,H p=some (.dT kvs)))\/(T="set"/\ ∃S n,H p=some (.set S n))
 |_=>False
theorem zFi {f:List (ak×Obj)}{σ:St}{H:Hp}{s:ao}{T:String}{x:V}{v:aj}(I:Inv X f σ H s)(r:zR x v)(ty:tyV X.K T x H) :
  s.TypeIs v T/\∀a,v=.ref a->∃h,s.heap.get? a=some h/\h.dict=none:=by
 cases x with
 |str z=>
  obtain⟨t,rfl⟩:=r
  cases(show T="str"from ty)
  exact⟨typeIs_str s z t,fun _ e=>nomatch e⟩
 |int i=>
  obtain⟨t,rfl⟩:=r
  cases(show T="int"from ty)
  exact⟨qj s i t,fun _ e=>nomatch e⟩
 |ref p=>
  cases r
  rcases ty with⟨rfl,xs,j⟩|⟨rfl,o,d,l,hd⟩|⟨rfl,d⟩|⟨rfl,S,n,d⟩
  ·obtain⟨its,_,pl,_⟩:=I.list j
   refine⟨pl.isList.typeIs,fun a e=>?_⟩
   cases e
   obtain⟨o,n,e,c,hd,_⟩:=pl
   exact⟨o,e,hd⟩
  ·refine⟨⟨o,I.kIn p o d,l⟩,fun a e=>?_⟩
   cases e
   exact⟨o,I.kIn _ o d,hd⟩
  ·have z:∃o,s.heap.get? p=some o/\o.ExactDict:=by
    rcases d with⟨kvs,d⟩|⟨kvs,d⟩
    ·obtain⟨_,_,_,_,o,_,_,e,ex,_⟩:=I.hok p _ d
     exact⟨o,e,ex⟩
    ·obtain⟨_,_,_,_,o,_,_,e,ex,_⟩:=I.hok p _ d
     exact⟨o,e,ex⟩
   obtain⟨o,e,ex⟩:=z
   refine⟨⟨o,e,ex.1⟩,fun a g=>?_⟩
   cases g
   exact⟨o,e,ex.2.1⟩
  ·obtain⟨o,_,_,_,e,ex,_⟩:=I.hok p _ d
   refine⟨⟨o,e,ex.1⟩,fun a g=>?_⟩
   cases g
   exact⟨o,e,ex.2.1⟩
 |_=>exact fm ty
def zFj (K:ag)(T:String)(r:V->List V->Hp->VK->Prop)(to:TE):TE:=fun σ H Q=>to σ H fun x H1=>tyV K T x H1/\r x [] H1 Q
def tBM (K:ag)(T:String)(r:V->List V->Hp->VK->Prop)(to:TE)(t:TA):TE:=fun σ H Q=>to σ H fun x H1=>tyV K T x H1/\t σ H1 fun xs H2=>r x xs H2 Q
variable{o e:bJ}{es:List bJ}{to:TE}{t:TA}{name:Str}{apos cpos:Pos}{T id:String}{r:V->List V->Hp->VK->Prop}
theorem zLA (l:n6 T)(slot:Slot T name id)(g:typeOf (.builtin id)=pure (.type "method_descriptor"))(m:gH X id r)(n:PE X o to)
  (d:attributeBase o name X.env (eval o X.env)=eval o X.env:=by rfl) (f:(apos.endLine==cpos.line)=true:=by rfl):PE X (.Call (.Attribute o name apos) [] [] cpos) (zFj X.K T r to):=by
 intro c s σ H Q I h
 refine lQ d f (zI (n c s σ H _ I h) fun v p ⟨x,q,i,j,ty,u⟩=>?_)
 obtain⟨w,y⟩:=zFi i j ty
 exact⟨T,id,l,slot,g,w,y,fP rfl (nI (m c p σ q x [] v [] Q i j .nil u))⟩
theorem jM (p:n6 T)(slot:Slot T name id)(j:typeOf (.builtin id)=pure (.type "method_descriptor"))(q:gH X id r)(u:PE X o to)(ha:PA X (e::es) t)
  (f:attributeBase o name X.env (eval o X.env)=eval o X.env:=by rfl)
  (i:((backTo cpos (starEach (e::es) X.env)).all (fun x=>!x.1)&& (backToKw cpos (keywordEach [] X.env)).all (fun x=>x.1.isSome)
   &&decide ((e::es).length+([]:List mm).length+(if([]:List mm).isEmpty then 0 else 1)<30))=true:=by rfl)
  (g:(apos.endLine==cpos.line)=true:=by rfl) (w:starEach (e::es) X.env=(false,eval e X.env)::starEach es X.env:=by rfl) (d:(backTo cpos (starEach es X.env)).any (·.1)=false:=by rfl) :
  PE X (.Call (.Attribute o name apos) (e::es) [] cpos) (tBM X.K T r to t):=by
 intro c s σ H Q I h
 refine wpAny_Call_method_late f i g rfl (zI (u c s σ H _ I h) fun v y ⟨x,z,l,m,ty,A⟩=>?_)
 obtain⟨B,C⟩:=zFi l m ty
 refine⟨T,id,p,slot,j,B,C,?_⟩
 have n:=ha cpos c y σ z _ l A
 rw[w]at n⊢
 refine fP (by show(false||(backTo cpos (starEach es X.env)).any (·.1))=false;rw[d]<;>rfl) (nc ?_)
 exact zI n fun D E ⟨vs,F,G,J,L⟩=>q c E σ F x vs v D Q G m J L
end
def MtM (X:Cx)(id:String)(r:V->List V->Hp->VK->Prop):Prop :=
 ∀(pins:List (ak×Obj)) (s:ao) (σ:St) (H:Hp) (x:V) (xs:List V) (v:aj) (us:List aj) (Q:VK),Inv X pins σ H s->zR x v->zL xs us->r x xs H Q->
  wpAny (model X.prog X.w) X.A (call (.builtin id) (v::us)) (EP X pins σ Q) X.xe s
theorem zL.one:∀{x:V}{a:List aj},zL [x] a->∃u,a=[u]/\zR x u
 |_,_,.cons r .nil=>⟨_,rfl,r⟩
theorem zL.zero:∀{a:List aj},zL [] a->a=[]
 |_,.nil=>rfl
theorem zL.dropLast {xs:List V}{a:List aj}(h:zL xs a):zL xs.dropLast a.dropLast:=by
 induction h with
 |nil=>exact .nil
 |cons r t ih=>
  cases t with
  |nil=>exact .nil
  |cons q t'=>exact .cons r ih
theorem zL.eraseIdx:∀{xs:List V}{a:List aj} (i:Nat),zL xs a->zL (xs.eraseIdx i) (a.eraseIdx i)
 |_,_,_,.nil=>.nil
 |_,_,0,.cons _ t=>t
 |_,_,i+1,.cons r t=>.cons r (zL.eraseIdx i t)
theorem zL.reverse {xs:List V}{a:List aj}(h:zL xs a):zL xs.reverse a.reverse:=by
 induction h with
 |nil=>exact .nil
 |cons r t ih=>rw[oB,oB];exact zL.append ih (.cons r .nil)
theorem zL.rep {xs:List V}{a:List aj}(h:zL xs a):∀k:Nat,zL (bh k xs).flatten (bh k a).flatten
 |0=>.nil
 |k+1=>by
  rw[cu,cu,fc,fc]
  exact zL.append h (zL.rep h k)
theorem zFk (its:List aj):∀(k:Nat) (a:List aj),
  qk (fun b c=>b++c) a.toArray (bh k its.toArray)=(a++(bh k its).flatten).toArray
 |0,a=>by simp
 |k+1,a=>by
  have e:a.toArray++its.toArray=(a++its).toArray:=by simp
  have d:(a++its)++(bh k its).flatten=a++(bh (k+1) its).flatten:=by
   rw[cu,fc,dG]
  rw[<-d,<-zFk its k (a++its),<-e,cu,eZ]
section
variable{X:Cx}{pins:List (ak×Obj)}{σ:St}{H:Hp}{s:ao}{l b:ak}{xs ys zs:List V}
theorem Inv.lset {its its':List aj}{n:Nat}{f:Array aj->Array aj}{t':Nat}(I:Inv X pins σ H s)(a:H l=some (.lst xs))
  (e:s.heap.get? l=some {cls:=.type "list",data:=.seq its.toArray n}) (hf:f its.toArray=its'.toArray) (hv:zL ys its') (hz:ys.length<=sizeLine) :
  Inv X pins σ (upd H l (.lst ys)) {s with heap:=s.heap.update l (bN f),toks:=t'}:=by
 have q:=lR e f
 rw[hf]at q
 refine I.write (x:=l) (e:=l) (by rw[a];exact trivial) (.inl rfl) (fun d u hb c=>(bA s.heap (bN f) (d5 hb)).trans c) ⟨_,q⟩ ?_
 exact⟨hz,its',_,hv,q⟩
theorem Inv.lnew {its:List aj}{t':Nat}(I:Inv X pins σ H s)(hv:zL ys its)(hz:ys.length<=sizeLine) :
  Inv X pins σ (upd H s.heap.objs.size (.lst ys)) {s with heap:=s.heap.push {cls:=.type "list",data:=.seq its.toArray},toks:=t'} :=
 I.laid (fun _ _ q=>ae _ q) (ay _) ⟨hz,its,0,hv,aA _ rfl⟩
theorem Inv.fresh (I:Inv X pins σ H s):H s.heap.objs.size=none:=I.hok.fresh (ay _)
theorem Inv.lstM (I:Inv X pins σ H s)(a:H l=some (.lst xs)):xs.length<=sizeLine/\∃(its:List aj) (n:Nat),zL xs its/\xs.length=its.length/\s.heap.get? l=some {cls:=.type "list",data:=.seq its.toArray n}:=by
 obtain⟨z,its,n,r,e⟩:=I.hok l _ a
 exact⟨z,its,n,r,r.length,e⟩
theorem zFl {n:Nat}(h:n<=sizeLine):fA n=false:=by
 unfold fA
 exact decide_eq_false (by omega)
end
section
variable{X:Cx}
def zLB:V->List V->Hp->VK->Prop:=fun x vs H Q=>∃l xs y,x=.ref l/\vs=[y]/\H l=some (.lst xs)/\xs.length<sizeLine/\Q .non (upd H l (.lst (xs++[y])))
theorem zLC:MtM X "list.append" zLB:=by
 intro a s σ H x vs v g Q I c d h
 obtain⟨l,xs,y,rfl,rfl,b,hz,q⟩:=h
 cases c
 obtain⟨u,rfl,f⟩:=d.one
 obtain⟨z,its,n,r,hl,e⟩:=I.lstM b
 refine iW ki ⟨_,e,rfl⟩ jr (jc _ _) (lz l its.toArray n u (by rw[aH];omega)) ⟨e,?_⟩
 refine⟨.non,_,I.lset (its':=its++[u]) b e (by simp) (r.append (.cons f .nil)) ?_,rfl,q⟩
 rw[au,br]
 omega
def zLD:V->List V->Hp->VK->Prop:=fun x vs H Q=>∃l b xs zs,x=.ref l/\vs=[.ref b]/\H l=some (.lst xs)/\H b=some (.lst zs)/\xs.length+zs.length<=sizeLine/\Q .non (upd H l (.lst (xs++zs)))
theorem zBc:MtM X "list.extend" zLD:=by
 intro d s σ H x vs v w Q I g i h
 obtain⟨l,b,xs,y,rfl,rfl,f,j,hz,q⟩:=h
 cases g
 obtain⟨u,rfl,m⟩:=i.one
 cases m
 obtain⟨z,its,n,r,hl,e⟩:=I.lstM f
 obtain⟨A,a,o,p,hl2,t⟩:=I.lstM j
 have hsz:its.toArray.size+a.toArray.size<=sizeLine:=by rw[aH,aH];omega
 have c:¬(!its.toArray.isEmpty&&fA (its.toArray.size+a.toArray.size))=true:=by
  rw[zFl hsz,eM]
  exact aV
 refine iW F.slot_list_extend ⟨_,e,rfl⟩ F.entry_list_extend (F.args_list_extend_2 _ _)
  (AutoSeq1.list_extend_list_list_0 l its.toArray n b a.toArray o c (by rw[aH];omega) (by omega)) ⟨e,t,?_⟩
 refine⟨.non,_,I.lset (its':=its++a) f e (by simp) (r.append p) ?_,rfl,q⟩
 rw[au]
 omega
def zLE:R2:=fun x y H Q=>∃l b xs zs,x=.ref l/\y=.ref b/\H l=some (.lst xs)/\H b=some (.lst zs)/\xs.length+zs.length<=sizeLine/\∀p,H p=none->Q (.ref p) (upd H p (.lst (xs++zs)))
theorem zFm:yI X (binaryOp .Add) zLE:=by
 intro c s σ H x y v u Q I d f h
 obtain⟨l,b,xs,p,rfl,rfl,g,i,hz,q⟩:=h
 cases d
 cases f
 obtain⟨z,its,n,r,hl,e⟩:=I.lstM g
 obtain⟨t,a,w,j,hl2,m⟩:=I.lstM i
 refine PySem.P.add_list e m ?_ (by rw[aH,aH];omega)
 have o:its.toArray++a.toArray=(its++a).toArray:=by simp
 rw[o]
 exact⟨.ref _,_,I.lnew (t':=s.toks) (r.append j) (by rw[au];omega),rfl,q _ I.fresh⟩
def zLF:R2:=fun x y H Q=>∃l k xs,x=.ref l/\y=.int k/\H l=some (.lst xs)/\-(2^63)<=k/\k<2^63/\xs.length*k.toNat<=sizeLine/\
 ∀p,H p=none->Q (.ref p) (upd H p (.lst (bh k.toNat xs).flatten))
theorem zLG {α:Type}(xs:List α)(k:Nat):(bh k xs).flatten.length=k*xs.length:=by
 induction k with
 |zero=>simp
 |succ k ih=>rw[cu,fc,au,ih,mw,Nat.add_comm]
theorem zFn:yI X (binaryOp .Mult) zLF:=by
 intro o s σ H x y v u Q I p w h
 obtain⟨l,k,xs,rfl,rfl,A,B,C,hz,q⟩:=h
 cases p
 obtain⟨t,rfl⟩:=w
 obtain⟨z,its,n,r,hl,e⟩:=I.lstM A
 have c:its.toArray.size*k.toNat<=sizeLine:=by rw[aH,<-hl];exact hz
 have d:¬its.toArray.size*k.toNat> (2^63-1)/8:=by
  have:(sizeLine:Nat)<=(2^63-1)/8:=by decide
  omega
 have f:¬(!Builtin.List.listFitsIndex k)=true:=by
  rw[fitsIndex_both B C]
  exact aV
 have b:¬fA (its.toArray.size*k.toNat)=true:=by
  rw[zFl c]
  exact aV
 have g:qk (fun i j=>i++j) #[] (bh (if its.toArray.isEmpty=true then 0 else k.toNat) its.toArray)=(bh k.toNat its).flatten.toArray:=by
  have D:∀m:Nat,qk (fun i j=>i++j) #[] (bh m its.toArray)=(bh m its).flatten.toArray:=fun m=>by
   have:=zFk its m []
   rw[eg]at this
   exact this
  rw[D]
  cases its with
  |nil=>simp
  |cons a E=>rw[if_neg (by simp)]
 refine wpAny_binaryOp_repeat_ref (T :="list") (U :="int") (by decide) ⟨_,e,rfl⟩ (fun s'=>qj s' k t) noFill_list_mul F.fills_int_mul pL repeat_list F.slot_int_index.lookup
  (iW pL (qj s k t) F.entry_int_rmul (F.args_int_rmul_2 _ _) (int___rmul___int_list k t l its.toArray n)
   ⟨e,rfl,⟨_,e,rfl⟩,iW F.slot_list_mul ⟨_,e,rfl⟩ F.entry_list_mul (F.args_list_mul_2 _ _) (oh l its.toArray n k t f d b) ⟨e,?_⟩⟩)
 rw[g]
 exact⟨.ref _,_,I.lnew (t':=s.toks) (r.rep k.toNat) (by rw[zLG,sI];exact hz),rfl,q _ I.fresh⟩
end
section
variable{κ:Type} [DecidableEq κ]
def v3 (kvs:List (κ×V))(k:κ):Option V:=(kvs.find? fun kv=>decide (kv.1=k)).map (·.2)
def uA (kvs:List (κ×V))(k:κ)(v:V):List (κ×V) :=
 if(kvs.any fun kv=>decide (kv.1=k))=true then kvs.map (fun kv=>if kv.1=k then(kv.1,v)else kv)else kvs++[(k,v)]
theorem zBd {p:κ×V}{r:List (κ×V)}{k:κ}(e:p.1=k):v3 (p::r) k=some p.2:=by simp[v3,fY,e]
theorem zBe {p:κ×V}{r:List (κ×V)}{k:κ}(e:¬p.1=k):v3 (p::r) k=v3 r k:=by simp[v3,fY,e]
theorem zFo (k:κ):∀kvs:List (κ×V),(kvs.any fun a=>decide (a.1=k))=(v3 kvs k).isSome
 | []=>rfl
 |p::r=>by
  rw[fz]
  by_cases e:p.1=k
  ·simp only[zBd e,decide_eq_true e,sJ,Option.isSome_some]
  ·rw[zBe e,decide_eq_false e,lH];exact zFo k r
theorem zCx (kvs:List (κ×V))(k:κ)(v:V):(uA kvs k v).length<=kvs.length+1:=by
 unfold uA
 split
 ·rw[ah];omega
 ·rw[au,aM,pM];omega
theorem qM.isSome_eq {o:Option V}{u:Option aj}(r:qM o u):o.isSome=u.isSome:=by
 cases o with
 |none=>cases u with
  |none=>rfl
  |some _=>exact(show False from r).elim
 |some _=>cases u with
  |none=>exact(show False from r).elim
  |some _=>rfl
theorem qM.getD {o:Option V}{u:Option aj}{d:V}{d':aj}(r:qM o u)(rd:zR d d'):zR (o.getD d) (u.getD d'):=by
 cases o with
 |none=>cases u with
  |none=>exact rd
  |some _=>exact(show False from r).elim
 |some _=>cases u with
  |none=>exact(show False from r).elim
  |some _=>exact r
theorem KV.val {kvs:List (κ×V)}{vs:List (κ×aj)}(r:KV kvs vs)(k:κ):qM (v3 kvs k) (valueAt vs k):=by
 unfold KV at r
 induction r with
 |nil=>exact True.intro
 | @cons p q ps a h t ih=>
  obtain⟨d,f⟩:=h
  by_cases e:p.1=k
  ·have c:q.1=k:=d.symm.trans e
   have b:valueAt (q::a) k=some q.2:=by simp[valueAt,fY,c]
   rw[zBd e,b];exact f
  ·have c:¬q.1=k:=fun z=>e (d.trans z)
   have b:valueAt (q::a) k=valueAt a k:=by simp[valueAt,fY,c]
   rw[zBe e,b];exact ih
theorem KV.any {kvs:List (κ×V)}{vs:List (κ×aj)}(r:KV kvs vs)(k:κ):(kvs.any fun a=>decide (a.1=k))=vs.any fun a=>decide (a.1=k):=by
 unfold KV at r
 induction r with
 |nil=>rfl
 |cons h t ih=>rw[fz,fz,ih,h.1]
theorem KV.repl {kvs:List (κ×V)}{vs:List (κ×aj)}(r:KV kvs vs)(k:κ){y:V}{u:aj}(c:zR y u) :
  KV (kvs.map fun a=>if a.1=k then(a.1,y)else a) (vs.map fun a=>if a.1=k then(a.1,u)else a):=by
 unfold KV at r⊢
 induction r with
 |nil=>exact .nil
 | @cons p q ps f h t ih=>
  rw[aR,aR]
  refine .cons ?_ ih
  obtain⟨b,d⟩:=h
  by_cases e:p.1=k
  ·rw[if_pos e,if_pos (b.symm.trans e)];exact⟨b,c⟩
  ·rw[if_neg e,if_neg (fun z=>e (b.trans z))];exact⟨b,d⟩
theorem KV.put {kvs:List (κ×V)}{vs:List (κ×aj)}(r:KV kvs vs)(k:κ){y:V}{u:aj}(a:zR y u):KV (uA kvs k y) (stored vs k u):=by
 unfold uA stored
 rw[r.any k]
 by_cases e:(vs.any fun b=>decide (b.1=k))=true
 ·rw[if_pos e,if_pos e];exact r.repl k a
 ·rw[if_neg e,if_neg e];exact tE r ⟨rfl,a⟩
theorem KV.keys {kvs:List (κ×V)}{vs:List (κ×aj)}(r:KV kvs vs):kvs.map (·.1)=vs.map (·.1):=by
 unfold KV at r
 induction r with
 |nil=>rfl
 |cons h t ih=>rw[aR,aR,ih,h.1]
theorem KV.length {kvs:List (κ×V)}{vs:List (κ×aj)}(r:KV kvs vs):kvs.length=vs.length:=dj r
end
theorem g6 {P:aJ}{w:aY}{k:zJ}{u:aj}(r:zR (kV k) u):(vR P w).is k u=true:=by
 cases k with
 |inl i=>obtain⟨t,e⟩:=(show∃t,u=Value.int i t from r);subst e;exact zJg P w i t
 |inr x=>obtain⟨t,e⟩:=(show∃t,u=Value.str x t from r);subst e;exact zFB P w x t
theorem zLH {P:aJ}{w:aY}{k:yR}{u:aj}(r:zR (kN k) u):(gD P w).is k u=true:=by
 cases k with
 |inl x=>obtain⟨t,e⟩:=(show∃t,u=Value.str x t from r);subst e;show dw x (.str x t)=true;simp[dw]
 |inr b=>have e:u=Value.bool b:=r;subst e;exact beq_self_eq_true _
theorem zFp {P:aJ}{w:aY}:∀{ks:List yR}{a:List aj},zL (ks.map kN) a->ItemsAre (gD P w) ks a
 | [],_,r=>by rw[mx]at r;cases r;exact .nil
 |k::ks,_,r=>by
  rw[aR]at r
  cases r with
  |cons h t=>exact .cons (zLH h) (zFp t)
abbrev KT (H:Hp):List (List yR×V)->List (List yR×ak×aj)->Prop:=nX fun p q=>p.1=q.1/\H q.2.1=some (.tup (p.1.map kN))/\zR p.2 q.2.2
theorem KT.val {H:Hp}{kvs:List (List yR×V)}{xs:List (List yR×ak×aj)}(r:KT H kvs xs)(k:List yR):qM (v3 kvs k) ((atKey xs k).map (·.2)):=by
 induction r with
 |nil=>exact True.intro
 | @cons p q ps a h t ih=>
  obtain⟨d,_,f⟩:=h
  by_cases e:p.1=k
  ·have c:q.1=k:=d.symm.trans e
   have b:atKey (q::a) k=some q.2:=by simp[atKey,fY,c]
   rw[zBd e,b];exact f
  ·have c:¬q.1=k:=fun z=>e (d.trans z)
   have b:atKey (q::a) k=atKey a k:=by simp[atKey,fY,c]
   rw[zBe e,b];exact ih
theorem KT.repl {H:Hp}{kvs:List (List yR×V)}{xs:List (List yR×ak×aj)}(r:KT H kvs xs)(k:List yR){y:V}{u:aj}(d:zR y u) :
  KT H (kvs.map fun b=>if b.1=k then(b.1,y)else b) (xs.map (putAt k u)):=by
 induction r with
 |nil=>exact .nil
 | @cons p q ps g h t ih=>
  rw[aR,aR]
  refine .cons ?_ ih
  obtain⟨a,c,f⟩:=h
  unfold putAt
  by_cases e:p.1=k
  ·rw[if_pos e,if_pos (a.symm.trans e)];exact⟨a,c,d⟩
  ·rw[if_neg e,if_neg (fun z=>e (a.trans z))];exact⟨a,c,f⟩
theorem KT.put {H:Hp}{kvs:List (List yR×V)}{xs:List (List yR×ak×aj)}(r:KT H kvs xs)(k:List yR){b:ak}{y:V}{u:aj}(hb:H b=some (.tup (k.map kN)))(a:zR y u) :
  KT H (uA kvs k y) (storedH xs k b u):=by
 have e:(kvs.any fun c=>decide (c.1=k))=(atKey xs k).isSome:=by
  rw[zFo,(r.val k).isSome_eq,lA]
 unfold uA storedH
 rw[e]
 by_cases q:(atKey xs k).isSome=true
 ·rw[if_pos q,if_pos q];exact r.repl k a
 ·rw[if_neg q,if_neg q];exact tE r ⟨rfl,hb,a⟩
theorem KT.keeps {H a:Hp}{kvs:List (List yR×V)}{xs:List (List yR×ak×aj)}(r:KT H kvs xs)(c:∀b ys,H b=some (.tup ys)->a b=some (.tup ys)):KT a kvs xs :=
 Paired.mapP r fun _ _ z=>⟨z.1,c _ _ z.2.1,z.2.2⟩
section
variable{P:aJ}{w:aY}{H:Hp}{h:bE}{a:ak}
theorem zFq {u:HO}(ok:yA P w H h)(e:Rd H a u):yS P w H h a u:=e.ok ok
theorem uW {kvs:List (zJ×V)}(ok:yA P w H h)(e:Rd H a (.dK kvs)):kvs.length<=sizeLine/\(a==sysModules)=false/\∃vs,KV kvs vs/\h.DictOf (vR P w) a vs :=
 show yS P w H h a (.dK kvs)from zFq ok e
theorem kT {kvs:List (zJ×V)}(ok:yA P w H h)(e:H a=some (.dK kvs)):kvs.length<=sizeLine/\(a==sysModules)=false/\∃vs,KV kvs vs/\h.DictOf (vR P w) a vs:=uW ok (.inl e)
theorem zAa {ks:List yR}(ok:yA P w H h)(e:H a=some (.tup (ks.map kN))):(tupleKind (gD P w)).is h ks a:=by
 obtain⟨_,its,r,o,b,c,n,d⟩:=(show yS P w H h a (.tup (ks.map kN))from ok a _ e)
 exact⟨o,its.toArray,n,b,c,d,by simpa using zFp r⟩
theorem g7 {kvs:List (List yR×V)}(ok:yA P w H h)(e:Rd H a (.dT kvs)):kvs.length<=sizeLine/\(a==sysModules)=false/\
  ∃xs,KT H kvs xs/\h.DictOfH (tupleKind (gD P w)) a xs:=by
 obtain⟨z,y,xs,r,o,d,ep,f,g,i,j,n⟩:=(show yS P w H h a (.dT kvs)from zFq ok e)
 refine⟨z,y,xs,r,o,d,ep,f,g,i,j,fun x b=>?_,n⟩
 have all:∀{l:List (List yR×V)} {m:List (List yR×ak×aj)},KT H l m->∀x∈m,(tupleKind (gD P w)).is h x.1 x.2.1:=by
  intro l m q
  induction q with
  |nil=>intro x b;exact nomatch b
  | @cons p q ps s c t ih=>
   intro x b
   rcases aG.mp b with e|b
   ·subst e
    exact zAa ok (by rw[<-c.1];exact c.2.1)
   ·exact ih x b
 exact all r x b
theorem zLI {kvs:List (List yR×V)}(ok:yA P w H h)(e:H a=some (.dT kvs)):kvs.length<=sizeLine/\(a==sysModules)=false/\
  ∃xs,KT H kvs xs/\h.DictOfH (tupleKind (gD P w)) a xs:=g7 ok (.inl e)
end
def vV (H:Hp)(a:ak)(y:V)(r:Option V):Prop :=
 (∃kvs k,Rd H a (.dK kvs)/\y=kV k/\r=v3 kvs k)\/∃kvs k b,Rd H a (.dT kvs)/\y=.ref b/\H b=some (.tup (k.map kN))/\r=v3 kvs k
def g8 (H:Hp)(a:ak)(y v:V)(H':Hp):Prop :=
 (∃kvs k,H a=some (.dK kvs)/\y=kV k/\kvs.length<sizeLine/\H'=upd H a (.dK (uA kvs k v)))\/
 ∃kvs k b,H a=some (.dT kvs)/\y=.ref b/\H b=some (.tup (k.map kN))/\kvs.length<sizeLine/\H'=upd H a (.dT (uA kvs k v))
theorem vV.k {H:Hp}{a:ak}{kvs:List (zJ×V)}{k:zJ}(e:H a=some (.dK kvs)):vV H a (kV k) (v3 kvs k):=.inl ⟨kvs,k,.inl e,rfl,rfl⟩
theorem g8.k {H:Hp}{a:ak}{kvs:List (zJ×V)}{k:zJ}{v:V}(e:H a=some (.dK kvs))(hl:kvs.length<sizeLine):g8 H a (kV k) v (upd H a (.dK (uA kvs k v))):=.inl ⟨kvs,k,e,rfl,hl,rfl⟩
section
variable{X:Cx}{pins:List (ak×Obj)}{σ:St}{H:Hp}{s:ao}{a:ak}{y v:V}{u r:aj}{o:Option V}{A:bO}{E:aj->ao->Prop}
theorem Inv.big (I:Inv X pins σ H s):sysModules<s.heap.objs.size:=by
 have h:mainGlobals<s.heap.objs.size:=(I.mod.glob.keeps I.bk).lt
 exact my (by decide) h
theorem zLJ {Q:aj->ao->Prop}(q:A.units+1<cLine)(I:Inv X pins σ H s)(g:vV H a y (some v))(n:zR y u)(h:∀d s',Inv X pins σ H s'->zR v d->Q d s') :
  wpAny (model X.prog X.w) A (getItem (.ref a) u) Q E s:=by
 rcases g with⟨kvs,k,e,f,l⟩|⟨kvs,k,b,e,f,t,l⟩
 ·subst f
  obtain⟨z,hd,vs,rel,i⟩:=uW I.hok e
  obtain⟨d,j,c⟩:=qM.some_of (v:=v) (o:=valueAt vs k) (by rw[l];exact rel.val k)
  exact wpAny_getItem_of (g6 n) i.mapOf j (h d _ (I.tok _) c)
 ·subst f
  cases(show u=Value.ref b from n)
  obtain⟨z,hd,xs,rel,i⟩:=g7 I.hok e
  obtain⟨d,j,c⟩:=qM.some_of (v:=v) (o:=(atKey xs k).map (·.2)) (by rw[l];exact rel.val k)
  obtain⟨p,x,m⟩:=iB.mp j
  refine wpAny_getItem_heap (fQ q) (zAa I.hok t) i x ?_
  rw[m]
  exact h d _ (I.tok _) c
theorem zLK {Q:aj->ao->Prop}(i:A.units+1<cLine)(I:Inv X pins σ H s)(g:vV H a y o)(f:zR y u)(h:∀s',Inv X pins σ H s'->Q (.bool o.isSome) s') :
  wpAny (model X.prog X.w) A (compareOp .In u (.ref a)) Q E s:=by
 rcases g with⟨kvs,k,e,c,l⟩|⟨kvs,k,b,e,c,j,l⟩
 ·subst c
  obtain⟨z,hd,vs,rel,d⟩:=uW I.hok e
  refine wpAny_in_of (g6 f) hd d.mapOf ?_
  rw[<- (rel.val k).isSome_eq,<-l]
  exact h _ (I.tok _)
 ·subst c
  cases(show u=Value.ref b from f)
  obtain⟨z,hd,xs,rel,d⟩:=g7 I.hok e
  refine wpAny_in_heap (fQ i) (zAa I.hok j) hd d ?_
  have q:=(rel.val k).isSome_eq
  rw[lA]at q
  rw[<-q,<-l]
  exact h _ (I.tok _)
theorem zLL {Q:aj->ao->Prop}(i:A.units+1<cLine)(I:Inv X pins σ H s)(g:vV H a y o)(f:zR y u)(h:∀s',Inv X pins σ H s'->Q (.bool (!o.isSome)) s') :
  wpAny (model X.prog X.w) A (compareOp .NotIn u (.ref a)) Q E s:=by
 rcases g with⟨kvs,k,e,c,l⟩|⟨kvs,k,b,e,c,j,l⟩
 ·subst c
  obtain⟨z,hd,vs,rel,d⟩:=uW I.hok e
  refine wpAny_notIn_of (g6 f) hd d.mapOf ?_
  rw[<- (rel.val k).isSome_eq,<-l]
  exact h _ (I.tok _)
 ·subst c
  cases(show u=Value.ref b from f)
  obtain⟨z,hd,xs,rel,d⟩:=g7 I.hok e
  refine wpAny_notIn_heap (fQ i) (zAa I.hok j) hd d ?_
  have q:=(rel.val k).isSome_eq
  rw[lA]at q
  rw[<-q,<-l]
  exact h _ (I.tok _)
theorem zBf {h':bE}{t':Nat}{c:HO}(I:Inv X pins σ H s)(d:Mut (H a))(f:gq a s.heap h')(g:∃q,h'.get? a=some q)(new:yS X.prog X.w (upd H a c) h' a c) :
  Inv X pins σ (upd H a c) {s with heap:=h',toks:=t'} :=
 I.write (x:=a) (e:=a) d (.inl rfl) (fun b q hb z=>(f.2 b hb).trans z) g new
theorem zBg {P:aJ}{w:aY}{b:Hp}{h':bE}{kvs:List (zJ×V)}{vs:List (zJ×aj)}(z:kvs.length<=sizeLine)(hd:(a==sysModules)=false)(rel:KV kvs vs)(c:h'.DictOf (vR P w) a vs) :
  yS P w b h' a (.dK kvs):=⟨z,hd,vs,rel,c⟩
theorem zLM {p:Hp}{Q:Unit->ao->Prop}(D:A.units+1<cLine)(I:Inv X pins σ H s)(g:g8 H a y v p)(t:zR y u)(x:zR v r)(h:∀s',Inv X pins σ p s'->Q () s') :
  wpAny (model X.prog X.w) A (setItem (.ref a) u r) Q E s:=by
 rcases g with⟨kvs,k,e,i,l,j⟩|⟨kvs,k,b,e,i,B,l,j⟩
 ·subst i j
  obtain⟨z,hd,vs,rel,m⟩:=kT I.hok e
  have hz:vs.length<=sizeLine:=by rw[<-rel.length];exact z
  have hl:(uA kvs k v).length<=sizeLine:=by have:=zCx kvs k v;omega
  refine wpAny_setItem_pairs (hsz:=hz) (g6 t) m fun h' d n=>h _ ?_
  have F:∃q,h'.get? a=some q:=let⟨q,_,_,f,_⟩:=d;⟨q,f⟩
  exact zBf I (by rw[e];exact True.intro) n F (zBg hl hd (rel.put k x) d)
 ·subst i j
  cases(show u=Value.ref b from t)
  obtain⟨z,hd,xs,rel,m⟩:=zLI I.hok e
  have hz:xs.length<=sizeLine:=by rw[<-dj rel];exact z
  have hl:(uA kvs k v).length<=sizeLine:=by have:=zCx kvs k v;omega
  refine wpAny_setItem_heap (hsz:=hz) (fQ D) (zAa I.hok B) m fun h' d n=>h _ ?_
  obtain⟨q,G,ep,f,J,L,M,_,N⟩:=d
  refine zBf I (by rw[e];exact True.intro) n ⟨q,f⟩ ⟨hl,hd,_,(rel.put k B x).keeps fun c ys C=>?_,q,G,ep,f,J,L,M,N⟩
  rw[zG (zBZ C e (fun z=>nomatch z))]
  exact C
end
def zFr (i:bJ):Prop:=∀ov iv,subscripted i false ov iv=operate [ov,iv] (getItem ov iv)
theorem zLN {prog:aJ}{w:aY}{A:bO}{E:aj->ao->Prop}{s:ao}{env:Env}{value slice:bJ}{pos:Pos}{T id:String}{Q:aj->ao->Prop}
  (hl:typeLookup (.type T) "__getitem__"=pure (some (.builtin id))) (f:zFr slice)
  (h:wpAny (model prog w) A (eval value env) (fun o c=>wpAny (model prog w) A (eval slice env) (fun i a=>a.TypeIs o T/\wpAny (model prog w) A (getItem o i) Q E a) E c) E s) :
  wpAny (model prog w) A (eval (.Subscript value slice pos) env) Q E s:=by
 refine kg (cy h (fun o c h₁=>cy h₁ (fun i a b=>?_) fun _ _ x=>x) fun _ _ x=>x)
 obtain⟨d,b⟩:=b
 unfold subscriptTail
 refine af ?_
 rw[getitemInPython_of_ne d.not_modules]
 refine af (pN d hl ?_)
 have fin:wpAny (model prog w) A (subscripted slice false o i) (fun r e=>wpAny (model prog w) A (letTemporaryGo value o r>>=fun _=>pure r) Q E e) E a:=by
  rw[f o i]
  exact wpAny_operating (cy b (fun r e g=>af (wpAny_letTemporaryGo (ar g))) fun _ _ x=>x)
 first
  |exact ar (af fin)
  |exact af (ar (af fin))
  |exact af fin
theorem zLO {X:Cx}{c:List (ak×Obj)}{σ:St}{H:Hp}{s:ao}{a:ak}{y:V}{o:Option V}(I:Inv X c σ H s)(g:vV H a y o):s.TypeIs (.ref a) "dict" :=by
 rcases g with⟨kvs,k,e,_,_⟩|⟨kvs,k,b,e,_,_,_⟩
 ·obtain⟨_,_,vs,_,d⟩:=uW I.hok e
  exact d.typeIs
 ·obtain⟨_,_,xs,_,d⟩:=g7 I.hok e
  exact d.typeIs
def zLP (td ty:TE):TE:=fun σ H Q=>td σ H fun x H1=>ty σ H1 fun y H2=>∃a v,x=.ref a/\vV H2 a y (some v)/\Q v H2
def zLQ (ty td:TE):TE:=fun σ H Q=>ty σ H fun y H1=>td σ H1 fun x H2=>∃a o,x=.ref a/\vV H2 a y o/\Q (.bl o.isSome) H2
def zLR (ty td:TE):TE:=fun σ H Q=>ty σ H fun y H1=>td σ H1 fun x H2=>∃a o,x=.ref a/\vV H2 a y o/\Q (.bl (!o.isSome)) H2
def zFs (td ty tv:TE):TS:=fun D σ H=>tv σ H fun v H1=>td σ H1 fun x H2=>ty σ H2 fun y H3=>∃a H4,x=.ref a/\g8 H3 a y v H4/\D.nx σ H4
section
variable{X:Cx}{o i e value:bJ}{pos pos' tpos:Pos}{td ty tv:TE}
theorem zAb (f:X.A.units+1<cLine)(j:PE X o td)(hi:PE X i ty)(l:zFr i):PE X (.Subscript o i pos) (zLP td ty):=by
 intro b s σ H Q I h
 refine zLN PySem.F.slot_dict_getitem.lookup l (zI (j b s σ H _ I h) fun u m ⟨x,n,p,q,r⟩=>zI (hi b m σ n _ p r) fun C D ⟨y,t,d,w,a,v,ex,g,z⟩=>?_)
 subst ex
 obtain rfl:u=Value.ref a:=q
 exact⟨zLO d g,zLJ f d g w fun E G B c=>⟨v,t,B,c,z⟩⟩
theorem zLS (c:X.A.units+1<cLine)(hi:PE X i ty)(d:PE X o td):PC X .In i o (zLQ ty td):=by
 intro b s σ H Q I h
 refine zI (hi b s σ H _ I h) fun z f ⟨y,j,l,m,n⟩=>zI (d b f σ j _ l n) fun u B ⟨x,p,q,r,a,t,ex,g,v⟩=>?_
 subst ex
 obtain rfl:u=Value.ref a:=r
 exact zLK c q g m fun C w=>⟨.bl t.isSome,p,w,rfl,v⟩
theorem zLT (c:X.A.units+1<cLine)(hi:PE X i ty)(d:PE X o td):PC X .NotIn i o (zLR ty td):=by
 intro b s σ H Q I h
 refine zI (hi b s σ H _ I h) fun z f ⟨y,j,l,m,n⟩=>zI (d b f σ j _ l n) fun u B ⟨x,p,q,r,a,t,ex,g,v⟩=>?_
 subst ex
 obtain rfl:u=Value.ref a:=r
 exact zLL c q g m fun C w=>⟨.bl (!t.isSome),p,w,rfl,v⟩
theorem zCy (c:X.A.units+1<cLine)(d:PE X o td)(hi:PE X i ty)(hv:PE X value tv)(f:swapsWith value (some (.Subscript o i pos')) pos.line X.env=pure false) :
  PS X (.Assign [.Subscript o i pos'] value pos) (zFs td ty tv):=by
 intro b s σ H D I h
 refine wpAny_Assign_Subscript (zI (hv b s σ H _ I h) fun r j ⟨v,l,m,n,p⟩=>zI (d b j σ l _ m p) fun u q ⟨x,t,w,z,B⟩=>zI (hi b q σ t _ w B) fun L M ⟨y,N,C,E,a,F,ex,g,G⟩=>?_) f
 subst ex
 obtain rfl:u=Value.ref a:=z
 exact zLM c C g E n fun O J=>⟨σ,F,J,G⟩
end
theorem zFt {P:aJ}{w:aY}{H:Hp}(h:bE)(hb:sysModules<h.objs.size):yS P w H (h.push {cls:=.type "dict",data:=.dict #[]}) h.objs.size (.dK []) :=
 ⟨bp _,beq_eq_false_iff_ne.mpr (d5 (bc hb)),[],.nil,pO h⟩
def zLU:TE:=fun _ H Q=>∀p,H p=none->Q (.ref p) (upd H p (.dK []))
section
variable{X:Cx}{pos:Pos}
theorem zBh:PE X (.Dict [] [] pos) zLU:=fun b s σ H Q I h=>
 wpAny_Dict_empty ⟨.ref s.heap.objs.size,_,I.laid (a:=s.heap.objs.size) (o:=.dK []) (t':=s.toks) (fun _ _ q=>ae _ q) (ay _) (zFt s.heap I.big),rfl,h _ (I.hok.fresh (ay _))⟩
end
def zFu:List (TE×TE)->St->Hp->(List (V×V)->Hp->Prop)->Prop
 | [],_,H,Q=>Q [] H
 |(tk,tv)::r,σ,H,Q=>tk σ H fun x H1=>tv σ H1 fun y H2=>zFu r σ H2 fun ps H3=>Q ((x,y)::ps) H3
abbrev VV:List (V×V)->List (aj×aj)->Prop:=nX fun p q=>zR p.1 q.1/\zR p.2 q.2
def PPs (X:Cx)(pos:Pos)(keys:List (Option bJ))(values:List bJ)(trs:List (TE×TE)):Prop :=
 ∀(pins:List (ak×Obj)) (s:ao) (σ:St) (H:Hp) (Q:List (V×V)->Hp->Prop),Inv X pins σ H s->zFu trs σ H Q->
  wpAny (model X.prog X.w) X.A (evalPairs (pairTrees keys values X.env pos)) (fun vs s'=>∃ps H',Inv X pins σ H' s'/\VV ps vs/\Q ps H') X.xe s
theorem zLV {X:Cx}{pos:Pos}:PPs X pos [] [] []:=fun a s σ H Q I h=>pairTrees_nil_walk ⟨[],H,I,.nil,h⟩
theorem zLW {X:Cx}{pos:Pos}{k v:bJ}{ks:List (Option bJ)}{vs:List bJ}{tk c:TE}{b:List (TE×TE)}(d:PE X k tk)(hv:PE X v c)(e:PPs X pos ks vs b) :
  PPs X pos (some k::ks) (v::vs) ((tk,c)::b):=fun a s σ H Q I h=>
 pairTrees_cons_walk (zI (d a s σ H _ I h) fun u f ⟨x,g,i,j,l⟩=>zI (hv a f σ g _ i l) fun w2 m ⟨y,n,o,p,q⟩=>
  zI (e a m σ n _ o q) fun ws z ⟨ps,r,t,rel,w⟩=>⟨(x,y)::ps,r,t,.cons ⟨j,p⟩ rel,w⟩)
structure M2 (X:Cx) (o:bJ) (m:Str) (apos:Pos) (e f:bJ) (cpos:Pos):Prop where
 base:attributeBase o m X.env (eval o X.env)=eval o X.env
 few:((backTo cpos (starEach [e,f] X.env)).all (fun x=>!x.1)&& (backToKw cpos (keywordEach [] X.env)).all (fun x=>x.1.isSome)
  &&decide (([e,f]:List bJ).length+([]:List mm).length+(if([]:List mm).isEmpty then 0 else 1)<30))=true
 line:(apos.endLine==cpos.line)=true
 trees:backTo cpos (starEach [e,f] X.env)=[(false,eval e X.env),(false,eval f X.env)]
def IsD (H:Hp)(a:ak):Prop:=(∃kvs,Rd H a (.dK kvs))\/∃kvs,Rd H a (.dT kvs)
theorem zFv {X:Cx}{f:List (ak×Obj)}{σ:St}{H:Hp}{s:ao}{a:ak}(I:Inv X f σ H s)(d:IsD H a) :
  s.TypeIs (.ref a) "dict"/\ (∀b,Value.ref a=.ref b->∃c,s.heap.get? b=some c/\c.dict=none)/\(a==sysModules)=false:=by
 rcases d with⟨kvs,e⟩|⟨kvs,e⟩
 ·obtain⟨_,hd,vs,_,g⟩:=uW I.hok e
  refine⟨g.typeIs,fun b q=>?_,hd⟩
  cases q
  obtain⟨c,_,_,h,i,_⟩:=g
  exact⟨c,h,i.2.1⟩
 ·obtain⟨_,hd,xs,_,g⟩:=g7 I.hok e
  refine⟨g.typeIs,fun b q=>?_,hd⟩
  cases q
  obtain⟨c,_,_,h,i,_⟩:=g
  exact⟨c,h,i.2.1⟩
section
variable{X:Cx}{pins:List (ak×Obj)}{σ:St}{H:Hp}{s:ao}{a:ak}{y d:V}{u r:aj}{o:Option V}{A:bO}{E:aj->ao->Prop}
theorem zLX {Q:aj->ao->Prop}(m:A.units+1<cLine)(I:Inv X pins σ H s)(g:vV H a y o)(i:zR y u)(rd:zR d r)(h:∀j s',Inv X pins σ H s'->zR (o.getD d) j->Q j s') :
  wpAny (model X.prog X.w) A (call (.builtin "dict.get") [.ref a,u,r]) Q E s:=by
 rcases g with⟨kvs,k,e,f,l⟩|⟨kvs,k,b,e,f,n,l⟩
 ·subst f
  obtain⟨z,hd,vs,rel,c⟩:=uW I.hok e
  refine iF iP c.typeIs mz (lU _ _ _) (meets_dict_get_default (vR X.prog X.w) a (g6 i) hd r) ⟨_,c.mapOf,h _ _ (I.tok _) ?_⟩
  rw[l]
  exact(rel.val k).getD rd
 ·subst f
  cases(show u=Value.ref b from i)
  obtain⟨z,hd,xs,rel,c⟩:=g7 I.hok e
  refine iF iP c.typeIs mz (lU _ _ _) (meetsH_dict_get_default (tupleKind (gD X.prog X.w)) a b hd r) ⟨fQ m,k,xs,zAa I.hok n,c,h _ _ (I.tok _) ?_⟩
  rw[l]
  exact(rel.val k).getD rd
end
def zFw (td ty tx:TE):TE:=fun σ H Q=>td σ H fun x H1=>∃a,x=.ref a/\IsD H1 a/\ty σ H1 fun y H2=>tx σ H2 fun z H3=>∃o,vV H3 a y o/\Q (o.getD z) H3
section
variable{X:Cx}{o e f:bJ}{apos cpos:Pos}{td ty tx:TE}
theorem zLY (j:X.A.units+1<cLine)(l:PE X o td)(n:PE X e ty)(hf:PE X f tx)(m:M2 X o "get" apos e f cpos):PE X (.Call (.Attribute o "get" apos) [e,f] [] cpos) (zFw td ty tx):=by
 intro b s σ H Q I h
 refine wpAny_Call_method m.base m.few m.line cn iP PySem.F.type_dict_get (zI (l b s σ H _ I h) fun u p ⟨x,q,i,r,a,ex,d,t⟩=>?_)
 subst ex
 obtain rfl:u=Value.ref a:=r
 obtain⟨v,w,_⟩:=zFv i d
 refine⟨v,w,?_⟩
 rw[m.trees]
 refine fP rfl (nc (eI (zI (n b p σ q _ i t) fun P B ⟨y,C,D,E,G⟩=>
  eI (zI (hf b B σ C _ D G) fun R T ⟨z,J,L,M,U,g,N⟩=>iC ?_))))
 exact zLX j L g E M fun W Y O c=>⟨_,J,O,c,N⟩
end
end L2
namespace Att
open PySem PySem.W PySem.Calls PyProof.Rows
theorem zLZ {P:o5}{h:bE}:∀(ns:List Int) (vs:List aj),WellAll P h vs (ns.map WData.int)->qb vs ns:=by
 intro ns
 induction ns with
 |nil=>
  intro vs w
  rw[mx]at w
  cases w
  exact .nil
 |cons n ns ih=>
  intro vs w
  rw[aR]at w
  cases w with
  |cons a b=>
   cases a
   exact .cons _ _ (ih _ b)
theorem zLa {l:OpenLaw}{n:Nat}(p:l.most=some n){P:o5}{h:bE}{args:List WData}{b:List aj}
  (c:l.row.toRowW.claim.pre args=true) (j:WellAll P h b args) :
  ∃a vs ns,b=[Value.ref a]/\args=[WData.list (ns.map WData.int)]/\h.get? a=some {cls:=.type "list",data:=.seq vs.toArray}/\qb vs ns/\ns.length<=n:=by
 have m:WShape.hasAll [] args [.list .int]=true:=(pre_splitW c).1
 have o:l.pre.holds [] {args:=args}=true:=(pre_splitW c).2
 obtain⟨d,r,rfl,s,t⟩:=hasAllW_cons m
 obtain rfl:=hasAllW_nil t
 obtain⟨xs,rfl,u⟩:=hasW_list s
 obtain⟨ns,rfl⟩:=items_int u
 have e:ns.length<=n:=by
  unfold OpenLaw.pre at o
  have g:(WTm.not (.lt (.lit (.int (n:Int))) (.len (.arg 0)))).holds [] {args:=[.list (ns.map .int)]}=true:=by
   have g:=(holds_andW o).1
   rw[p]at g
   exact g
  have i:=condW_of g (w_not (w_lt w_lit (w_len_list (w_arg rfl))))
  rw[ah]at i
  refine Nat.le_of_not_lt fun q=>?_
  have v:(n:Int)<((ns.length:Nat):Int):=by omega
  first
   |(rw[decide_eq_true v]at i;exact absurd i (by decide))
   |(simp at i;omega)
 cases j with
 |cons w1 w2=>
  cases w2
  cases w1 with
  |list w f=>exact⟨_,_,ns,rfl,rfl,w,zLZ ns _ f,e⟩
theorem zLb (l:OpenLaw)(args:List WData):l.row.toRowW.claim.post args (.bool true) args=true :=
 postW_of (r:=l.row.toRowW) (X:=(true==true))
  (show tZ [] (.bool true) .bool=true by first|rfl|decide|simp[tZ,WShape.arms,WShape.armsAll])
  (show(WTm.eq .res (.lit (.bool true))).value [] {args:=args,res:=some (.bool true),after:=args}=some (.bool (true==true))from w_eq_bool (w_res rfl) w_lit) rfl
theorem attach_call {l:OpenLaw}{n:Nat}{q:aJ}{loose:List Str}{XP:(Str->Option aj)->bE->Prop}{YP:aY->bE->Prop}{d:DefRec}
  (z:l.most=some n) (p:d.params.defaults=[])
  (call:∀(w:aY) (s₀ b:ao) (mg mb:Str->Option aj) (g:ak) (o:Obj) (pm m c:aj) (a:ak) (vs:List aj) (ns:List Int),
   Ground q loose [] XP w s₀ mg mb b.heap->YP w b.heap->
   b.heap.get? g=some o->o.data=.func (docDef d.name d.params d.body d.scope pm m c)->b.heap.CodeRec m d.name->mg d.name=some (.ref g)->
   b.heap.get? a=some {cls:=.type "list",data:=.seq vs.toArray}->qb vs ns->ns.length<=n->b.gens=#[]->
   codeAny (model l.prog w) callerA (.call (.ref g) ⟨[.ref a],[]⟩) (fun r s'=>r=.ok (.ret (.bool true))/\OldK b.heap s'.heap/\s'.os=b.os/\lx s'.gens) b) :
  WalkO q loose XP YP l.row.toRowW d [] (fun f vs=>ql f vs):=by
 intro w s₀ b mg mb G Y g o pm m c A kV B hd s v t C args x as h y D u E
 obtain rfl:A=.none:=Dflts.none v p
 obtain rfl:kV=.none:=Dflts.noKw v
 obtain⟨a,vs,ns,rfl,rfl,i,e,j⟩:=zLa z h u
 refine enter_call (fb (call w s₀ b mg mb g o pm m c a vs ns G Y B (fd_plain hd) s t i e j C) fun r s' F=>?_)
 obtain⟨rfl,H,I,J⟩:=F
 exact⟨.inl ⟨.bool true,.bool true,[],rfl,fun _=>rfl,.bool true,zLb l _,fun _=>⟨List.Pairwise.nil,fun _ L=>(nomatch L)⟩⟩,H,I,J⟩
end Att
namespace L2
open PySem PySem.Spec PyProof.Rows
theorem zFx:∀{vs:List aj}{ns:List Int},qb vs ns->zL (ns.map V.int) vs
 |_,_,.nil=>.nil
 |_,_,.cons n t h=>.cons ⟨t,rfl⟩ (zFx h)
abbrev z7:jZ:=fun _ _ _ _ _ _=>False
abbrev E0:XK:=fun _ _ _=>False
theorem zLc {X:Cx}:zCt z7 X E0:=fun _ _ _ _ _ _ _ h=>h.elim
structure Fun (K:ag) (x qual:Str) (st:c8) (f:ak) (fd:bg):Prop where
 ex:∃(oc:aj) (od:Option ak) (kV doc pm:aj) (an:Option ak) (cdv ct:aj) (osl:Array (Option aj)),
  fd=dq x qual (defArgs st) (defBody st) (defScope st) .none kV doc pm an cdv ct/\K.lookup f=some ⟨oc,od,.func fd,osl⟩/\eJ K cdv qual=true
 kp:dy K (.ref f)=true
section
variable{P:aJ}{w:aY}{K:ag}{mg:Str->Option aj}{base:bE}
theorem Fun.ok {x a:Str}{st:c8}{f:ak}{fd:bg}{N ps:List Str}{k:Nat}{sp:Sp}(F:Fun K x a st f fd)(S:FnScope N ps (defScope st))(len:∀vs H Q E,sp vs H Q E->vs.length=ps.length)
  (c:∀(b:aj) (A:bO) (outer:List Env) (s:ao) (H:Hp) (vs:List V) (Q:VK) (E:XK),Room k (A.deeper (envOfC a (defScope st) s.heap.objs.size f b))->sp vs H Q E->
   ∃t,qE (gX z7 P w K mg base N a (defScope st) f b A outer s H E).nox (defBody st) t/\t {nx:=fun _ g=>Q .non g,rt:=Q} (start N vs) H):FnOk P w K mg base z7 (k+1) f fd ps sp:=by
 obtain⟨oc,od,kV,i,pm,m,b,ct,j,rfl,lk,d⟩:=F.ex
 refine zFZ lk d S len fun A outer s H vs Q E l e=>?_
 obtain⟨t,h,q⟩:=c b A outer s H vs Q E l e
 exact⟨t,h.nox,q⟩
theorem Fun.binds {x a:Str}{st:c8}{f:ak}{fd:bg}{ps:List Str}(F:Fun K x a st f fd)
  (h:∀(kV b pm:aj) (d:Option ak) (c ct:aj) (e:List aj),e.length=ps.length->bindArgs (dq x a (defArgs st) (defBody st) (defScope st) .none kV b pm d c ct) ⟨e,[]⟩=pure (ps.zip e)):j0 K fd ps []:=by
 obtain⟨oc,od,kV,b,pm,d,c,ct,g,rfl,lk,i⟩:=F.ex
 exact .all (h kV b pm d c ct)
theorem zCz {x a:Str}{st:c8}{f:ak}{oc:aj}{od g:Option ak}{e:Array (Option aj)}{kV d pm b ct:aj}(l:K.lookup f=some ⟨oc,od,.func (dq x a (defArgs st) (defBody st) (defScope st) .none kV d pm g b ct),e⟩)
  (c:eJ K b a=true) (k:dy K (.ref f)=true):Fun K x a st f (dq x a (defArgs st) (defBody st) (defScope st) .none kV d pm g b ct):=⟨⟨oc,od,kV,d,pm,g,b,ct,e,rfl,l,c⟩,k⟩
end
theorem zAc {A:bO}{k:Nat}(a:Room k A):A.units+1<cLine:=Nat.lt_of_le_of_lt (Nat.add_le_add_left (by decide:1<=64) _) a.units
section
variable{X:Cx}
theorem pv (i:Nat){x:Str}{pos:Pos}(b:X.N[i]?=some x:=by rfl)(hv:Vis X.env.scope x:=by first|exact Or.inl rfl|exact Or.inr (Or.inl rfl)|exact Or.inr (Or.inr rfl))(hd:(x==("__debug__" : Str))=false:=by decide)
  (a:(x==("__classdict__" : Str))=false:=by decide):PE X (.Name x pos) (zAS i):=zJn b hv hd a
end
theorem yO {A B:Prop}(h:B):if false=true then A else B:=by
 rw[if_neg aV]
 exact h
theorem yK {A B:Prop}(h:A):if true=true then A else B:=by
 rw[if_pos rfl]
 exact h
theorem zFy {c A B:Prop} [Decidable c] (a:c->A)(b:¬c->B):if c then A else B:=by
 by_cases h:c
 ·rw[if_pos h]
  exact a h
 ·rw[if_neg h]
  exact b h
theorem kU {c A B:Prop} [Decidable c] (a:c)(h:B):if(!decide c)=true then A else B:=by
 rw[decide_eq_true a]
 exact yO h
def zA (H H':Hp):Prop:=∀b o,H b=some o->H' b=some o
theorem zA.refl (H:Hp):zA H H:=fun _ _ h=>h
theorem zA.trans {H d e:Hp}(a:zA H d)(b:zA d e):zA H e:=fun c o h=>b c o (a c o h)
theorem zA.free {H a:Hp}(e:zA H a){l:ak}(h:a l=Option.none):H l=Option.none:=by
 cases q:H l with
 |none=>rfl
 |some o=>
  rw[e l o q]at h
  cases h
theorem zA.seq {K:ag}{H b:Hp}{a:ak}{xs:List V}(e:zA H b)(h:zZ K H a xs):zZ K b a xs:=by
 rcases h with(h|⟨o,h⟩)|h
 ·exact .inl (.inl (e _ _ h))
 ·exact .inl (.inr ⟨o,e _ _ h⟩)
 ·exact .inr h
end L2
end
section
namespace L2
open PySem
section
variable{env:Env}
theorem zDA:∀(l:List (Str×kc)) (d:List (Str×ak)),(∀x∈l,x.2=.free->∃c,env.cells.lookup x.1=some c)->(∀x c,d.lookup x=some c->env.cells.lookup x=some c)->
  ∃f,(forIn l d (fun x r=>if(x.2==NameKind.free)=true then do let a<-cellOf env x.1;pure (ForInStep.yield ((x.1,a)::r))else pure (ForInStep.yield r)):Sem (List (Str×ak)))=pure f/\
   (∀x c,f.lookup x=some c->env.cells.lookup x=some c)/\∀x,((x,NameKind.free)∈l\/∃c,d.lookup x=some c)->∃c,f.lookup x=some c
 | [],d,_,j=>⟨d,rfl,j,fun x h=>h.elim (fun z=>by cases z) id⟩
 |(n,k)::l,d,h,j=>by
  have hl:∀x∈l,x.2=.free->∃c,env.cells.lookup x.1=some c:=fun x b=>h x (aC _ b)
  rw[e7]
  by_cases m:k=.free
  ·subst m
   obtain⟨c,s⟩:=h (n,.free) (az ..) rfl
   obtain⟨f,e,o,p⟩:=zDA l ((n,c)::d) hl fun x q z=>by
    by_cases b:x=n
    ·subst b
     rw[iQ]at z
     cases z;exact s
    ·have g:(x==n)=false:=by simpa using b
     rw[bU,g]at z
     exact j x q z
   refine⟨f,?_,o,fun x b=>p x ?_⟩
   ·have t:cellOf env n=pure c:=by unfold cellOf;rw[s]
    simp only[beq_self_eq_true,if_true,t,pure_bind]
    exact e
   ·rcases b with b|⟨q,b⟩
    ·rcases aG.mp b with b|b
     ·have:x=n:=(bP b).1
      subst this
      exact .inr ⟨c,iQ⟩
     ·exact .inl b
    ·by_cases i:x=n
     ·subst i;exact .inr ⟨c,iQ⟩
     ·have g:(x==n)=false:=by simpa using i
      exact .inr ⟨q,by rw[bU,g];exact b⟩
  ·obtain⟨f,e,o,p⟩:=zDA l d hl j
   have hb:(k==NameKind.free)=false:=by simpa using m
   refine⟨f,?_,o,fun x b=>p x ?_⟩
   ·simp only[hb,eN,if_false,pure_bind]
    exact e
   ·rcases b with b|b
    ·rcases aG.mp b with b|b
     ·exact absurd (bP b).2.symm m
     ·exact .inl b
    ·exact .inr b
theorem zFz {scope:fX}(h:∀x∈scope.names,x.2=.free->∃c,env.cells.lookup x.1=some c) :
  ∃a,closureFor scope env=pure a/\(∀x c,a.lookup x=some c->env.cells.lookup x=some c)/\∀x,(x,NameKind.free)∈scope.names->∃c,a.lookup x=some c:=by
 obtain⟨a,e,b,d⟩:=zDA scope.names [] h (fun x c z=>by simp at z)
 refine⟨a,?_,b,fun x f=>d x (.inl f)⟩
 unfold closureFor
 dsimp only
 refine Eq.trans (congrArg (· >>=pure) ?_) (Eq.trans (congrArg (· >>=pure) e) (by simp))
 rfl
end
section
variable{prog:aJ}{w:aY}{A:bO}{R:qh->ao->Prop}{s:ao}
theorem zGA {a target iter:bJ}{b:List bJ}{scope:fX}{pos:Pos}{it d:aj}{env:Env}(J:Nat->ao->Prop)
  (e:∀n s,J n s->wpAny (model prog w) A (pyNext it) (fun r g=>match r with
   |none=>R (.ok .next) g
   |some v=>wpAny (model prog w) A (letOwnedTupleGo target it v) (fun _ j=>wpAny (model prog w) A (assign target env v) (fun _ l=>
     wpAny (model prog w) A (forIn b true fun c r=>if r=true then do let ok<-isTrue c env (eval c env);pure (ForInStep.yield ok)else pure (ForInStep.yield r)) (fun ok i=>
      if ok=true then wpAny (model prog w) A (eval a env) (fun x o=>wpAny (model prog w) A (call (.builtin "list.append") [d,x]) (fun _ p=>∃m,m<n/\J m p) (fun _ _=>False) o) (fun _ _=>False) i
      else∃m,m<n/\J m i) (fun _ _=>False) l) (fun _ _=>False) j) (fun _ _=>False) g) (fun _ _=>False) s)
  (n:Nat) (h:J n s):codeAny (model prog w) A (.compLoop (.ListComp a [⟨target,iter,b,0⟩] scope pos) 0 it d env) R s:=by
 refine codeAny_loop rfl J (fun n s z=>?_) n h
 show wpAny _ A ((compTurn (.ListComp a [⟨target,iter,b,0⟩] scope pos) 0 it d env).onRaise (fun x=>noteFrame x env>>=fun _=>theTreesLotGoes x)) _ _ s
 refine wpAny_noted ?_
 have no:∀{α:Type} {t:Sem α} {Q:α->ao->Prop} {E:aj->ao->Prop} {s:ao},wpAny (model prog w) A t Q (fun _ _=>False) s->wpAny (model prog w) A t Q E s:=fun h=>cy h (fun _ _ q=>q) fun _ _ f=>f.elim
 rw[compTurn_list]
 refine af (nS (af (no (cy (e n s z) (fun r g u=>?_) fun _ _ f=>f))))
 cases r with
 |none=>exact ar u
 |some v=>
  refine af (no (cy u (fun _ j B=>?_) fun _ _ f=>f))
  refine af (no (cy B (fun _ l C=>?_) fun _ _ f=>f))
  refine af (no (cy C (fun ok i y=>?_) fun _ _ f=>f))
  cases ok with
  |false=>exact ar ⟨rfl,y⟩
  |true=>
   refine af (af (no (cy y (fun x o D=>?_) fun _ _ f=>f)))
   exact af (no (cy D (fun _ p F=>ar (ar ⟨rfl,F⟩)) fun _ _ f=>f))
end
end L2
end
section
namespace L2
open PySem PySem.Spec PyProof.Rows
theorem yA.track {P:aJ}{w:aY}{H:Hp}{h:bE}{a:ak}{o:HO}(x:yA P w H h)(d:H a=none)(new:yS P w (upd H a o) h a o):yA P w (upd H a o) h:=fun b u e=>by
 by_cases hb:b=a
 ·subst hb;rw[zE]at e;cases e;exact new
 ·rw[zG hb]at e
  refine(x b u e).stay (fun c v _ q=>q) (fun c q=>?_) fun c xs q=>?_
  ·rw[zG (yG q d)];exact q
  ·rw[zG (yG q d)];exact q
theorem yA.but {P:aJ}{w:aY}{H:Hp}{h h':bE}{C:ak}(x:yA P w H h)(a:H C=none)(k:∀b u,b≠C->h.get? b=some u->h'.get? b=some u):yA P w H h':=fun b u e=>by
 refine(x b u e).stay (fun c v d q=>k c v ?_ q) (fun _ q=>q) fun _ _ q=>q
 rintro rfl
 rcases d with z|z
 ·rw[z,e]at a;cases a
 ·rw[z]at a;cases a
theorem zGB {env:Env}:∀{names:List (Str×kc)}{x:Str},names.lookup x=some .free->
  (names.map fun(n,k)=>if(k==NameKind.free&&env.scope.kind== .function&&env.kindOf n==some .cell)then(n,NameKind.cell)else(n,k)).lookup x=some .cell\/
  (names.map fun(n,k)=>if(k==NameKind.free&&env.scope.kind== .function&&env.kindOf n==some .cell)then(n,NameKind.cell)else(n,k)).lookup x=some .free
 | [],_,h=>by simp at h
 |(n,k)::r,x,h=>by
  rw[aR]
  cases a:x==n with
  |true=>
   rw[bU,a]at h
   cases h
   dsimp only
   split
   ·left;rw[bU,a]
   ·right;rw[bU,a]
  |false=>
   rw[bU,a]at h
   have ih:=zGB (env:=env) h
   dsimp only
   split
   ·rw[bU,a];exact ih
   ·rw[bU,a];exact ih
theorem zGC {env:Env}:∀{names:List (Str×kc)}{x:Str}{a:kc},(a=.cell\/a=.free)->
  (names.map fun(n,k)=>if(k==NameKind.free&&env.scope.kind== .function&&env.kindOf n==some .cell)then(n,NameKind.cell)else(n,k)).lookup x=some a->∃k,(x,k)∈names/\(k=.cell\/k=.free)
 | [],_,_,_,h=>by simp at h
 |(n,k)::r,x,a,c,h=>by
  rw[aR]at h
  cases b:x==n with
  |true=>
   have e:x=n:=by simpa using b
   subst e
   dsimp only at h
   split at h
   ·rename_i d
    have:k=.free:=by
     rw[aO,aO]at d
     simpa using d.1.1
    exact⟨k,az ..,.inr this⟩
   ·rw[bU,b]at h
    cases h
    exact⟨k,az ..,c⟩
  |false=>
   have h':(r.map fun(n,k)=>if(k==NameKind.free&&env.scope.kind== .function&&env.kindOf n==some .cell)then(n,NameKind.cell)else(n,k)).lookup x=some a:=by
    dsimp only at h
    split at h
    ·rw[bU,b]at h;exact h
    ·rw[bU,b]at h;exact h
   obtain⟨f,g,i⟩:=zGC (env:=env) c h'
   exact⟨f,aC _ g,i⟩
def vF (X:Cx)(N:List Str)(scope:fX)(cl:List (Str×ak))(C:ak)(s:ao)(H:Hp)(ex:List ak):Cx where
 prog:=X.prog
 w:=X.w
 K:=X.K
 mg:=X.mg
 base:=X.base
 A:=X.A
 N:=N
 s₀:=s
 H₀:=H
 env:=compEnvC scope cl C X.env
 outer:=X.stack
 stack:=X.stack
 ex:=ex
 fn:=fun _=>false
 calm:=X.calm
 pn:=[]
 xe:=fun _ _=>False
structure CompScope (sc:fX) (XN N:List Str) (scope:fX) (caps:List Nat):Prop where
 kind:scope.kind=.function
 nd:N.Nodup
 nocell:∀y∈scope.names,y.2≠.cell
 names:∀y∈scope.names,y.2=.local->scope.names.lookup y.1=some .local
 free:∀y∈scope.names,y.2=.free->sc.names.lookup y.1=some .cell\/sc.names.lookup y.1=some .free
 cap:∀(i:Nat),i<caps.length->∃x,N[i]?=some x/\XN[caps.getD i 0]?=some x/\scope.names.lookup x=some .free/\(sc.names.lookup x=some .cell\/sc.names.lookup x=some .free)
 len:caps.length<=N.length
def uX (caps:List Nat)(n:Nat)(σ:St):St:=caps.map (fun j=>(σ[j]?).join)++bh (n-caps.length) none
def PF (X:Cx)(ifs:List bJ)(tc:TT):Prop :=
 ∀(pins:List (ak×Obj)) (s:ao) (σ:St) (H:Hp) (Q:Bool->Hp->Prop),Inv X pins σ H s->tc σ H Q->
  wpAny (model X.prog X.w) X.A (forIn ifs true fun c r=>if r=true then do let ok<-isTrue c X.env (eval c X.env);pure (ForInStep.yield ok)else pure (ForInStep.yield r)) (TP X pins σ Q) X.xe s
def g9:TT:=fun _ H Q=>Q true H
theorem qP {X:Cx}:PF X [] g9:=fun a s σ H Q I h=>by
 rw[fE]
 exact ar ⟨H,I,h⟩
theorem zBi {X:Cx}{c:bJ}{b:TT}(d:PT X c b):PF X [c] b:=fun a s σ H Q I h=>by
 rw[e7]
 refine af ?_
 rw[if_pos rfl]
 refine af (zI (d a s σ H Q I h) fun ok e q=>ar ?_)
 show wpAny _ _ (forIn [] ok _) _ _ _
 rw[fE]
 exact ar q
def zGD (wi:TI)(g:TG)(tc:TT)(te:TE)(caps:List Nat)(n:Nat):TE:=fun σ H Q=>wi σ H fun J H1=>∃W:Nat->Nat->List V->St->Hp->Prop,(∃m,W 0 m [] (uX caps n σ) H1)/\∀i m acc σ' H',W i m acc σ' H'->
 (J.stop i H'/\∀D,H' D=none->Q (.ref D) (upd H' D (.lst acc)))\/
 (J.go i H'/\acc.length<sizeLine/\∀x H2,J.yld i H' x H2->g x σ' H2 fun σ2 H3=>tc σ2 H3 fun b H4=>if b=true then te σ2 H4 fun y H5=>∃m',m'<m/\W (i+1) m' (acc++[y]) σ2 H5 else∃m',m'<m/\W (i+1) m' acc σ2 H4)
section
variable{X:Cx}{pins:List (ak×Obj)}{σ:St}{H:Hp}{s:ao}{N:List Str}{scope:fX}{cl:List (Str×ak)}{C:ak}{fp:List ak}{caps:List Nat}
theorem zGE (I:Inv X pins σ H s)(S:CompScope X.env.scope X.N N scope caps)(f:∀x c,cl.lookup x=some c->X.env.cells.lookup x=some c)(j:∀x,(x,NameKind.free)∈scope.names->∃c,cl.lookup x=some c)
  (i:s.heap.objs.size<=C) (hf:∀b∈fp,uT X pins H b) (g:∀b∈fp,b<s.heap.objs.size):(vF X N scope cl C s H fp).Ok where
 mod:=I.ok.mod
 kind:=S.kind
 glob:=I.ok.glob
 blt:=I.ok.blt
 above:=i
 inj:=fun x y c a b=>I.ok.inj x y c (f x c a) (f y c b)
 has:=fun x l=>by
  have h:∃d,(d=NameKind.cell\/d=.free)/\(relabel scope X.env).names.lookup x=some d:=by
   rcases l with z|z
   ·exact⟨_,.inl rfl,z⟩
   ·exact⟨_,.inr rfl,z⟩
  obtain⟨d,n,z⟩:=h
  obtain⟨k,m,e⟩:=zGC n z
  rcases e with e|e
  ·exact absurd e (S.nocell _ m)
  ·subst e;exact j x m
 cab:=fun x c z=>by cases z
 hd:=I.ok.hd
 frames:=I.ok.frames
 stk:=.inl rfl
 exf:=fun b hb=>by
  obtain⟨_,_,_,_,p,_⟩:=hf b hb
  exact⟨bc (bu (g b hb) i),fun x c e=>p x c (f x c e)⟩
 bs:=I.bs
 bsz:=bR I.ok.bsz I.sz
 noex:=fun b o e hb=>by
  obtain⟨_,_,_,q,_⟩:=hf b hb
  rcases q with z|z
  ·exact I.ok.noex b o e z
  ·exact absurd (bu (aE e) (bR I.ok.bsz z)) (bH _)
 exfs:=fun b hb z=>by
  obtain⟨_,f1,f2,_⟩:=hf b hb
  rcases aG.mp (I.stkSub b z)with e|e
  ·exact f1 e
  ·exact f2 e
 funs:=I.stack
 frf:=I.stkFree
theorem zGF {j:bE}{D:ak}{od:Obj}{t:Nat}{m:Str->Option aj}(I:Inv X pins σ H s)(ok:(vF X N scope cl C s H fp).Ok)(S:CompScope X.env.scope X.N N scope caps)
  (g:∀x c,cl.lookup x=some c->X.env.cells.lookup x=some c) (n:∀x,(x,NameKind.free)∈scope.names->∃c,cl.lookup x=some c)
  (keep:∀b o,s.heap.get? b=some o->j.get? b=some o) (P:j.Ns C m) (Q:s.heap.objs.size<=C) (R:j.get? D=some od) (w:s.heap.objs.size<=D) (B:D≠C) (E:∀v,od.data≠.cell v) :
  Inv (vF X N scope cl C s H fp) [(D,od)] (uX caps N.length σ) H {s with heap:=j,toks:=t}:=by
 have a:∀x c,cl.lookup x=some c->∀v,s.heap.IsCell c v->j.IsCell c v:=fun x c e v ⟨o,F,hd⟩=>⟨o,keep c o F,hd⟩
 refine⟨ok,rfl,I.bare,Un.kept keep,⟨m,P,fun i x v e1 f e3=>?_⟩,fun x c e=>?_,I.hok.fresh Q,fun x c e=>I.freeC x c (g x c e),fun p T=>?_,I.hok.kept keep,?_⟩
 ·have hi:i<caps.length:=by
   by_cases hi:i<caps.length
   ·exact hi
   ·exfalso
    unfold uX at f
    rw[aP (by simpa using hi),lO]at f
    split at f<;>cases f
  obtain⟨y,U,W,L,M⟩:=S.cap i hi
  have G:x=y:=by
   have A:N[i]?=some x:=e1
   rw[U]at A;exact(aD A).symm
  subst G
  have Y:σ[caps.getD i 0]?=some (some v):=by
   unfold uX at f
   rw[aT (by simpa using hi),aw]at f
   have:caps[i]?=some (caps.getD i 0):=by rw[bK];simp[hi]
   rw[this]at f
   have d:(σ[caps.getD i 0]?).join=some v:=by simpa using f
   cases q:σ[caps.getD i 0]? with
   |none=>rw[q]at d;cases d
   |some z=>rw[q]at d;have:z=some v:=d;rw[this]
  obtain⟨m',_,hl⟩:=I.loc
  obtain⟨u,r,l⟩:=hl _ x v W Y (M.elim (fun z=>.inr (.inl z)) fun z=>.inr (.inr z))
  refine⟨u,r,?_⟩
  have nl:X.env.kindOf x≠some .local:=by
   rcases M with z|z
   ·show X.env.scope.names.lookup x≠_;rw[z];decide
   ·show X.env.scope.names.lookup x≠_;rw[z];decide
  rcases l with⟨k,_⟩|⟨_,c,Z,z⟩
  ·exact absurd k nl
  ·obtain⟨O,h⟩:=n x (eA L)
   have:c=O:=aD (Z.symm.trans (g x O h))
   subst this
   refine .inr ⟨?_,c,h,a x c h _ z⟩
   exact zGB (env:=X.env) L
 ·obtain⟨v,z⟩:=I.cell x c (g x c e)
  exact⟨v,a x c e v z⟩
 ·have:p=(D,od):=by
   have J:p∈[(D,od)]:=T
   simpa using J
  subst this
  refine⟨R,I.hok.fresh w,B,fun z=>?_,E⟩
  have z':D∈uN X.stack:=z
  obtain⟨_,o,F,_⟩:=I.stack.mem z'
  exact absurd (bu (aE F) w) (bH _)
 ·unfold uX
  show _=N.length
  rw[au,ah,dQ]
  have:=S.len
  omega
end
section
variable{X:Cx}
theorem uY {tg iter elt:bJ}{ifs:List bJ}{scope:fX}{pos:Pos}{wi:TI}{g:TG}{tc:TT}{te:TE}{N:List Str}{caps:List Nat}(hc:X.calm=true)(S:CompScope X.env.scope X.N N scope caps)
  (hi:PI X tg iter wi) (hg:∀cl C s H ex,PG (vF X N scope cl C s H ex) tg g) (hf:∀cl C s H ex,PF (vF X N scope cl C s H ex) ifs tc) (he:∀cl C s H ex,PE (vF X N scope cl C s H ex) elt te)
  (hs:∀x,foldedSetIterable iter X.env x=pure x:=by intro _;rfl):PE X (.ListComp elt [⟨tg,iter,ifs,0⟩] scope pos) (zGD wi g tc te caps N.length):=by
 intro pins s σ H Q I h
 obtain⟨cl,hcl,hcl1,hcl2⟩:=zFz (env:=X.env) (scope:=scope) fun y hy e=>I.ok.has y.1 (S.free y hy e)
 rw[eval_ListComp]
 refine lI (use:=none) rfl hs hcl S.kind S.names (zI (hi pins s σ H _ I h) fun v s1 h1=>zI h1 fun itv s2 h2=>?_)
 obtain⟨it,fp,tn,J,H2,e,I2,T,st2,f2,W,⟨m0,w0⟩,turn⟩:=h2
 subst e
 refine cj (jd S.nocell (by intro y hy;simp at hy) (fun h₁ hns hsb=>?_) S.kind)
 dsimp only at hns hsb⊢
 generalize hG:s2.heap.push {cls:=.type "list",dict:=none,data:=.seq ([]:List aj).toArray}=G at hns hsb⊢
 have hCs:G.objs.size=s2.heap.objs.size+1:=by rw[<-hG,bF]
 have hDC:s2.heap.objs.size≠G.objs.size:=by rw[hCs];exact bc (dB _)
 have old:∀b o,s2.heap.get? b=some o->h₁.get? b=some o:=fun b o e=>by
  have hb:=aE e
  refine hsb.extBut b o (by rw[hCs];exact bc (bV hb)) (ae _ ?_)
  rw[<-hG]
  exact ae _ e
 have hD:h₁.get? s2.heap.objs.size=some {cls:=.type "list",dict:=none,data:=.seq ([]:List aj).toArray}:=by
  refine hsb.extBut _ _ hDC (ae _ ?_)
  rw[<-hG]
  exact aA _ rfl
 have hfo:∀b∈fp,b<s2.heap.objs.size:=fun b hb=>let⟨o,e,_⟩:=T.obj 0 _ st2 b hb;aE e
 have hCle:s2.heap.objs.size<=G.objs.size:=by omega
 have ok:=zGE (C:=G.objs.size) I2 S hcl1 hcl2 hCle f2 hfo
 have I0:Inv (vF X N scope cl G.objs.size s2 H2 fp) [(s2.heap.objs.size,{cls:=.type "list",dict:=none,data:=.seq ([]:List aj).toArray})] (uX caps N.length σ) H2 {s2 with heap:=h₁,toks:=s2.toks+([]:List (Str×aj)).length} :=
  zGF I2 ok S hcl1 hcl2 old hns hCle hD (ay _) hDC (fun v z=>by cases z)
 have st1:tn 0 h₁:=T.keep 0 _ _ st2 fun b _ o e=>old b o e
 generalize hX:vF X N scope cl G.objs.size s2 H2 fp=X' at I0
 generalize hDa:s2.heap.objs.size=D at I0 hD hDC
 have loop:codeAny (model X.prog X.w) X.A (.compLoop (.ListComp elt [⟨tg,iter,ifs,0⟩] scope pos) 0 (.ref it) (.ref D) (compEnvC scope cl G.objs.size X.env)) (compPost (model X.prog X.w) X.A X.xe none (EP X pins σ Q) (.ref D) G.objs.size)
   {s2 with heap:=h₁,toks:=s2.toks+([]:List (Str×aj)).length}:=by
  subst hX
  refine zGA (J:=fun n s'=>∃i σ' H' acc its e,Inv (vF X N scope cl G.objs.size s2 H2 fp) [(D,{cls:=.type "list",data:=.seq (gs its) e})] σ' H' s'/\zL acc its/\acc.length<=sizeLine/\tn i s'.heap/\(∀b∈fp,H' b=none)/\W i n acc σ' H')
   ?_ m0 ⟨0,_,H2,[],[],0,I0,.nil,bp _,st1,fun b hb=>(f2 b hb).1,w0⟩
  rintro n s3 ⟨i,σ3,H3,acc,its,ep,I3,rv,hz,st3,fr3,w3⟩
  have stat:∀{H':Hp} {pl:List (ak×Obj)},(∀b∈fp,H' b=none)->(∀p∈pl,p.1=D)->∀b∈fp,uT (vF X N scope cl G.objs.size s2 H2 fp) pl H' b:=fun{H' pl} hn hpl b hb=>by
   obtain⟨a1,a2⟩:=ok.exf b hb
   exact⟨hn b hb,a1,ok.exfs b hb,.inl hb,fun x c e=>a2 x c e,fun p hp=>by
    have hp':p∈pl:=hp
    rw[hpl p hp',<-hDa]
    exact cS (hfo b hb)⟩
  have one:∀p∈[(D,({cls:=.type "list",data:=.seq (gs its) ep}:Obj))],p.1=D:=fun p hp=>by
   rcases aG.mp hp with e|e
   ·rw[e]
   ·cases e
  have pinD:∀{pl:List (ak×Obj)} {σ':St} {H':Hp} {s':ao} {o:Obj},Inv (vF X N scope cl G.objs.size s2 H2 fp) pl σ' H' s'->(D,o)∈pl->s'.heap.get? D=some o/\H' D=none:=fun{pl σ' H' s' o} I' hm=>by
   obtain⟨a,b,_⟩:=I'.pin (D,o) (aX _ hm)
   exact⟨a,b⟩
  rcases turn i n acc σ3 H3 w3 with⟨stop,q⟩|⟨go,hlt,step⟩
  ·refine cy (T.done (vF X N scope cl G.objs.size s2 H2 fp) rfl rfl rfl hc i _ s3 σ3 H3 (fun _ _=>False) I3 (stat fr3 one) st3 stop) (fun r s4 ⟨hr,I4⟩=>?_) fun _ _ f=>f
   subst hr
   obtain⟨hDo,hDn⟩:=pinD I4 (az ..)
   obtain⟨m4,hm4,_⟩:=I4.loc
   refine⟨m4,hm4,fun h' hsb'=>?_⟩
   have keepC:∀b u,b≠G.objs.size->s4.heap.get? b=some u->h'.get? b=some u:=fun b u hb e=>hsb'.extBut b u hb e
   have un:Un (uN X.stack) fp H2 H3 s2.heap s4.heap:=I4.base
   have hDo':h'.get? D=some {cls:=.type "list",data:=.seq (gs its) ep}:=keepC D _ hDC hDo
   have hlow:∀b (o:Obj),s2.heap.get? b=some o->b≠G.objs.size/\b≠D:=fun b o e=>by
    have h0:=aE e
    exact⟨by rw[hCs];exact bc (bV h0),by rw[<-hDa];exact bc h0⟩
   have un':Un (uN X.stack) fp H2 (upd H3 D (.lst acc)) s2.heap h' :=
    ⟨fun b o e n' hb hx=>keepC b o (hlow b o e).1 (un.keep b o e n' hb hx),
     fun b o e n' hb hx=>let⟨sl,q⟩:=un.slot b o e n' hb hx;⟨sl,keepC b _ (hlow b o e).1 q⟩,
     fun b o e n' hx=>by rw[zG (hlow b o e).2];exact un.free b o e n' hx,
     fun b o e hx=>let⟨o',q⟩:=un.there b o e hx;⟨o',keepC b _ (hlow b o e).1 q⟩,
     fun b xs e=>by rw[zG (yG (un.tups b xs e) hDn)];exact un.tups b xs e,
     fun b o u e=>by rw[zG (yG (un.frzs b o u e) hDn)];exact un.frzs b o u e,
     fun b ps e=>let⟨mo,q⟩:=un.tbls b ps e;⟨mo,by rw[zG (yG q hDn)];exact q⟩⟩
   have hok:yA X.prog X.w (upd H3 D (.lst acc)) h':=(I4.hok.but I4.free keepC).track hDn ⟨hz,its,ep,rv,hDo'⟩
   refine⟨.ref D,upd H3 D (.lst acc),I2.call' (s':={s4 with heap:=h'}) I4.os un' hok I4.bare (fun b hb=>?_),rfl,q D hDn⟩
   obtain⟨_,f1,_,f3,f4,f5⟩:=f2 b hb
   exact⟨f3,f1,f4,f5⟩
  ·refine cy (T.item (vF X N scope cl G.objs.size s2 H2 fp) rfl rfl rfl hc i _ s3 σ3 H3 (fun _ _=>False) I3 (stat fr3 one) st3 go) (fun r s4 ⟨u,hr,h4⟩=>?_) fun _ _ f=>f
   subst hr
   refine zI h4 fun _ s5 ⟨x,H5,I5,r5,y5,st5,fr5⟩=>?_
   have I5':=I5.pinned (stat fr5 one) (T.obj _ _ st5)
   refine zI (hg cl G.objs.size s2 H2 fp _ s5 σ3 H5 x u _ I5' r5 (step x H5 y5)) fun _ s6 ⟨σ6,H6,I6,q6⟩=>?_
   refine zI (hf cl G.objs.size s2 H2 fp _ s6 σ6 H6 _ I6 q6) fun b s7 ⟨H7,I7,q7⟩=>?_
   have fin:∀{pl:List (ak×Obj)} {σ':St} {H':Hp} {s':ao},Inv (vF X N scope cl G.objs.size s2 H2 fp) (pl++zAV fp s5.heap) σ' H' s'->tn (i+1) s'.heap/\∀b∈fp,H' b=none:=fun{pl σ' H' s'} I'=>by
    refine⟨T.keep _ _ _ st5 fun b hb o e=>(I'.pin (b,o) (aX _ (aX _ (gU hb e)))).1,fun b hb=>?_⟩
    obtain⟨o,e,_⟩:=T.obj _ _ st5 b hb
    exact(I'.pin (b,o) (aX _ (aX _ (gU hb e)))).2.1
   cases b with
   |false=>
    rw[if_neg aV]at q7⊢
    obtain⟨m',hm,w7⟩:=q7
    obtain⟨a1,a2⟩:=fin I7
    exact⟨m',hm,i+1,σ6,H7,acc,its,ep,I7.unpinned,rv,hz,a1,a2,w7⟩
   |true=>
    rw[if_pos rfl]at q7⊢
    refine zI (he cl G.objs.size s2 H2 fp _ s7 σ6 H7 _ I7 q7) fun y s8 ⟨yv,H8,I8,r8,m',hm,w8⟩=>?_
    obtain⟨a1,a2⟩:=fin I8
    obtain⟨b1,b2⟩:=pinD I8 (cb _ (az ..))
    have hl:=rv.length
    refine iW ki ⟨_,b1,rfl⟩ jr (jc _ _) (lz D its.toArray ep y (by rw[aH];omega)) ⟨b1,?_⟩
    have q9:=lR b1 (·.push y)
    have kp:∀b o,b≠D->s8.heap.get? b=some o->(s8.heap.update D (bN (·.push y))).get? b=some o:=fun b o hb e=>(bA s8.heap (bN (·.push y)) (d5 hb)).trans e
    have I9:Inv (vF X N scope cl G.objs.size s2 H2 fp) [] σ6 H8 {s8 with heap:=s8.heap.update D (bN (·.push y))} :=
     (I8.pins_of (pins':=[]) fun p hp=>by cases hp).turned (t':=s8.toks) kp b2 hDC (.inr (by rw[<-hDa];exact ay _)) (fun x c e z=>by
      have e':X.env.cells.lookup x=some c:=hcl1 x c e
      obtain⟨v',hv'⟩:=I2.cell x c e'
      have h0:=hv'.lt
      rw[z,<-hDa]at h0
      exact bH _ h0) fun p hp=>by
       have:p∈([]:List (ak×Obj)):=hp
       cases this
    have hpu:its.toArray.push y=(its++[y]).toArray:=by simp
    rw[hpu]at q9
    obtain⟨e9,q9⟩:∃e9,(s8.heap.update D (bN (·.push y))).get? D=some {cls:=.type "list",data:=.seq (its++[y]).toArray e9}:=⟨_,q9⟩
    refine⟨m',hm,i+1,σ6,H8,acc++[yv],its++[y],e9,I9.pins_of fun p hp=>?_,rv.append (.cons r8 .nil),?_,T.keep _ _ _ a1 fun b hb o e=>kp b o ?_ e,a2,w8⟩
    ·obtain rfl:p=(D,{cls:=.type "list",data:=.seq (its++[y]).toArray e9}):=by
      rcases aG.mp hp with e|e
      ·exact e
      ·cases e
     obtain⟨_,_,c3,c4,_⟩:=I8.pin (D,_) (aX _ (cb _ (az ..)))
     exact⟨q9,b2,c3,c4,fun v z=>by cases z⟩
    ·rw[au,br];omega
    ·rintro rfl
     have h0:=hfo b hb
     rw[hDa]at h0
     exact bH _ h0
 exact mB loop (T.self X.A 0 _ _ _ st1 loop)
end
theorem zA.seqT {K:ag}{H b:Hp}{a:ak}{xs:List V}(e:zA H b)(h:zY K H a xs):zY K b a xs:=by
 rcases h with(h|⟨o,h⟩)|h
 ·exact .inl (.inl (e _ _ h))
 ·exact .inl (.inr ⟨o,e _ _ h⟩)
 ·exact .inr h
mutual
def vN (K:ag)(H:Hp):bG->V->Prop
 | .none,v=>v=.non
 | .bool b,v=>v=.bl b
 | .int i,v=>v=.int i
 | .str x,v=>v=.str x
 | .list ds,v=>∃a xs,v=.ref a/\zZ K H a xs/\Reps K H ds xs
 | .tuple ds,v=>∃a xs,v=.ref a/\zY K H a xs/\Reps K H ds xs
 | .dict _,_=>False
def Reps (K:ag)(H:Hp):List bG->List V->Prop
 | [],xs=>xs=[]
 |d::ds,xs=>∃y ys,xs=y::ys/\vN K H d y/\Reps K H ds ys
end
mutual
theorem vN.same {K:ag}{H l:Hp}(e:zA H l):∀(d:bG) (v:V),vN K H d v->vN K l d v
 | .none,v,h=>h
 | .bool b,v,h=>h
 | .int i,v,h=>h
 | .str x,v,h=>h
 | .list c,v,h=>by
  obtain⟨a,xs,f,g,j⟩:=h
  exact⟨a,xs,f,e.seq g,Reps.same e c xs j⟩
 | .tuple c,v,h=>by
  obtain⟨a,xs,f,g,j⟩:=h
  exact⟨a,xs,f,e.seqT g,Reps.same e c xs j⟩
 | .dict _,v,h=>h
theorem Reps.same {K:ag}{H b:Hp}(e:zA H b):∀(a:List bG) (xs:List V),Reps K H a xs->Reps K b a xs
 | [],xs,h=>h
 |d::a,xs,h=>by
  obtain⟨y,ys,c,f,g⟩:=h
  exact⟨y,ys,c,vN.same e d y f,Reps.same e a ys g⟩
end
theorem Reps.length {K:ag}{H:Hp}:∀{a:List bG}{xs:List V},Reps K H a xs->a.length=xs.length
 | [],xs,h=>by rw[show xs=[]from h];rfl
 |d::a,xs,h=>by
  obtain⟨y,ys,b,_,c⟩:=h
  rw[b,aM,aM,Reps.length c]
theorem Reps.get {K:ag}{H:Hp}:∀{a:List bG}{xs:List V}{i:Nat}{y:V},Reps K H a xs->xs[i]?=some y->∃d,a[i]?=some d/\vN K H d y
 | [],xs,i,y,h,e=>by rw[show xs=[]from h]at e;simp at e
 |d::a,xs,i,y,h,e=>by
  obtain⟨z,j,b,c,f⟩:=h
  subst b
  cases i with
  |zero=>
   have:z=y:=by simpa using e
   subst this
   exact⟨d,rfl,c⟩
  |succ i=>
   obtain⟨d',e1,g⟩:=Reps.get (i:=i) f (by simpa using e)
   exact⟨d',by simpa using e1,g⟩
theorem Reps.append {K:ag}{H:Hp}:∀{b a:List bG}{xs ys:List V},Reps K H b xs->Reps K H a ys->Reps K H (b++a) (xs++ys)
 | [],a,xs,ys,h,h'=>by rw[show xs=[]from h];exact h'
 |d::b,a,xs,ys,h,h'=>by
  obtain⟨z,c,e,f,g⟩:=h
  subst e
  exact⟨z,c++ys,rfl,f,Reps.append g h'⟩
theorem Reps.one {K:ag}{H:Hp}{d:bG}{v:V}(h:vN K H d v):Reps K H [d] [v]:=⟨v,[],rfl,h,rfl⟩
theorem Reps.strs {K:ag}{H:Hp}:∀{ss:List Str}{xs:List V},Reps K H (ss.map PyData.str) xs↔xs=ss.map V.str
 | [],xs=>ub
 |s::ss,xs=>by
  constructor
  ·rintro⟨y,ys,b,c,d⟩
   have a:y=.str s:=c
   rw[b,a,Reps.strs.mp d];rfl
  ·intro e
   exact⟨.str s,ss.map V.str,e,rfl,Reps.strs.mpr rfl⟩
section
variable{X:Cx}{pins:List (ak×Obj)}{σ:St}{H:Hp}{s:ao}
mutual
theorem vN.reads (I:Inv X pins σ H s):∀(d:bG) (v:V) (u:aj),vN X.K H d v->zR v u->∃as,Reads s.heap u d as
 | .none,v,u,h,r=>by
  have h':v=.non:=h
  subst h'
  cases r
  exact⟨_,.none⟩
 | .bool b,v,u,h,r=>by
  have h':v=.bl b:=h
  subst h'
  cases r
  exact⟨_,.bool b⟩
 | .int i,v,u,h,r=>by
  have h':v=.int i:=h
  subst h'
  obtain⟨t,rfl⟩:=r
  exact⟨_,.int i t⟩
 | .str x,v,u,h,r=>by
  have h':v=.str x:=h
  subst h'
  obtain⟨t,rfl⟩:=r
  exact⟨_,.str x t⟩
 | .list c,v,u,h,r=>by
  obtain⟨a,xs,f,g,j⟩:=h
  subst f
  cases r
  obtain⟨its,l,⟨o,n,e,m,_,hd⟩,_⟩:=I.list g
  obtain⟨as,p⟩:=Reps.reads I c xs its j l
  exact⟨_,.list e m hd (by simpa using p)⟩
 | .tuple c,v,u,h,r=>by
  obtain⟨a,xs,f,g,j⟩:=h
  subst f
  cases r
  obtain⟨its,l,⟨o,e,m,n,hd⟩,_⟩:=I.tuple g
  obtain⟨as,p⟩:=Reps.reads I c xs its j l
  exact⟨_,.tuple e m hd (by simpa using p)⟩
 | .dict _,v,u,h,r=>h.elim
theorem Reps.reads (I:Inv X pins σ H s):∀(a:List bG) (xs:List V) (b:List aj),Reps X.K H a xs->zL xs b->∃as,ReadsAll s.heap b a as
 | [],xs,b,h,r=>by
  have h':xs=[]:=h
  subst h'
  cases r
  exact⟨_,.nil⟩
 |d::a,xs,b,h,r=>by
  obtain⟨y,ys,c,e,f⟩:=h
  subst c
  cases r with
  |cons g i=>
   obtain⟨as,j⟩:=vN.reads I d y _ e g
   obtain⟨bs,l⟩:=Reps.reads I a ys _ f i
   exact⟨_,.cons j l⟩
end
def zGG (K:ag)(neg:Bool):R2:=fun x y H Q=>∃d e,vN K H d x/\vN K H e y/\dA d=true/\dA e=true/\Q (.bl (if neg=true then !PyData.eqv d e else dX d e)) H
theorem zDB (a:X.A.units+64<cLine):yI X (compareOp .Eq) (zGG X.K false):=by
 intro pins s σ H x y v u Q I b c h
 obtain⟨d,e,f,g,i,j,q⟩:=h
 obtain⟨as,l⟩:=vN.reads I d x v f b
 obtain⟨bs,m⟩:=vN.reads I e y u g c
 exact eq_dataH l m i j a ⟨.bl _,H,I,rfl,q⟩
theorem zBj (a:X.A.units+64<cLine):yI X (compareOp .NotEq) (zGG X.K true):=by
 intro pins s σ H x y v u Q I b c h
 obtain⟨d,e,f,g,i,j,q⟩:=h
 obtain⟨as,l⟩:=vN.reads I d x v f b
 obtain⟨bs,m⟩:=vN.reads I e y u g c
 exact ne_dataH l m i j a ⟨.bl _,H,I,rfl,q⟩
end
mutual
theorem zGH:∀d:bG,d.canLay0=true->dX d d=true
 | .none,_=>rfl
 | .bool b,_=>by simp[dX]
 | .int i,_=>by simp[dX]
 | .str x,_=>by simp[dX]
 | .list a,h=>by
  have h':cC a=true:=by simpa [d7]using h
  simp only[dX];exact eqvAll_refl a h'
 | .tuple a,h=>by
  have h':cC a=true:=by simpa [d7]using h
  simp only[dX];exact eqvAll_refl a h'
 | .dict _,h=>by simp[d7]at h
theorem eqvAll_refl:∀a:List bG,cC a=true->rW a a=true
 | [],_=>rfl
 |d::a,h=>by
  have h':d.canLay0=true/\cC a=true:=by simpa [cC]using h
  simp only[rW,zGH d h'.1,eqvAll_refl a h'.2,eG]
end
end L2
end
section
open PySem PySem.W PyProof.Rows
namespace MyS
def ev {α:Type}(lt:Nat->Nat->Bool):KasT α->α
 | .ret a=>a
 | .ask i j k=>ev lt (k (lt i j))
theorem zAd {α β:Type}(lt:Nat->Nat->Bool)(f:α->KasT β):∀t:KasT α,ev lt (t.bind f)=ev lt (f (ev lt t))
 | .ret _=>rfl
 | .ask i j k=>zAd lt f (k (lt i j))
def vO {α:Type}(lt:Nat->Nat->Bool)(N:Nat):KasT α->Prop
 | .ret _=>True
 | .ask i j k=>i<N/\j<N/\i≠j/\vO lt N (k (lt i j))
theorem zAe {α β:Type}{lt:Nat->Nat->Bool}{N:Nat}{f:α->KasT β}:∀(t:KasT α),vO lt N t->vO lt N (f (ev lt t))->vO lt N (t.bind f)
 | .ret _,_,h=>h
 | .ask i j k,h,h'=>⟨h.1,h.2.1,h.2.2.1,zAe (k (lt i j)) h.2.2.2 h'⟩
structure TotalOn (lt:Nat->Nat->Bool) (n:Nat):Prop where
 irr:∀i,i<n->lt i i=false
 tr:∀i j k,i<n->j<n->k<n->lt i j=true->lt j k=true->lt i k=true
 tot:∀i j,i<n->j<n->i≠j->lt i j=true\/lt j i=true
abbrev gg (p:Array Nat)(i:Nat):Nat:=p.getD i 0
def Pm (p:Array Nat)(n:Nat):Prop:=p.toList.Perm (bC n)
theorem Pm.size {p:Array Nat}{n:Nat}(h:Pm p n):p.size=n:=by
 have:=tT h
 simpa using this
theorem zAA {p:Array Nat}{i:Nat}(h:i<p.size):gg p i=p[i]:=by simp[gg,Array.getD,h]
theorem Pm.lt {p:Array Nat}{n i:Nat}(h:Pm p n)(hi:i<n):gg p i<n:=by
 have a:i<p.size:=by rw[h.size];exact hi
 have b:p[i]∈bC n:=(uc h).mp (by simp)
 rw[zAA a]
 exact bI.mp b
theorem Pm.ne {p:Array Nat}{n i j:Nat}(h:Pm p n)(hi:i<n)(d:j<n)(c:i≠j):gg p i≠gg p j:=by
 have a:i<p.size:=by rw[h.size];exact hi
 have b:j<p.size:=by rw[h.size];exact d
 have nd:p.toList.Nodup:=(tU h).mpr pj
 rw[zAA a,zAA b]
 intro e
 apply c
 have f:p.toList[i]'(by simpa using a)=p.toList[j]'(by simpa using b):=by simpa using e
 exact(dU nd).mp f
theorem Pm.perm {p q:Array Nat}{n:Nat}(h:Pm p n)(e:q.Perm p):Pm q n:=(Array.perm_iff_toList_perm.mp e).trans h
def Up (lt:Nat->Nat->Bool)(p:Array Nat)(k:Nat):Prop:=∀i j,i<j->j<k->lt (gg p i) (gg p j)=true
def Dn (lt:Nat->Nat->Bool)(p:Array Nat)(k:Nat):Prop:=∀i j,i<j->j<k->lt (gg p j) (gg p i)=true
section
variable{lt:Nat->Nat->Bool}{N:Nat}{p:Array Nat}
theorem TotalOn.flip (O:TotalOn lt N){i j:Nat}(hi:i<N)(b:j<N)(a:i≠j)(h:lt i j=false):lt j i=true:=by
 rcases O.tot i j hi b a with h'|h'
 ·rw[h]at h';cases h'
 ·exact h'
theorem Up.more (O:TotalOn lt N)(P:Pm p N){n:Nat}(d:1<=n)(b:n<N)(u:Up lt p n)(h:lt (gg p (n-1)) (gg p n)=true):Up lt p (n+1):=by
 intro i j a f
 by_cases e:j=n
 ·subst e
  by_cases c:i=j-1
  ·subst c;exact h
  ·exact O.tr _ _ _ (P.lt (by omega)) (P.lt (by omega)) (P.lt b) (u i (j-1) (by omega) (by omega)) h
 ·exact u i j a (by omega)
theorem Dn.more (O:TotalOn lt N)(P:Pm p N){n:Nat}(d:1<=n)(b:n<N)(u:Dn lt p n)(h:lt (gg p n) (gg p (n-1))=true):Dn lt p (n+1):=by
 intro i j a f
 by_cases e:j=n
 ·subst e
  by_cases c:i=j-1
  ·subst c;exact h
  ·exact O.tr _ _ _ (P.lt b) (P.lt (by omega)) (P.lt (by omega)) h (u i (j-1) (by omega) (by omega))
 ·exact u i j a (by omega)
theorem zGI:Up lt p 1:=fun i j a b=>by omega
theorem zBk (O:TotalOn lt N)(P:Pm p N):∀(f n:Nat),1<=n->n+f<=N->Up lt p n->
  n<=ev lt (iG p f n)/\ev lt (iG p f n)<=n+f/\Up lt p (ev lt (iG p f n))/\(ev lt (iG p f n)<n+f->lt (gg p (ev lt (iG p f n))) (gg p (ev lt (iG p f n)-1))=true)
 |0,n,_,_,u=>⟨ay _,ay _,u,fun h=>absurd h (bH _)⟩
 |f+1,n,a,i,u=>by
  have e:ev lt (iG p (f+1) n)=ev lt (if lt (gg p n) (gg p (n-1))=true then KasT.ret n else iG p f (n+1)):=rfl
  rw[e]
  cases c:lt (gg p n) (gg p (n-1))with
  |true=>
   rw[if_pos rfl]
   exact⟨ay _,Nat.le_add_right _ _,u,fun _=>c⟩
  |false=>
   rw[if_neg (by simp)]
   have b:=O.flip (P.lt (by omega)) (P.lt (by omega)) (P.ne (by omega) (by omega) (by omega)) c
   obtain⟨j,l,d,g⟩:=zBk O P f (n+1) (by omega) (by omega) (u.more O P a (by omega) b)
   exact⟨by omega,by omega,d,fun h=>g (by omega)⟩
theorem zDC (P:Pm p N):∀(f n:Nat),1<=n->n+f<=N->vO lt N (iG p f n)
 |0,n,_,_=>trivial
 |f+1,n,a,b=>by
  refine⟨P.lt (by omega),P.lt (by omega),P.ne (by omega) (by omega) (by omega),?_⟩
  show vO lt N (if lt (gg p n) (gg p (n-1))=true then KasT.ret n else iG p f (n+1))
  split
  ·trivial
  ·exact zDC P f (n+1) (by omega) (by omega)
theorem zGJ (O:TotalOn lt N)(P:Pm p N):∀(f n:Nat),1<=n->n+f<=N->vO lt N (fF f p n 0)
 |0,n,_,_=>trivial
 |f+1,n,b,e=>by
  refine⟨P.lt (by omega),P.lt (by omega),P.ne (by omega) (by omega) (by omega),?_⟩
  show vO lt N (if lt (gg p n) (gg p (n-1))=true then(if 0>0 then fF f (mC p (n- (0+1)) n) (n+1) 0 else fF f p (n+1) 0)
   else .ask (gg p (n-1)) (gg p n) fun d=>if d=true then .ret (p,n,0)else fF f p (n+1) (0+1))
  cases c:lt (gg p n) (gg p (n-1))with
  |true=>
   rw[if_pos rfl,if_neg (by omega)]
   exact zGJ O P f (n+1) (by omega) (by omega)
  |false=>
   rw[if_neg (by simp)]
   have a:=O.flip (P.lt (by omega)) (P.lt (by omega)) (P.ne (by omega) (by omega) (by omega)) c
   refine⟨P.lt (by omega),P.lt (by omega),P.ne (by omega) (by omega) (by omega),?_⟩
   show vO lt N (if lt (gg p (n-1)) (gg p n)=true then KasT.ret (p,n,0)else fF f p (n+1) (0+1))
   rw[a,if_pos rfl]
   trivial
theorem zDD (O:TotalOn lt N)(P:Pm p N):∀(f n:Nat),1<=n->n+f<=N->Dn lt p n->
  ∃m,ev lt (fF f p n 0)=(p,m,0)/\n<=m/\m<=n+f/\Dn lt p m
 |0,n,_,_,u=>⟨n,rfl,ay _,ay _,u⟩
 |f+1,n,a,j,u=>by
  have e:ev lt (fF (f+1) p n 0)=ev lt (if lt (gg p n) (gg p (n-1))=true then(if 0>0 then fF f (mC p (n- (0+1)) n) (n+1) 0 else fF f p (n+1) 0)
   else .ask (gg p (n-1)) (gg p n) fun d=>if d=true then .ret (p,n,0)else fF f p (n+1) (0+1)):=rfl
  rw[e]
  cases c:lt (gg p n) (gg p (n-1))with
  |true=>
   rw[if_pos rfl,if_neg (by omega)]
   obtain⟨m,b,l,o,g⟩:=zDD O P f (n+1) (by omega) (by omega) (u.more O P a (by omega) c)
   exact⟨m,b,by omega,by omega,g⟩
  |false=>
   rw[if_neg (by simp)]
   have h:=O.flip (P.lt (by omega)) (P.lt (by omega)) (P.ne (by omega) (by omega) (by omega)) c
   have i:ev lt (.ask (gg p (n-1)) (gg p n) fun d=>if d=true then KasT.ret (p,n,0)else fF f p (n+1) (0+1))=ev lt (if lt (gg p (n-1)) (gg p n)=true then KasT.ret (p,n,0)else fF f p (n+1) (0+1)):=rfl
   rw[i,h,if_pos rfl]
   exact⟨n,rfl,ay _,by omega,u⟩
theorem zGK {m k:Nat}(b:m<=p.size):gg (mC p 0 m) k=if k<m then gg p (m-1-k)else gg p k:=by
 have e:=getElem?_mirror_all (i:=0) b k
 have a:∀(q:Array Nat) (x:Nat),gg q x=(q[x]?).getD 0:=fun q x=>by simp[gg]
 rw[a,a,a]
 show((mirror p 0 m ((m-0)/2))[k]?).getD 0=_
 rw[e]
 by_cases h:k<m
 ·rw[if_pos ⟨bp _,h⟩,if_pos h]
  simp
 ·rw[if_neg (fun z=>h z.2),if_neg h]
theorem zLd (P:Pm p N){m:Nat}(b:m<=N)(d:Dn lt p m):Up lt (mC p 0 m) m:=by
 intro i j c e
 have a:m<=p.size:=by rw[P.size];exact b
 rw[zGK a,zGK a,if_pos (by omega),if_pos e]
 exact d _ _ (by omega) (by omega)
theorem zDE (P:Pm p N)(i j:Nat):Pm (mC p i j) N:=P.perm (mirror_perm p i j _)
theorem zGL (O:TotalOn lt N)(P:Pm p N)(w:2<=N):∃m q,ev lt (pk N p)=(m,q)/\1<=m/\m<=N/\Pm q N/\Up lt q m:=by
 obtain⟨b,h,a,f⟩:=zBk O P (N-1) 1 (ay _) (by omega) zGI
 unfold pk
 rw[zAd]
 generalize x:ev lt (iG p (N-1) 1)=n at b h a f
 by_cases e1:(n==N)=true
 ·rw[if_pos e1]
  exact⟨n,p,rfl,b,by omega,P,a⟩
 ·rw[if_neg e1]
  have l:n≠N:=by simpa using e1
  by_cases g:n>1
  ·rw[if_pos g]
   have c:lt (gg p 0) (gg p (n-1))=true:=a 0 (n-1) (by omega) (by omega)
   have o:ev lt (KasT.ask (p.getD 0 0) (p.getD (n-1) 0) fun c=>if c=true then KasT.ret (n,p)else jt n N (mC p 0 n))=ev lt (if lt (gg p 0) (gg p (n-1))=true then KasT.ret (n,p)else jt n N (mC p 0 n)):=rfl
   rw[o,c,if_pos rfl]
   exact⟨n,p,rfl,b,by omega,P,a⟩
  ·rw[if_neg g]
   have e:n=1:=by omega
   subst e
   have c:=f (by omega)
   have r:Dn lt p 2:=fun i j s y=>by
    have:i=0:=by omega
    have:j=1:=by omega
    subst i;subst j;exact c
   obtain⟨m,t,z,A,u⟩:=zDD O P (N-2) 2 (by omega) (by omega) r
   unfold jt
   rw[zAd]
   have d:ev lt (fF (N- (1+1)) p (1+1) 0)=(p,m,0):=t
   rw[d]
   dsimp only
   rw[if_neg (by omega)]
   unfold kas_tail3
   rw[zAd]
   obtain⟨B,C,v,_⟩:=zBk O (zDE P 0 m) (N-m) m (by omega) (by omega) (zLd P (by omega) u)
   exact⟨_,_,rfl,by omega,by omega,zDE P 0 m,v⟩
theorem zLe (O:TotalOn lt N)(P:Pm p N)(s:2<=N):vO lt N (pk N p):=by
 obtain⟨g,h,b,d⟩:=zBk O P (N-1) 1 (ay _) (by omega) zGI
 unfold pk
 refine zAe _ (zDC P _ _ (ay _) (by omega)) ?_
 generalize t:ev lt (iG p (N-1) 1)=n at g h b d
 by_cases e1:(n==N)=true
 ·rw[if_pos e1];trivial
 ·rw[if_neg e1]
  have l:n≠N:=by simpa using e1
  by_cases f:n>1
  ·rw[if_pos f]
   have c:lt (gg p 0) (gg p (n-1))=true:=b 0 (n-1) (by omega) (by omega)
   refine⟨P.lt (by omega),P.lt (by omega),P.ne (by omega) (by omega) (by omega),?_⟩
   show vO lt N (if lt (gg p 0) (gg p (n-1))=true then KasT.ret (n,p)else jt n N (mC p 0 n))
   rw[c,if_pos rfl]
   trivial
  ·rw[if_neg f]
   have e:n=1:=by omega
   subst e
   have c:=d (by omega)
   have o:Dn lt p 2:=fun i j q u=>by
    have:i=0:=by omega
    have:j=1:=by omega
    subst i;subst j;exact c
   obtain⟨m,r,v,w,x⟩:=zDD O P (N-2) 2 (by omega) (by omega) o
   unfold jt
   refine zAe _ (zGJ O P _ _ (by omega) (by omega)) ?_
   have a:ev lt (fF (N- (1+1)) p (1+1) 0)=(p,m,0):=r
   rw[a]
   dsimp only
   rw[if_neg (by omega)]
   unfold kas_tail3
   exact zAe _ (zDC (zDE P 0 m) _ _ (by omega) (by omega)) trivial
theorem zDF (P:Pm p N){k:Nat}(b:k<N):∀(f l r:Nat),r<=k->vO lt N (dC p k f l r)
 |0,l,r,_=>trivial
 |f+1,l,r,h=>by
  show vO lt N (if l>=r then KasT.ret l else .ask (p.getD k 0) (p.getD ((l+r)/2) 0) fun c=>if c=true then dC p k f l ((l+r)/2)else dC p k f ((l+r)/2+1) r)
  by_cases a:l>=r
  ·rw[if_pos a];trivial
  ·rw[if_neg a]
   refine⟨P.lt b,P.lt (by omega),P.ne b (by omega) (by omega),?_⟩
   show vO lt N (if lt (gg p k) (gg p ((l+r)/2))=true then dC p k f l ((l+r)/2)else dC p k f ((l+r)/2+1) r)
   split
   ·exact zDF P b f l _ (by omega)
   ·exact zDF P b f _ r h
theorem zDG (O:TotalOn lt N)(P:Pm p N){k:Nat}(d:k<N)(u:Up lt p k):∀(f l r:Nat),l<=r->r<=k->r-l<=f->(∀i,i<l->lt (gg p i) (gg p k)=true)->(∀i,r<=i->i<k->lt (gg p k) (gg p i)=true)->
  ev lt (dC p k f l r)<=k/\(∀i,i<ev lt (dC p k f l r)->lt (gg p i) (gg p k)=true)/\∀i,ev lt (dC p k f l r)<=i->i<k->lt (gg p k) (gg p i)=true
 |0,l,r,q,h,s,a,b=>by
  have:l=r:=by omega
  subst this
  exact⟨h,a,b⟩
 |f+1,l,r,q,h,s,a,b=>by
  have e:ev lt (dC p k (f+1) l r)=ev lt (if l>=r then KasT.ret l else .ask (p.getD k 0) (p.getD ((l+r)/2) 0) fun c=>if c=true then dC p k f l ((l+r)/2)else dC p k f ((l+r)/2+1) r):=rfl
  rw[e]
  by_cases g:l>=r
  ·rw[if_pos g]
   have:l=r:=by omega
   subst this
   exact⟨h,a,b⟩
  ·rw[if_neg g]
   have t:ev lt (KasT.ask (p.getD k 0) (p.getD ((l+r)/2) 0) fun c=>if c=true then dC p k f l ((l+r)/2)else dC p k f ((l+r)/2+1) r)=ev lt (if lt (gg p k) (gg p ((l+r)/2))=true then dC p k f l ((l+r)/2)else dC p k f ((l+r)/2+1) r):=rfl
   rw[t]
   generalize w:(l+r)/2=m
   have v:l<=m:=by omega
   have x:m<r:=by omega
   cases c:lt (gg p k) (gg p m)with
   |true=>
    rw[if_pos rfl]
    refine zDG O P d u f l m v (by omega) (by omega) a fun i hi j=>?_
    by_cases n:i=m
    ·subst n;exact c
    ·exact O.tr _ _ _ (P.lt d) (P.lt (by omega)) (P.lt (by omega)) c (u m i (by omega) j)
   |false=>
    rw[if_neg (by simp)]
    have o:=O.flip (P.lt d) (P.lt (by omega)) (P.ne d (by omega) (by omega)) c
    refine zDG O P d u f (m+1) r (by omega) h (by omega) (fun i hi=>?_) b
    by_cases n:i=m
    ·subst n;exact o
    ·exact O.tr _ _ _ (P.lt (by omega)) (P.lt (by omega)) (P.lt d) (u i m (by omega) (by omega)) o
theorem zGM {k d x:Nat}(b:k<p.size)(hd:d<=k):gg (bubble p k d) x=if x=k-d then gg p k else if k-d<x/\x<=k then gg p (x-1)else gg p x:=by
 have e:=getElem?_bubble b d hd x
 have a:∀(q:Array Nat) (x:Nat),gg q x=(q[x]?).getD 0:=fun q x=>by simp[gg]
 rw[a,a,a,a,e]
 split
 ·rfl
 ·split<;>rfl
theorem zGN (O:TotalOn lt N):∀(f:Nat) (p:Array Nat) (k:Nat),Pm p N->k+f=N->Up lt p k->Pm (ev lt (oD f p k)) N/\Up lt (ev lt (oD f p k)) N
 |0,p,k,P,e,u=>by
  have:k=N:=by omega
  subst this
  exact⟨P,u⟩
 |f+1,p,k,P,e,u=>by
  have e1:oD (f+1) p k=(dC p k k 0 k).bind fun l=>oD f (bubble p k (k-l)) (k+1):=rfl
  rw[e1,zAd]
  have g:k<N:=by omega
  obtain⟨r,h,m⟩:=zDG O P g u k 0 k (bp _) (ay _) (by omega) (fun i hi=>by omega) (fun i a b=>by omega)
  generalize ev lt (dC p k k 0 k)=l at r h m
  have n:k<p.size:=by rw[P.size];exact g
  refine zGN O f _ (k+1) (P.perm (bubble_perm p k _)) (by omega) fun i j c s=>?_
  rw[zGM n (by omega),zGM n (by omega)]
  have d:k- (k-l)=l:=by omega
  rw[d]
  by_cases a:i=l
  ·rw[if_pos a,if_neg (by omega),if_pos (by omega)]
   exact m _ (by omega) (by omega)
  ·rw[if_neg a]
   by_cases b:l<i/\i<=k
   ·rw[if_pos b,if_neg (by omega),if_pos (by omega)]
    exact u _ _ (by omega) (by omega)
   ·rw[if_neg b]
    by_cases o:j=l
    ·rw[if_pos o]
     exact h i (by omega)
    ·rw[if_neg o]
     by_cases q:l<j/\j<=k
     ·rw[if_pos q]
      by_cases t:i=j-1
      ·omega
      ·exact u _ _ (by omega) (by omega)
     ·rw[if_neg q]
      exact u _ _ c (by omega)
theorem zGO (O:TotalOn lt N):∀(f:Nat) (p:Array Nat) (k:Nat),Pm p N->k+f=N->vO lt N (oD f p k)
 |0,p,k,P,e=>trivial
 |f+1,p,k,P,e=>by
  show vO lt N ((dC p k k 0 k).bind fun l=>oD f (bubble p k (k-l)) (k+1))
  exact zAe _ (zDF P (by omega) _ _ _ (ay _)) (zGO O f _ (k+1) (P.perm (bubble_perm p k _)) (by omega))
theorem zGP (O:TotalOn lt N)(a:2<=N):vO lt N (oE N):=by
 have b:Pm (gs (bC N)) N:=dz _
 obtain⟨m,q,e,g,h,d,i⟩:=zGL O b a
 unfold oE
 refine zAe _ (zLe O b a) ?_
 rw[e]
 dsimp only
 by_cases c:m<N
 ·rw[if_pos c]
  have f:max m 1=m:=by omega
  rw[f]
  exact zGO O (N-m) q m d (by omega)
 ·rw[if_neg c];trivial
theorem zGQ (O:TotalOn lt N)(d:2<=N):Pm (ev lt (oE N)) N/\Up lt (ev lt (oE N)) N:=by
 have f:Pm (gs (bC N)) N:=dz _
 obtain⟨m,q,e,h,i,a,b⟩:=zGL O f d
 unfold oE
 rw[zAd,e]
 dsimp only
 by_cases c:m<N
 ·rw[if_pos c]
  have g:max m 1=m:=by omega
  rw[g]
  exact zGN O (N-m) q m a (by omega) b
 ·rw[if_neg c]
  have:m=N:=by omega
  subst this
  exact⟨a,b⟩
end
end MyS
end
section
namespace MyS
open PySem PySem.W PyProof.Rows PySem.Spec
theorem zDH {α:Type}{N:Nat}{cmp:Nat->Nat->(Bool->ao->Prop)->ao->Prop}{lt:Nat->Nat->Bool}{s:ao}(b:∀i j,i<N->j<N->i≠j->∀C,C (lt i j) s->cmp i j C s) :
  ∀(t:KasT α) (Q:α->ao->Prop),vO lt N t->Q (ev lt t) s->t.kasWp cmp Q s
 | .ret a,Q,_,h=>h
 | .ask i j k,Q,o,h=>b i j o.1 o.2.1 o.2.2.1 _ (zDH b (k (lt i j)) Q o.2.2.2 h)
def j6 (ks:List Str)(i:Nat):List Nat:=(ks.getD i ⟨#[]⟩).cps.toList
def kW (ks:List Str)(i j:Nat):Bool:=decide (j6 ks i<j6 ks j)
theorem Str_ext {a b:Str}(h:a.cps.toList=b.cps.toList):a=b:=by
 cases a;cases b
 congr 1
 exact iT.mp h
theorem zGR (a b:List Nat)(e:¬a<b)(f:¬b<a):a=b:=by
 have c:b<=a:=tF.mp e
 have d:a<=b:=tF.mp f
 exact List.le_antisymm d c
theorem zLf {ks:List Str}(nd:ks.Nodup):TotalOn (kW ks) ks.length where
 irr:=fun i _=>by simp[kW,fG]
 tr:=fun i j k _ _ _ a b=>by
  simp only[kW,decide_eq_true_eq]at*
  exact nT a b
 tot:=fun i j hi f c=>by
  simp only[kW,decide_eq_true_eq]
  by_cases a:j6 ks i<j6 ks j
  ·exact .inl a
  ·by_cases b:j6 ks j<j6 ks i
   ·exact .inr b
   ·exfalso
    have e:=zGR _ _ a b
    unfold j6 at e
    have d:=Str_ext e
    have e1:ks.getD i ⟨#[]⟩=ks[i]:=by simp[hi]
    have g:ks.getD j ⟨#[]⟩=ks[j]:=by simp[f]
    rw[e1,g]at d
    exact c ((dU nd).mp d)
section
variable{prog:aJ}{w:aY}{A:bO}{E:aj->ao->Prop}{s:ao}
theorem zLg {κ:tG}{a:ak}{vs:List aj}{ks:List Str}{n:Nat}{P:pq->ao->Prop}(y:s.heap.get? a=some (seqObj "list" vs.toArray n))(hl:ks.length=vs.length)(nd:ks.Nodup)(z:vs.length<64)
  (M:∀G,(∀b o,b≠a->s.heap.get? b=some o->G.get? b=some o)->2<=vs.length->∀(Q:tG->ao->Prop) (R:aj->ao->Prop),Q κ {s with heap:=G}->wpAny (model prog w) A (keyKind' vs.toArray) Q R {s with heap:=G})
  (T:∀G,(∀b o,b≠a->s.heap.get? b=some o->G.get? b=some o)->∀i j,i<vs.length->j<vs.length->i≠j->∀C,C (kW ks i j) {s with heap:=G}->kas_ask prog w A κ vs i j C {s with heap:=G})
  (h:∀(p:List Nat) (h':bE) (e:Nat),p.Perm (bC vs.length)->(p.map (j6 ks)).Pairwise (· < ·)->(∀b o,b≠a->s.heap.get? b=some o->h'.get? b=some o)->
   h'.get? a=some (seqObj "list" (p.map fun i=>vs.getD i Value.none).toArray e)->P (.done (.ret .none)) {s with heap:=h'}) :
  wpAny (model prog w) A (cQ.«list.sort» ⟨[.ref a],[]⟩) P E s:=by
 have ha:a<s.heap.objs.size:=aE y
 rw[list_sort_plain]
 refine af (oF y rfl ?_)
 refine af (f7 y rfl ?_ (by rw[aH,aF];omega) (bp _))
 obtain⟨e1,r⟩:∃e1,(s.heap.update a (bN fun _=>(#[]:Array aj))).get? a=some (seqObj "list" #[] e1):=⟨_,iq y fun _=>#[]⟩
 refine af (lB r rfl ?_)
 refine af (kj ?_ (by rw[aF];simp;omega))
 refine af (iZ ?_ (by simp))
 refine cY ?_
 show wpAny (model prog w) A _ P E {s with heap:=((s.heap.update a (bN fun _=>#[])).push (seqObj "tuple" vs.toArray 0)).push (seqObj "list" #[] 0)}
 generalize L:((s.heap.update a (bN fun _=>(#[]:Array aj))).push (seqObj "tuple" vs.toArray 0)).push (seqObj "list" #[] 0)=G
 have d:G.get? a=some (seqObj "list" #[] e1):=by
  rw[<-L]
  exact ae _ (ae _ r)
 have m:∀b o,b≠a->s.heap.get? b=some o->G.get? b=some o:=fun b o hb e=>by
  rw[<-L]
  exact ae _ (ae _ ((bA _ _ (d5 hb)).trans e))
 have hsz:vs.toArray.size=vs.length:=by simp
 have fin:∀(p:List Nat) (out:Array aj) (c:out=(p.map fun i=>vs.getD i Value.none).toArray),p.Perm (bC vs.length)->(p.map (j6 ks)).Pairwise (· < ·)->
   P (.done (.ret .none)) {s with heap:=G.update a (bN fun _=>out)}:=fun p out c U f=>by
  subst c
  have W:=iq d fun _=>(p.map fun i=>vs.getD i Value.none).toArray
  exact h p _ _ U f (fun b o hb e=>(bA _ _ (d5 hb)).trans (m b o hb e)) W
 dsimp only
 by_cases f:vs.toArray.size<2
 ·rw[if_pos f,if_pos f]
  refine af (ar ?_)
  rw[pP]
  refine af (ar ?_)
  dsimp only
  refine af (lB d rfl ?_)
  refine af (f7 d rfl ?_ (by simp) (by
   show((vs.toArray.zip vs.toArray).map (·.2)).size<=sizeLine+1
   rw[aF];simp;omega))
  simp only[bne_self_eq_false,eN,if_false]
  refine ar (fin (bC vs.length) _ ?_ (dz _) ?_)
  ·show(vs.toArray.zip vs.toArray).map (·.2)=_
   match vs,f with
   | [],_=>simp
   | [v],_=>simp[dO]
   |_::_::_,f=>simp at f;omega
  ·have:vs.length<2:=by simpa using f
   match hv:vs.length,this with
   |0,_=>simp
   |1,_=>simp[dO]
 ·rw[if_neg f,if_neg f]
  have g:2<=vs.length:=by simpa using f
  refine af (M G m g _ _ ?_)
  show wpAny _ _ (StateT.run sortRuns' (SortSt.mk' κ (vs.toArray.zip vs.toArray) #[] 7 none)>>=_) _ _ _
  have O:=zLf nd
  rw[hl]at O
  obtain⟨B,D⟩:=zGQ O g
  refine af (cy (kat_run (ks:=vs) (vs:=vs) (Q:=fun l s'=>s'={s with heap:=G}/\failedOf l=none/\∃p:Array Nat,Pm p vs.length/\Up (kW ks) p vs.length/\arrOf l=p.map (kas_item (vs.toArray.zip vs.toArray)))
   (G:=fun p s'=>s'={s with heap:=G}/\Pm p vs.length/\Up (kW ks) p vs.length) rfl g z (fun p l s' _ t F u=>⟨u.1,F,p,u.2.1,u.2.2,t⟩) ?_) ?_ fun _ _ e=>e)
  ·refine zDH (N:=vs.length) (lt:=kW ks) (fun i j hi H q C I=>?_) _ _ (zGP O g) ⟨rfl,B,D⟩
   exact T G m i j hi H q C I
  ·rintro⟨⟨⟩,l⟩ s' ⟨rfl,hf,p,t,F,u⟩
   dsimp only
   have c:=kat_snds (ks:=vs) (vs:=vs) rfl u
   refine af (lB d rfl ?_)
   refine af (f7 d rfl ?_ (by simp) (by
    rw[c,aH,ah,aF]
    have:=t.size
    simp
    omega))
   rw[hf]
   simp only[bne_self_eq_false,eN,if_false]
   refine ar (fin p.toList _ c t ?_)
   rw[bq,gz]
   intro i j hi H q
   have J:i<p.size:=by simpa using hi
   have x:j<p.size:=by simpa using H
   have:=F i j q (by rw[<-t.size];exact x)
   rw[zAA J,zAA x]at this
   simpa [kW]using this
theorem zGS {a:ak}{vs:List aj}{ks:List Str}{n:Nat}{P:pq->ao->Prop}(q:s.heap.get? a=some (seqObj "list" vs.toArray n))(f:qc vs ks)(nd:ks.Nodup)(m:vs.length<64)
  (h:∀(p:List Nat) (h':bE) (e:Nat),p.Perm (bC vs.length)->(p.map (j6 ks)).Pairwise (· < ·)->(∀b o,b≠a->s.heap.get? b=some o->h'.get? b=some o)->
   h'.get? a=some (seqObj "list" (p.map fun i=>vs.getD i Value.none).toArray e)->P (.done (.ret .none)) {s with heap:=h'}) :
  wpAny (model prog w) A (cQ.«list.sort» ⟨[.ref a],[]⟩) P E s:=by
 have d:ks.length=vs.length:=by rw[<-f.strs];simp
 have c:∀i,i<vs.length->∃t,vs.getD i Value.none=.str (ks.getD i ⟨#[]⟩) t:=fun i hi=>by
  obtain⟨x,t,e⟩:=f.all vs[i] (c9 hi)
  refine⟨t,?_⟩
  have e1:vs.getD i Value.none=vs[i]:=by simp[hi]
  have r:ks.getD i ⟨#[]⟩=x:=by
   rw[<-f.strs,bK,aw,aq hi,e];rfl
  rw[e1,r,e]
 refine zLg (κ:=oneType') q d nd m (fun G u v Q H y=>?_) (fun G u i j hi z B C D=>?_) h
 ·obtain⟨g,l,yT,rfl⟩:∃g l yT,vs=g::l::yT:=by
   match vs,v with
   |g::l::yT,_=>exact⟨g,l,yT,rfl⟩
  rw[keyKind_strs f]
  exact ar y
 ·obtain⟨t,e⟩:=c i hi
  obtain⟨t',F⟩:=c j z
  unfold kas_ask
  rw[e,F,keyLt'_oneType]
  exact strKind_oneLt prog w A _ _ _ _ _ _ rfl rfl D
end
end MyS
end
section
namespace L2
open PySem PySem.Spec PyProof.Rows
theorem yS.obj {P:aJ}{w:aY}{H:Hp}{h:bE}{a:ak}{o:HO}(x:yS P w H h a o):∃u,h.get? a=some u:=by
 cases o with
 |lst xs=>obtain⟨_,_,_,_,e⟩:=x;exact⟨_,e⟩
 |tup xs=>obtain⟨_,_,_,_,e,_⟩:=x;exact⟨_,e⟩
 |dK kvs=>obtain⟨_,_,_,_,o,_,_,e,_⟩:=x;exact⟨_,e⟩
 |dT kvs=>obtain⟨_,_,_,_,o,_,_,e,_⟩:=x;exact⟨_,e⟩
 |set S n=>obtain⟨o,_,_,_,e,_⟩:=x;exact⟨_,e⟩
 |ins C b fs=>obtain⟨_,_,_,e,_⟩:=x;exact⟨_,e⟩
 |own y=>exact x
 |xd fs=>obtain⟨_,⟨_,_,_,e,_⟩,_⟩:=x;exact⟨_,e⟩
 |rng lo hi=>obtain⟨_,_,_,e⟩:=x;exact⟨_,e⟩
 |frz c u=>obtain⟨e,_⟩:=x;exact⟨_,e⟩
 |tbl ps=>exact⟨_,(show h.get? a=some _ from x)⟩
 |met f y=>exact⟨_,(show h.get? a=some _ from x)⟩
 |ext φ=>obtain⟨_,e,_⟩:=x;exact e
theorem yA.free {P:aJ}{w:aY}{H:Hp}{h:bE}{a:ak}(x:yA P w H h)(e:h.get? a=none):H a=none:=by
 cases q:H a with
 |none=>rfl
 |some u=>
  obtain⟨v,hv⟩:=(x a u q).obj
  rw[hv]at e;cases e
def zGT (d:ak):Obj:={cls:=.type "dict_items",data:=.fields #[.ref d]}
def VW (p d:ak):HO:=.ext fun h=>h.get? p=some (zGT d)
section
variable{X:Cx}
def zLh:V->List V->Hp->VK->Prop:=fun x vs H Q=>∃d kvs,x=.ref d/\vs=[]/\H d=some (.dK kvs)/\∀p,H p=none->Q (.ref p) (upd H p (VW p d))
theorem zBl:MtM X "dict.items" zLh:=by
 intro c s σ H x vs v l Q I g i h
 obtain⟨d,kvs,rfl,rfl,hd,q⟩:=h
 cases g
 have a:=i.zero
 subst a
 obtain⟨z,j,ws,rel,f⟩:=kT I.hok hd
 refine iF d9 f.typeIs PySem.F.entry_dict_items (PySem.F.args_dict_items_1 _) (meets_dict_items (vR X.prog X.w) d j) ⟨⟨_,f⟩,?_⟩
 refine⟨.ref s.heap.objs.size,_,I.laid (t':=s.toks) (o:=VW s.heap.objs.size d) (fun b o e=>ae _ e) (ay _) ?_,rfl,q _ (I.hok.fresh (ay _))⟩
 exact⟨aA _ rfl,⟨_,aA _ rfl⟩,fun m n e k=>k _ e⟩
abbrev vS (kvs:List (Str×V)):List (zJ×V):=kvs.map fun q=>(Sum.inr q.1,q.2)
theorem KV.get {kvs:List (zJ×V)}{vs:List (zJ×aj)}:∀{i:Nat}{k:zJ}{x:aj},KV kvs vs->vs[i]?=some (k,x)->∃v,kvs[i]?=some (k,v)/\zR v x:=by
 intro i k x r
 induction r generalizing i with
 |nil=>intro e;simp at e
 |cons h t ih=>
  intro e
  cases i with
  |zero=>
   have a:=aD (by simpa using e)
   rename_i p q _ _
   obtain⟨b,c⟩:=p
   subst a
   have d:b=k:=h.1
   subst d
   exact⟨c,rfl,h.2⟩
  |succ i=>
   obtain⟨v,e1,f⟩:=ih (by simpa using e)
   exact⟨v,by simpa using e1,f⟩
end
def Its (z:Str):It:=⟨fun i _=>i<z.cps.size,fun i H x H'=>H'=H/\∃c,z.cps[i]?=some c/\x=.str ⟨#[c]⟩,fun i _=>i=z.cps.size⟩
theorem zGU {P:aJ}{w:aY}{K:ag}{G:bJ}(it:ak)(z:Str)(t:Tok)(ty:String)(g:["enumerate","zip","dict_itemiterator","dict_reverseitemiterator","odict_iterator","itertools.zip_longest","itertools.pairwise"].contains ty=false)
  (F:∀A:bO,A.handled=none->Walks P w A it [it] [it] z.cps.size (SignAt z) (fun i h=>h.IsStrIter it ty z t i))
  (J:∀(A:bO) (i:Nat) (s:ao) (Q:aj->ao->Prop) (E:aj->ao->Prop),s.heap.IsStrIter it ty z t i->Q (.ref it) s->wpAny (model P w) A (pyIter (.ref it)) Q E s):Turn P w K G (Its z) [it] it (fun i h=>h.IsStrIter it ty z t i) where
 mem:=by simp
 obj:=fun i h st b hb=>by
  have e:b=it:=by simpa using hb
  subst e
  obtain⟨o,e,c,d⟩:=st
  exact⟨o,e,fun v z=>by rw[d]at z;cases z⟩
 keep:=fun i h h' st k=>let⟨o,e,r⟩:=st;⟨o,k it (by simp) o e,r⟩
 item:=by
  intro X j l m n i a s σ H E I hf st p
  subst j l m
  obtain⟨q,f1,f2,x,y,B⟩:=hf it (by simp)
  refine(F X.A (I.ok.hd n)).item i s _ _ p st fun v h' tk hv f C=>?_
  obtain⟨c,u,D,rfl⟩:=hv
  have L:Inv X a σ H {s with heap:=h',toks:=tk}:=I.turned (fun b o hb e=>C b o (by simpa using hb) e) q f1 x y B
  obtain⟨o,e,oc,od⟩:=id f
  exact⟨_,rfl,zAU (s:={s with heap:=h',toks:=tk}) e oc od g ⟨.str ⟨#[c]⟩,H,L,⟨u,rfl⟩,⟨rfl,c,D,rfl⟩,f,fun b hb=>(hf b hb).1⟩⟩
 done:=by
  intro X j l m n i a s σ H E I hf st p
  subst j l m
  obtain⟨q,f1,f2,x,y,B⟩:=hf it (by simp)
  have hi:i=z.cps.size:=p
  subst hi
  exact(F X.A (I.ok.hd n)).done s _ _ st fun h' tk C=>⟨rfl,I.turned (fun b o hb e=>C b o (by simpa using hb) e) q f1 x y B⟩
 self:=J
section
variable{X:Cx}{tg:bJ}
def zLi (tl:TE):TI:=fun σ H R=>tl σ H fun x H1=>∃z,x=.str z/\R (Its z) H1
theorem zLj {l:bJ}{tl:TE}(hl:PE X l tl):PI X tg l (zLi tl):=by
 intro a s σ H R I h
 refine zI (hl a s σ H _ I h) fun v c ⟨x,f,d,m,z,n,q⟩=>?_
 subst n
 obtain⟨t,rfl⟩:=m
 have j:∀b∈[c.heap.objs.size],uT X a f b:=fun b hb=>by
  have e:b=c.heap.objs.size:=by simpa using hb
  subst e
  exact d.fpOk (ay _) (d.hok.fresh (ay _))
 cases ha:z.cps.all (· <128)with
 |false=>
  refine wpAny_pyIter_wide ha ⟨c.heap.objs.size,[c.heap.objs.size],_,_,f,rfl,d.kept (t':=c.toks) fun b o e=>ae _ e,zGU _ z t "str_iterator" (by decide) (fun A g=>Walks.strWide g _ z t) (fun A i s Q E st h=>wpAny_pyIter_striter_wide st h),⟨_,aA _ rfl,rfl,rfl⟩,j,q⟩
 |true=>
  refine wpAny_pyIter_ascii ha ⟨c.heap.objs.size,[c.heap.objs.size],_,_,f,rfl,d.kept (t':=c.toks) fun b o e=>ae _ e,zGU _ z t "str_ascii_iterator" (by decide) (fun A g=>Walks.strAscii g _ z t) (fun A i s Q E st h=>wpAny_pyIter_striter_ascii st h),⟨_,aA _ rfl,rfl,rfl⟩,j,q⟩
end
theorem zLk (lo hi:Option Int)(n:Nat):dF lo hi 1 n=dF (some ((HT.sIx n 0 lo:Nat):Int)) (some ((HT.sIx n n hi:Nat):Int)) 1 n:=by
 have hl:=HT.sIx_le n 0 (bp _) lo
 have l:=HT.sIx_le n n (ay _) hi
 have key:∀(o:Option Int) (d:Nat),d<=n->(match o with|none=>(d:Int)|some i=>(let i:=if i<0 then i+(n:Int)else i;max 0 (min i (n:Int))))=((HT.sIx n d o:Nat):Int):=by
  intro o d hd
  cases o with
  |none=>rfl
  |some i=>
   show max 0 (min (if i<0 then i+(n:Int)else i) (n:Int))=(((if i<0 then(i+(n:Int)).toNat else min i.toNat n):Nat):Int)
   by_cases h:i<0
   ·rw[if_pos h,if_pos h];omega
   ·rw[if_neg h,if_neg h];omega
 have e1:=key lo 0 (bp _)
 have m:=key hi n (ay _)
 have c:max (0:Int) (min ((HT.sIx n 0 lo:Nat):Int) (n:Int))=((HT.sIx n 0 lo:Nat):Int):=by omega
 have e:max (0:Int) (min ((HT.sIx n n hi:Nat):Int) (n:Int))=((HT.sIx n n hi:Nat):Int):=by omega
 have f:¬(((HT.sIx n 0 lo:Nat):Int)<0):=by omega
 have g:¬(((HT.sIx n n hi:Nat):Int)<0):=by omega
 unfold dF
 simp only[show((1:Int)>0)=True from by simp,if_true,f,g,if_false,c,e]
 have a:∀i:Int,(max 0 (min (if i<0 then i+(n:Int)else i) (n:Int)))=((HT.sIx n 0 (some i):Nat):Int):=fun i=>key (some i) 0 (bp _)
 have b:∀i:Int,(max 0 (min (if i<0 then i+(n:Int)else i) (n:Int)))=((HT.sIx n n (some i):Nat):Int):=fun i=>key (some i) n (ay _)
 have w1:((HT.sIx n 0 none:Nat):Int)=0:=rfl
 have w2:((HT.sIx n n none:Nat):Int)=n:=rfl
 cases lo with
 |none=>
  cases hi with
  |none=>rfl
  |some j=>dsimp only;rw[b,w1]
 |some i=>
  cases hi with
  |none=>dsimp only;rw[a,w2]
  |some j=>
   dsimp only
   have zz:=a i
   rw[zz]
   rw[b]
theorem zLl (x:Str)(lo hi:Option Int):sA x lo hi=⟨((x.cps.toList.drop (HT.sIx x.length 0 lo)).take (HT.sIx x.length x.length hi-HT.sIx x.length 0 lo)).toArray⟩:=by
 have hl:=HT.sIx_le x.length 0 (bp _) lo
 have d:=HT.sIx_le x.length x.length (ay _) hi
 unfold sA
 rw[zLk lo hi]
 generalize HT.sIx x.length 0 lo=a at*
 generalize HT.sIx x.length x.length hi=b at*
 have f:x.cps.toList.length=x.length:=by simp[iV]
 by_cases c:a<=b
 ·have sp:=StrLaws.sliced_plain x c d
  split
  ·rename_i h
   rw[StrLaws.strSliceIndices_plain c d]at h
   have h':b-a=x.length:=by simpa using h
   have ha:a=0:=by omega
   have hb:b=x.cps.toList.length:=by omega
   subst ha
   apply MyS.Str_ext
   show x.cps.toList=((x.cps.toList.drop 0).take (b-0)).toArray.toList
   rw[eO,iH,hb,bo]
  ·rw[sp]
 ·have hb:b-a=0:=by omega
  have e:dF (some (a:Int)) (some (b:Int)) 1 x.length=[]:=by
   have g:¬((a:Int)<0):=by omega
   have i:¬((b:Int)<0):=by omega
   have e1:max (0:Int) (min (a:Int) (x.length:Int))=a:=by omega
   have j:max (0:Int) (min (b:Int) (x.length:Int))=b:=by omega
   simp only[dF,sliceRange,g,i,if_false,e1,j,show((1:Int)>0)=True from by simp,if_true]
   rw[if_neg (by omega)]
   rfl
  rw[e,hb]
  split
  ·rename_i h
   have h':0=x.length:=by simpa using h
   omega
  ·simp
section
variable{X:Cx}{e:bJ}{te:TE}{lo hi:Option bJ}{tl th:TO}{pos p2:Pos}
def gI (z:Str)(lo hi:Option Int):Str:=⟨((z.cps.toList.drop (HT.sIx z.length 0 lo)).take (HT.sIx z.length z.length hi-HT.sIx z.length 0 lo)).toArray⟩
def zLm (te:TE)(tl th:TO):TE:=fun σ H Q=>te σ H fun x H1=>tl σ H1 fun l H2=>th σ H2 fun u H3=>∃z,x=.str z/\z.length<=sizeLine/\Q (.str (gI z l u)) H3
theorem zDI (m:PE X e te)(hl:PO X lo tl)(n:PO X hi th):PE X (.Subscript e (.Slice lo hi none p2) pos) (zLm te tl th):=by
 intro a s σ H Q I h
 refine kg (zI (m a s σ H _ I h) fun v p ⟨x,r,y,B,C⟩=>?_)
 refine wpAny_Slice (zI (hl a p σ r _ y C) fun D E ⟨l,F,G,pl,J⟩=>zI (n a E σ F _ G J) fun L c ⟨u,M,N,g,O⟩=>?_)
 rw[nP]
 refine ar ?_
 obtain⟨z,rfl,hz,q⟩:=O
 obtain⟨t,rfl⟩:=B
 have d:KeptH (fun h=>∀b o,c.heap.get? b=some o->h.get? b=some o):=fun h Y f b o q=>ae _ (f b o q)
 have fin:∀h' t' k,(∀b o,c.heap.get? b=some o->h'.get? b=some o)->EP X a σ Q (.str (sA z l u) t') {c with heap:=h',toks:=k}:=fun h' t' k f=>by
  refine⟨.str (gI z l u),M,N.kept f,⟨t',?_⟩,q⟩
  rw[zLl];rfl
 have go:ItemOn (model X.prog X.w) X.A X.xe (.str z t) (.ref c.heap.objs.size) (EP X a σ Q) {c with heap:=c.heap.push {cls:=.type "slice",data:=.fields #[D,L,.none]}}:=by
  cases pl with
  |none=>
   cases g with
   |none=>exact SBH.sliceItem_nn d (fun _ _ q=>q) fin hz
   |int j P=>exact SBH.sliceItem_ns d (fun _ _ q=>q) fin hz
  |int i Z=>
   cases g with
   |none=>exact SBH.sliceItem_sn d (fun _ _ q=>q) fin hz
   |int j P=>exact SBH.sliceItem_ss d (fun _ _ q=>q) fin hz
 obtain⟨T,id,R,U,W⟩:=go
 exact tm (ops:=[.ref c.heap.objs.size,.str z t]) U R W (by with_unfolding_all rfl)
end
section
variable{X:Cx}
theorem zBH (g:X.calm=true):uU X (.builtin "all") (fun xs H Q=>∃(p:ak) (bs:List Bool),xs=[.ref p]/\zZ X.K H p (bs.map V.bl)/\Q (.bl (bs.all id)) H):=by
 intro d s σ H xs B Q I r h
 obtain⟨p,bs,rfl,j,q⟩:=h
 obtain⟨u,rfl,l⟩:=uF r
 cases l
 obtain⟨its,c,pl,hz⟩:=I.list j
 have m:p≠s.heap.objs.size:=by
  obtain⟨o,n,e,_⟩:=pl
  exact bc (aE e)
 have a:∀(i:Nat) (v:aj),its.toArray[i]?=some v->v=.bool (bs.getD i false):=fun i v e=>by
  have f:its[i]?=some v:=by simpa using e
  have hl:=c.length
  have hi:i<bs.length:=by
   have:=(ai.mp f).1
   simp at hl;omega
  obtain⟨u,e1,t⟩:=c.get (i:=i) (x:=.bl (bs.getD i false)) (by rw[aw];simp[hi])
  rw[f]at e1
  cases e1
  exact t
 refine call_all_walk (d8 pl.isList ?_)
 refine⟨s.heap.objs.size,_,_,its.toArray.size,_,_,fun i=>bs.getD i false,rfl,t9 (A:=X.A.in1) (I.ok.hd g) _ p m its.toArray,⟨⟨_,aA _ rfl,rfl,rfl⟩,?_⟩,fun i v s' C D hv w=>?_,fun h' tk y=>?_⟩
 ·exact pl.isList.at fun o e=>ae _ e
 ·rw[a i v hv];exact dv w
 ·refine⟨.bl (bs.all id),H,I.kept (t':=tk) (h':=h') fun b o e=>y b o (fun z=>?_) (ae _ e),?_,q⟩
  ·have:b=s.heap.objs.size:=by simpa using z
   exact absurd (aE e) (by rw[this];exact bH _)
  ·have hl:=c.length
   have hsz:its.toArray.size=bs.length:=by simp at hl;simp[hl]
   have:(bC its.toArray.size).all (fun i=>bs.getD i false)=bs.all id:=by
    rw[hsz]
    rw[dN]
    simp only[da,bI,id]
    constructor
    ·intro h b hb
     obtain⟨i,hi,e⟩:=du hb
     have:=h i hi
     simpa [hi,e]using this
    ·intro h i hi
     have:=h bs[i] (c9 hi)
     simpa [hi]using this
   rw[this];rfl
theorem zGV (ns:List Int):∀k,k<=ns.length->preSum (fun i=>ns.getD i 0) k=(ns.take k).sum
 |0,_=>by simp[preSum]
 |k+1,h=>by
  show preSum (fun i=>ns.getD i 0) k+ns.getD k 0=_
  have a:k<ns.length:=h
  rw[zGV ns k (by omega),aB a,pQ]
  simp[a]
def zGW (d:ak):Obj:={cls:=.type "dict_values",data:=.fields #[.ref d]}
def jN (p d:ak):HO:=.ext fun h=>h.get? p=some (zGW d)
def zLn:V->List V->Hp->VK->Prop:=fun x vs H Q=>∃d kvs,x=.ref d/\vs=[]/\H d=some (.dK kvs)/\∀p,H p=none->Q (.ref p) (upd H p (jN p d))
theorem zLo:MtM X "dict.values" zLn:=by
 intro c s σ H x vs v l Q I g i h
 obtain⟨d,kvs,rfl,rfl,hd,q⟩:=h
 cases g
 have a:=i.zero
 subst a
 obtain⟨z,j,ws,rel,f⟩:=kT I.hok hd
 refine iF d6 f.typeIs ky (kl _) (oG (vR X.prog X.w) d j) ⟨⟨_,f⟩,?_⟩
 refine⟨.ref s.heap.objs.size,_,I.laid (t':=s.toks) (o:=jN s.heap.objs.size d) (fun b o e=>ae _ e) (ay _) ?_,rfl,q _ (I.hok.fresh (ay _))⟩
 exact⟨aA _ rfl,⟨_,aA _ rfl⟩,fun m n e k=>k _ e⟩
theorem zAB:uU X (.builtin "isinstance") (fun xs H Q=>∃x c t b,xs=[x,.ty c]/\TyOf X.K H x t/\bx X.K t (.type c)=some b/\Q (.bl b) H):=by
 intro a s σ H xs g Q I r h
 obtain⟨x,c,t,b,rfl,ty,e,q⟩:=h
 obtain⟨u,i,rfl,d,f⟩:=zAY r
 cases f
 exact zKc I d ty e fun tk=>⟨.bl b,H,I.tok tk,rfl,q⟩
theorem zGX {ss:List Str}:∀{a:List aj},zL (ss.map V.str) a->qc a ss:=by
 induction ss with
 |nil=>intro a r;rw[mx]at r;cases r;exact .nil
 |cons x ss ih=>
  intro a r
  rw[aR]at r
  cases r with
  |cons b c=>
   obtain⟨t,e⟩:=b
   subst e
   exact .cons x t (ih c)
def zLp (K:ag):V->List V->Hp->VK->Prop:=fun x vs H Q=>∃(sep:Str) (l:ak) (ss:List Str),x=.str sep/\vs=[.ref l]/\zZ K H l (ss.map V.str)/\(ss.map (·.length)).sum+ss.length*sep.length<=16777216/\Q (.str (oH sep ss)) H
theorem zLq:gH X "str.join" (zLp X.K):=by
 intro a s σ H x vs v g Q I b c h
 obtain⟨sep,l,ss,rfl,rfl,d,hz,q⟩:=h
 obtain⟨t,rfl⟩:=b
 obtain⟨u,rfl,e⟩:=uF c
 cases e
 obtain⟨its,f,pl,_⟩:=I.list d
 exact join_list pl.isList (by simpa using zGX f) hz fun t' k=>⟨.str (oH sep ss),H,I.tok k,⟨t',rfl⟩,q⟩
theorem zLr (l:List Str):∀a:Array Nat,(l.foldl (fun b p=>b++(⟨#[]⟩:Str).cps++p.cps) a).toList=a.toList++(l.map (·.cps.toList)).flatten:=by
 induction l with
 |nil=>intro a;simp
 |cons x r ih=>intro a;rw[eZ,ih];simp
theorem zLs (ss:List Str):oH ⟨#[]⟩ ss=⟨(ss.map (·.cps.toList)).flatten.toArray⟩:=by
 apply MyS.Str_ext
 show((ss.drop 1).foldl (fun a p=>a++(⟨#[]⟩:Str).cps++p.cps) (ss.headD ug).cps).toList=(ss.map (·.cps.toList)).flatten.toArray.toList
 rw[zLr]
 cases ss with
 |nil=>rfl
 |cons x r=>simp
def zLt:V->List V->Hp->VK->Prop:=fun x vs H Q=>∃d kvs k v,x=.ref d/\vs=[kV k,v]/\H d=some (.dK kvs)/\kvs.length<sizeLine/\(∀y,v3 kvs k=some y->Q y H)/\(v3 kvs k=none->Q v (upd H d (.dK (uA kvs k v))))
theorem zGY:MtM X "dict.setdefault" zLt:=by
 intro i s σ H x vs v E Q I m n h
 obtain⟨d,kvs,k,y,rfl,rfl,hd,hz,o,p⟩:=h
 cases m
 obtain⟨u,r,rfl,t,b⟩:=zAY n
 obtain⟨z,j,ws,rel,l⟩:=kT I.hok hd
 have f:ws.length<=sizeLine:=by rw[<-rel.length];exact z
 refine iF fZ l.typeIs PySem.F.entry_dict_setdefault (PySem.F.args_dict_setdefault_3 _ _ _) (kt_meets_setdefault (vR X.prog X.w) d (g6 t) j r) ⟨ws,l,f,fun G hv=>?_,fun A h' c B=>?_⟩
 ·have a:=rel.val k
  rw[hv]at a
  cases e:v3 kvs k with
  |none=>rw[e]at a;exact a.elim
  |some g=>
   rw[e]at a
   exact⟨g,H,I.tok _,a,o g e⟩
 ·have a:=rel.val k
  rw[A]at a
  cases e:v3 kvs k with
  |some g=>rw[e]at a;exact a.elim
  |none=>
   have C:∃q,h'.get? d=some q:=let⟨q,_,_,D,_⟩:=c;⟨q,D⟩
   have hl:(uA kvs k y).length<=sizeLine:=by have:=zCx kvs k y;omega
   exact⟨y,_,zBf I (by rw[hd];exact True.intro) B C (zBg hl j (rel.put k b) c),b,p e⟩
theorem zGZ:yI X (binaryOp .Add) (fun x y H Q=>∃a b ys,x=.ref a/\y=.ref b/\zY X.K H a []/\zY X.K H b ys/\Q (.ref b) H):=by
 intro j s σ H x y v u Q I p r h
 obtain⟨a,b,ys,rfl,rfl,ha,hb,q⟩:=h
 cases p
 cases r
 obtain⟨its,t,w,_⟩:=I.tuple ha
 obtain⟨c,E,z,_⟩:=I.tuple hb
 have A:its=[]:=by cases t;rfl
 subst A
 obtain⟨⟨cls,B,data,C⟩,l,m,n,hd⟩:=id w
 obtain⟨⟨o,g,data2,i⟩,d,e,D,f⟩:=id z
 simp only at m hd e f
 subst m hd e f
 exact oy ⟨_,l,rfl⟩ ⟨_,d,rfl⟩ lP nO iE iz (ik _ _)
  (tuple_addW0 a b _ c.toArray n D B g C i (by simp)) ⟨l,d,⟨.ref b,H,I,rfl,q⟩⟩
end
structure Known (J:It) (items:List V) (Hk:Hp->Prop):Prop where
 go:∀i H,Hk H->i<items.length->J.go i H
 yld:∀i H x H',Hk H->J.yld i H x H'->H'=H/\(i<items.length->items[i]?=some x)
 stop:∀H,Hk H->J.stop items.length H
theorem zBm (lo:Int)(n:Nat):Known (Itr lo n) ((bC n).map fun(i:Nat)=>V.int (lo+(i:Int))) (fun _=>True) :=
 ⟨fun i H _ h=>by show i<n;simpa using h,fun i H x b _ h=>⟨h.1,fun hi=>by
  have a:i<n:=by simpa using hi
  rw[aw,js a,h.2];rfl⟩,fun H _=>by show n<=_;simp⟩
theorem jD (K:ag)(a:ak)(xs:List V):Known (Itl K a) xs (fun H=>zZ K H a xs) :=
 ⟨fun i H h hi=>⟨xs,xs[i],h,aq hi⟩,fun i H x b h y=>⟨y.1,fun _=>y.2 xs h⟩,fun H h=>⟨xs,h,ay _⟩⟩
theorem zBI (K:ag)(a:ak)(xs:List V):Known (Itt K a) xs (fun H=>zY K H a xs) :=
 ⟨fun i H h hi=>⟨xs,xs[i],h,aq hi⟩,fun i H x b h y=>⟨y.1,fun _=>y.2 xs h⟩,fun H h=>⟨xs,h,ay _⟩⟩
theorem zLu (z:Str):Known (Its z) (z.cps.toList.map fun c=>V.str ⟨#[c]⟩) (fun _=>True) :=
 ⟨fun i H _ h=>by show i<z.cps.size;simpa using h,fun i H x b _ h=>⟨h.1,fun _=>by
  obtain⟨c,e1,a⟩:=h.2
  rw[aw,dR,e1,a];rfl⟩,fun H _=>by show _=z.cps.size;simp⟩
theorem zBJ {J:It}{items:List V}{Hk:Hp->Prop}(u:Known J items Hk){caps:List Nat}{n:Nat}{σ:St}{g:TG}{C:TT}{D:TE}{F:List V->Hp->Prop}{E:Hp}(cv:St)(k:Nat)(O:items.length<1000)
  (Pv:Nat->List V->Hp->Prop) (G:Pv 0 [] E) (I:∀i a H,i<=items.length->Pv i a H->Hk H/\a.length<=i)
  (l:∀(i:Nat) (x:V) (a:List V) (H:Hp) (ys:St) (v:List V->St->Hp->Prop),(∀c d t,t.length=k->Pv (i+1) c d->v c (cv++t) d)->items[i]?=some x->ys.length=k->Pv i a H->
   g x (cv++ys) H fun f w=>C f w fun b o=>if b=true then D f o fun y j=>v (a++[y]) f j else v a f o)
  (fin:∀a H,Pv items.length a H->F a H) (z:uX caps n σ=cv++bh k none:=by rfl) :
  ∃W:Nat->Nat->List V->St->Hp->Prop,(∃m,W 0 m [] (uX caps n σ) E)/\∀i m a q d,W i m a q d->
   (J.stop i d/\F a d)\/
   (J.go i d/\a.length<sizeLine/\∀x r,J.yld i d x r->g x q r fun f w=>C f w fun b o=>if b=true then D f o fun y j=>∃h,h<m/\W (i+1) h (a++[y]) f j else∃h,h<m/\W (i+1) h a f o):=by
 refine⟨fun i m a q d=>i<=items.length/\m=items.length-i/\(∃ys,ys.length=k/\q=cv++ys)/\Pv i a d,⟨items.length,bp _,rfl,⟨_,by simp,z⟩,G⟩,?_⟩
 rintro i m a q d ⟨hi,rfl,⟨ys,L,rfl⟩,pv⟩
 obtain⟨A,ha⟩:=I i a d hi pv
 by_cases e:i=items.length
 ·subst e
  exact .inl ⟨u.stop d A,fin a d pv⟩
 ·have s:i<items.length:=by omega
  refine .inr ⟨u.go i d A s,by rw[aF];omega,fun x r B=>?_⟩
  obtain⟨M,N⟩:=u.yld i d x r A B
  subst M
  exact l i x a r ys (fun c f j=>∃h,h<items.length-i/\(i+1<=items.length/\h=items.length- (i+1)/\(∃ys,ys.length=k/\f=cv++ys)/\Pv (i+1) c j)) (fun c j t hz p=>⟨items.length- (i+1),by omega,by omega,rfl,⟨t,hz,rfl⟩,p⟩) (N s) L pv
theorem j7 {J:It}{items:List V}{Hk:Hp->Prop}(A:Known J items Hk){caps:List Nat}{n:Nat}{σ:St}{g:TG}{s:TE}{F:List V->Hp->Prop}{u:Hp}(cv:St)(k:Nat)(B:items.length<1000)
  (Pv:Nat->List V->Hp->Prop) (C:Pv 0 [] u) (D:∀i a H,i<=items.length->Pv i a H->Hk H/\a.length<=i)
  (o:∀(i:Nat) (x:V) (a:List V) (H:Hp) (ys:St) (j:List V->St->Hp->Prop),(∀d f v,v.length=k->Pv (i+1) d f->j d (cv++v) f)->items[i]?=some x->ys.length=k->Pv i a H->
   g x (cv++ys) H fun c h=>s c h fun y l=>j (a++[y]) c l)
  (fin:∀a H,Pv items.length a H->F a H) (t:uX caps n σ=cv++bh k none:=by rfl) :
  ∃W:Nat->Nat->List V->St->Hp->Prop,(∃m,W 0 m [] (uX caps n σ) u)/\∀i m a w f,W i m a w f->
   (J.stop i f/\F a f)\/
   (J.go i f/\a.length<sizeLine/\∀x z,J.yld i f x z->g x w z fun c h=>g9 c h fun b q=>if b=true then s c q fun y l=>∃r,r<m/\W (i+1) r (a++[y]) c l else∃r,r<m/\W (i+1) r a c q):=by
 refine zBJ A cv k B Pv C D (fun i x a H ys j E G I p=>?_) fin t
 have:=o i x a H ys j E G I p
 have e:(fun(c:St) (h:Hp)=>g9 c h fun b q=>if b=true then s c q fun y l=>j (a++[y]) c l else j a c q)=fun c h=>s c h fun y l=>j (a++[y]) c l:=by
  funext c h
  unfold g9
  exact if_pos rfl
 rw[e]
 exact this
theorem j8 {J:It}{items:List V}{Hk:Hp->Prop}(h:Known J items Hk){g:TG}{tb:TS}{D:Ends}{σ:St}{H:Hp}(Pv:Nat->St->Hp->Prop)(r:Pv 0 σ H)(s:∀i σ H,i<=items.length->Pv i σ H->Hk H)
  (d:∀(i:Nat) (x:V) (σ:St) (H:Hp) (j:St->Hp->Prop),(∀b a,Pv (i+1) b a->j b a)->items[i]?=some x->Pv i σ H->g x σ H fun l c=>tb {D with nx:=j,ct:=j,bk:=D.nx} l c)
  (fin:∀σ H,Pv items.length σ H->D.nx σ H) :
  ∃W:Nat->Nat->St->Hp->Prop,(∃m,W 0 m σ H)/\∀i m σ H,W i m σ H->
   (J.stop i H/\D.nx σ H)\/(J.go i H/\∃N:St->Hp->Prop,(∀b a,N b a->∃q,q<m/\W (i+1) q b a)/\∀x a,J.yld i H x a->g x σ a fun l c=>tb {D with nx:=N,ct:=N,bk:=D.nx} l c):=by
 refine⟨fun i m σ H=>i<=items.length/\m=items.length-i/\Pv i σ H,⟨items.length,bp _,rfl,r⟩,?_⟩
 rintro i m σ H ⟨hi,rfl,pv⟩
 have n:=s i σ H hi pv
 by_cases e:i=items.length
 ·subst e
  exact .inl ⟨h.stop H n,fin σ H pv⟩
 ·have f:i<items.length:=by omega
  refine .inr ⟨h.go i H n f,Pv (i+1),fun b a p=>⟨items.length- (i+1),by omega,by omega,rfl,p⟩,fun x c o=>?_⟩
  obtain⟨t,u⟩:=h.yld i H x c n o
  subst t
  exact d i x σ c (Pv (i+1)) (fun _ _ p=>p) (u f) pv
theorem kX {c A B:Prop} [Decidable c] (a:c)(h:A):if decide c=true then A else B:=by
 rw[if_pos (decide_eq_true a)];exact h
theorem uZ {c A B:Prop} [Decidable c] (a:¬c)(h:B):if decide c=true then A else B:=by
 rw[if_neg (fun z=>a (of_decide_eq_true z))];exact h
theorem zA.upd_new {H c:Hp}{a:ak}{o:HO}(e:zA H c)(h:H a=none):zA H (upd c a o):=fun b u q=>by
 rw[zG (yG q h)];exact e b u q
theorem zA.upd1 {H:Hp}{a:ak}{o:HO}(h:H a=none):zA H (upd H a o):=(zA.refl H).upd_new h
def zBn (sc:fX)(XN N:List Str)(scope:fX):Nat->List Nat->Bool
 |_,[]=>true
 |i,c::cs=>(match N[i]? with
  |some x=>decide (XN[c]?=some x)&&decide (scope.names.lookup x=some .free)&& (decide (sc.names.lookup x=some .cell)||decide (sc.names.lookup x=some .free))
  |none=>false)&&zBn sc XN N scope (i+1) cs
def zGa (sc:fX)(XN N:List Str)(scope:fX)(caps:List Nat):Bool :=
 decide (scope.kind=.function)&&decide N.Nodup&&scope.names.all (fun y=>decide (y.2≠.cell))&&scope.names.all (fun y=>decide (y.2=.local->scope.names.lookup y.1=some .local))&&
 scope.names.all (fun y=>decide (y.2=.free->sc.names.lookup y.1=some .cell\/sc.names.lookup y.1=some .free))&&zBn sc XN N scope 0 caps&&decide (caps.length<=N.length)
theorem zGb {g:fX}{l N:List Str}{scope:fX}:∀{caps:List Nat}{j:Nat},zBn g l N scope j caps=true->∀i,i<caps.length->
  ∃x,N[j+i]?=some x/\l[caps.getD i 0]?=some x/\scope.names.lookup x=some .free/\(g.names.lookup x=some .cell\/g.names.lookup x=some .free)
 | [],_,_,i,hi=>by simp at hi
 |c::o,j,h,i,hi=>by
  unfold zBn at h
  rw[aO]at h
  obtain⟨f,m⟩:=h
  cases i with
  |zero=>
   cases e:N[j]? with
   |none=>rw[e]at f;cases f
   |some x=>
    rw[e]at f
    simp only[aO,jl,decide_eq_true_eq]at f
    exact⟨x,by simpa using e,by simpa using f.1.1,f.1.2,f.2⟩
  |succ i=>
   obtain⟨x,a,b,n,d⟩:=zGb m i (by simpa using hi)
   exact⟨x,by rw[<-a];congr 1;omega,by simpa using b,n,d⟩
theorem uH {j:fX}{l N:List Str}{scope:fX}{caps:List Nat}(h:zGa j l N scope caps=true):CompScope j l N scope caps:=by
 unfold zGa at h
 simp only[aO,decide_eq_true_eq,da]at h
 obtain⟨⟨⟨⟨⟨⟨a,b⟩,c⟩,d⟩,e⟩,f⟩,g⟩:=h
 exact⟨a,b,c,d,e,fun i hi=>by simpa using zGb f i hi,g⟩
section
variable{X:Cx}{pins:List (ak×Obj)}{σ:St}{H:Hp}{s:ao}
theorem Inv.turnedT {fp:List ak}{h':bE}{t':Nat}{T:ak}{o:HO}(I:Inv X pins σ H s)(k:∀b u,b∉fp->s.heap.get? b=some u->h'.get? b=some u)(hf:∀b∈fp,uT X pins H b)(g:s.heap.get? T=none)
  (new:yS X.prog X.w (upd H T o) h' T o):Inv X pins σ (upd H T o) {s with heap:=h',toks:=t'}:=by
 have h:H T=none:=I.hok.free g
 have d:∀b u,H b=some u->b∉fp:=fun b u e z=>by rw[(hf b z).1]at e;cases e
 have f:zA H (upd H T o):=zA.upd1 h
 have old:∀b (u:Obj),s.heap.get? b=some u->upd H T o b=H b:=fun b u e=>by
  rw[zG]
  rintro rfl
  rw[g]at e;cases e
 refine I.step (g':=s.gens) (d':=s.drawn) (ch:=fp) (fun b hb=>?_) (fun b o _ _ a e _=>k b o a e) (fun b o _ _ a e _=>⟨o.slots,k b o a e⟩) (fun b u _ e n=>by rw[old b u e];exact n)
  (fun b o a e=>⟨o,k b o a e⟩) (fun b xs e=>f _ _ e) (fun b u v e=>f _ _ e) (fun b ps e=>⟨#[],by rw[f _ _ e];simp⟩) (fun m i=>?_) (fun b u e=>?_) I.bare
 ·obtain⟨y,f1,f2,j,l,p⟩:=hf b hb
  exact⟨j,f1,l,p⟩
 ·obtain⟨o,t,ep,x,r⟩:=i
  exact⟨o,t,ep,k _ o (fun z=>(hf _ z).2.1 rfl) x,r⟩
 ·by_cases hb:b=T
  ·subst hb;rw[zE]at e;cases e;exact new
  ·rw[zG hb]at e
   refine(I.hok b u e).stay (fun c v a q=>k c v ?_ q) (fun c q=>?_) fun c xs q=>?_
   ·rcases a with z|z
    ·rw[z];exact d b u e
    ·exact d c _ z
   ·exact f _ _ q
   ·exact f _ _ q
end
def Ite (K:ag)(a:ak):It :=
 ⟨fun i H=>∃xs x,zZ K H a xs/\xs[i]?=some x,fun i H x H'=>∃T y,x=.ref T/\H T=none/\H'=upd H T (.tup [.int i,y])/\∀xs,zZ K H a xs->xs[i]?=some y,fun i H=>∃xs,zZ K H a xs/\xs.length=i⟩
theorem zLv {P:aJ}{w:aY}{K:ag}{B:List bJ}{k:Nat}{pos:Pos}(a e it:ak)(m:e≠it):Turn P w K (.Tuple B k pos) (Ite K a) [e,it] e (fun i h=>(∃old,IsEnum h e it i old)/\h.IsListIter it a i) where
 mem:=by simp
 obj:=fun i h st b hb=>by
  obtain⟨⟨old,f⟩,hit⟩:=st
  rcases aG.mp hb with z|z
  ·subst z;exact⟨_,f,fun v z=>by cases z⟩
  ·have O:b=it:=by simpa using z
   subst O
   obtain⟨o,e,c,d⟩:=hit
   exact⟨o,e,fun v z=>by rw[d]at z;cases z⟩
 keep:=fun i h h' st kk=>⟨let⟨old,f⟩:=st.1;⟨old,kk e (by simp) _ f⟩,st.2.at fun o x=>kk it (by simp) o x⟩
 item:=by
  intro X C R T U i F s σ H E I hf st W
  subst C R T
  obtain⟨xs,x,M,Y⟩:=W
  obtain⟨its,Z,p,hz⟩:=I.list M
  obtain⟨u,hu,ru⟩:=Z.get Y
  obtain⟨⟨old,f⟩,hit⟩:=id st
  have aa:e≠a:=fun z=>by
   subst z
   obtain⟨o,y,j,_⟩:=p.isList
   rw[f]at y;cases y
   have ab:Value.type "enumerate"=Value.type "list" :=j
   exact absurd ab (by decide)
  have n:a≠it:=fun z=>by
   subst z
   obtain⟨o,y,j,_⟩:=p.isList
   obtain⟨o',l,G,_⟩:=hit
   rw[y]at l;cases l;rw[j]at G;exact absurd G (by decide)
  have D:=iX (prog:=X.prog) (w:=X.w) (A:=X.A.in1) (show X.A.in1.handled=none from I.ok.hd U) it a n its.toArray
  have ac:i<its.toArray.size:=by
   have:=(ai.mp hu).1
   simpa using this
  refine lW D f ⟨hit,p.isList⟩ ac m (by simp[m,aa]) fun N h' tk C ho al hT hsz hk=>?_
  have am:N=u:=by
   have:its[i]?=some N:=by simpa using C
   rw[hu]at this;exact(aD this).symm
  subst am
  refine⟨_,rfl,km ho fun j an r=>?_⟩
  have t:s.heap.get? s.heap.objs.size=none:=by
   cases g:s.heap.get? s.heap.objs.size with
   |none=>rfl
   |some o=>exact absurd (aE g) (bH _)
  have J:e<s.heap.objs.size:=aE f
  have ap:j.get? s.heap.objs.size=some {cls:=.type "tuple",data:=.seq #[.int i tk,N]}:=(r.2 _ (cS J)).trans hT
  refine⟨.ref s.heap.objs.size,upd H s.heap.objs.size (.tup [.int i,x]),I.turnedT (fp:=[e,it]) (h':=j) (t':=tk+1) (fun b o hb q=>?_) hf t ⟨by show 2<=sizeLine;decide,[.int i tk,N],.cons ⟨tk,rfl⟩ (.cons ru .nil),⟨_,ap,rfl,_,rfl⟩⟩,rfl,
   ⟨_,x,rfl,I.hok.free t,rfl,fun ys hy=>by rw[I.list_inj hy M];exact Y⟩,⟨⟨_,by simpa using an⟩,al.1.at fun o q=>(r.2 it (d5 m)).trans q⟩,fun b hb=>?_⟩
  ·have L:b≠e:=fun z=>hb (by simp[z])
   have as:b≠it:=fun z=>hb (by simp[z])
   exact(r.2 b L).trans (hk b o L as q)
  ·rw[zG]
   ·exact(hf b hb).1
   ·rintro rfl
    rcases aG.mp hb with z|z
    ·exact absurd J (by rw[z];exact bH _)
    ·have O:s.heap.objs.size=it:=by simpa using z
     obtain⟨o,l,_⟩:=hit
     rw[<-O,t]at l;cases l
 done:=by
  intro X C R T U i F s σ H E I hf st W
  subst C R T
  obtain⟨xs,M,Y⟩:=W
  obtain⟨its,Z,p,hz⟩:=I.list M
  obtain⟨⟨old,f⟩,hit⟩:=id st
  have hl:=Z.length
  have n:a≠it:=fun z=>by
   subst z
   obtain⟨o,y,j,_⟩:=p.isList
   obtain⟨o',l,G,_⟩:=hit
   rw[y]at l;cases l;rw[j]at G;exact absurd G (by decide)
  have D:=iX (prog:=X.prog) (w:=X.w) (A:=X.A.in1) (show X.A.in1.handled=none from I.ok.hd U) it a n its.toArray
  obtain⟨f0,f1,f2,f3,f4,f5⟩:=hf it (by simp)
  have hi:its.toArray.size=i:=by rw[aH];omega
  refine mD D f ⟨by rw[hi];exact hit,p.isList⟩ fun h' eb=>⟨rfl,I.turned (t':=s.toks) (fun b o hb e=>eb b o hb e) f0 f1 f3 f4 f5⟩
 self:=fun A i s Q E st h=>let⟨old,f⟩:=st.1;iI f h
section
variable{X:Cx}{elts:List bJ}{k:Nat}{tpos:Pos}
def zLw (K:ag)(ta:TA):TI:=fun σ H R=>ta σ H fun vs H1=>∃a xs,vs=[.ref a]/\H1 a=some (.lst xs)/\R (Ite K a) H1
theorem zGc {e:bJ}{i:TA}{p pos:Pos}(m:Gl X "enumerate")(o:X.mg "enumerate"=none)(ha:PA X [e] i)(t:starEach [e] X.env=[(false,eval e X.env)]:=by rfl):PI X (.Tuple elts k tpos) (.Call (.Name "enumerate" p) [e] [] pos) (zLw X.K i):=by
 intro c s σ H R I h
 refine Call_ (qZ I m o qm (cJ (zI (ha pos c s σ H _ I h) fun C d ⟨vs,j,g,v,w⟩=>?_) t rfl))
 obtain⟨a,xs,rfl,hl,q⟩:=w
 obtain⟨u,rfl,x⟩:=uF v
 cases x
 obtain⟨z,its,n,r,y⟩:=g.hok a _ hl
 refine call_enumerate_1 y fun h' l hit hsz A=>?_
 have B:Inv X c σ j {d with heap:=h'}:=g.kept (t':=d.toks) A
 refine iI l ⟨_,[d.heap.objs.size+1,d.heap.objs.size],_,_,j,rfl,B,zLv a _ _ (pA _),⟨⟨_,l⟩,hit⟩,fun b hb=>?_,q⟩
 have f:d.heap.objs.size<=b:=by
  rcases aG.mp hb with z|z
  ·rw[z];exact gm _
  ·have:b=d.heap.objs.size:=by simpa using z
   rw[this];exact ay _
 exact g.fpOk f (g.hok.fresh f)
theorem zGd {K:ag}{a:ak}{xs:List V}{g:TG}{tb:TS}{D:Ends}{σ:St}{H:Hp}(Pv:Nat->St->Hp->Prop)(r:Pv 0 σ H)(s:∀i σ H,i<=xs.length->Pv i σ H->zZ K H a xs)
  (d:∀(i:Nat) (x:V) (T:ak) (σ:St) (H:Hp) (h:St->Hp->Prop),(∀c b,Pv (i+1) c b->h c b)->xs[i]?=some x->Pv i σ H->H T=none->g (.ref T) σ (upd H T (.tup [.int i,x])) fun j f=>tb {D with nx:=h,ct:=h,bk:=D.nx} j f)
  (fin:∀σ H,Pv xs.length σ H->D.nx σ H) :
  ∃W:Nat->Nat->St->Hp->Prop,(∃m,W 0 m σ H)/\∀i m σ H,W i m σ H->
   ((Ite K a).stop i H/\D.nx σ H)\/((Ite K a).go i H/\∃N:St->Hp->Prop,(∀c b,N c b->∃q,q<m/\W (i+1) q c b)/\∀x b,(Ite K a).yld i H x b->g x σ b fun j f=>tb {D with nx:=N,ct:=N,bk:=D.nx} j f):=by
 refine⟨fun i m σ H=>i<=xs.length/\m=xs.length-i/\Pv i σ H,⟨xs.length,bp _,rfl,r⟩,?_⟩
 rintro i m σ H ⟨hi,rfl,pv⟩
 have l:=s i σ H hi pv
 by_cases e:i=xs.length
 ·subst e
  exact .inl ⟨⟨xs,l,rfl⟩,fin σ H pv⟩
 ·have n:i<xs.length:=by omega
  refine .inr ⟨⟨xs,xs[i],l,aq n⟩,Pv (i+1),fun c b p=>⟨xs.length- (i+1),by omega,by omega,rfl,p⟩,fun x f o=>?_⟩
  obtain⟨T,y,rfl,t,rfl,u⟩:=o
  exact d i y T σ H (Pv (i+1)) (fun _ _ p=>p) (u xs l) pv t
theorem zLx:gH X "str.endswith" (fun x vs H Q=>∃a b:Str,x=.str a/\vs=[.str b]/\Q (.bl (ju a b)) H):=by
 intro c s σ H x vs v g Q I d e h
 obtain⟨a,b,rfl,rfl,q⟩:=h
 obtain⟨t,rfl⟩:=d
 obtain⟨u,rfl,f⟩:=uF e
 obtain⟨t',rfl⟩:=f
 exact SC.endswith ⟨.bl _,H,I,rfl,q⟩
end
section
variable{prog:aJ}{w:aY}{A:bO}{E:aj->ao->Prop}{s:ao}
theorem zLy {it t:ak}{i:Nat}{items}{x:aj}{Q:aj->ao->Prop}(hit:s.heap.IsTupleIter it t i)(d:s.heap.IsTuple t items)(e:items[i]?=some x)
  (f:∀h',h'.IsTupleIter it t (i+1)->gq it s.heap h'->Q x {s with heap:=h'}):wpAny (model prog w) A (b0 (.ref it)) Q E s:=by
 obtain⟨o,a,g,hd⟩:=id hit
 obtain⟨ol,b,_,nl,c⟩:=d
 unfold b0
 refine af (bS (name:=b8 "__next__") hit.typeIs eP (bT eP hit.typeIs jv ?_ (jm _)))
 show wpAny _ _ (field (.ref it) 0>>=_) _ _ s
 refine af (cM a hd (x:=.ref t) rfl ?_)
 show wpAny _ _ (if(Value.ref t==Value.none)=true then _ else _) _ _ s
 rw[if_neg (show ¬((Value.ref t==Value.none)=true)from aV)]
 show wpAny _ _ (field (.ref it) 1>>=_) _ _ s
 refine af (cM a hd (x:=.int i 0) rfl ?_)
 show wpAny _ _ (seqItems? (.ref t)>>=_) _ _ s
 refine af (di b c ?_)
 simp only[dh,e]
 refine af (qo a hd (by simp) (ar ⟨x,rfl,ar (f _ ?_ (ic ..))⟩))
 exact⟨_,gh _ a (Obj.isFreed_of_fields (n8 hd _)),(Obj.cls_mapFields ..).trans g,by rw[n8 hd];simp[rawInt]⟩
theorem zLz {it t:ak}{i:Nat}{items}{Q:aj->ao->Prop}(f:A.handled=none)(hit:s.heap.IsTupleIter it t i)(g:s.heap.IsTuple t items)(h:items[i]?=none)
  (j:∀h' e,Heap.ExtBut it s.heap h'->(∃o,h'.get? e=some o/\o.cls=.type "StopIteration")->E (.ref e) {s with heap:=h'}):wpAny (model prog w) A (b0 (.ref it)) Q E s:=by
 obtain⟨o,b,l,hd⟩:=id hit
 obtain⟨ol,c,_,nl,d⟩:=g
 unfold b0
 refine af (bS (name:=b8 "__next__") hit.typeIs eP (bT eP hit.typeIs jv ?_ (jm _)))
 show wpAny _ _ (field (.ref it) 0>>=_) _ _ s
 refine af (cM b hd (x:=.ref t) rfl ?_)
 show wpAny _ _ (if(Value.ref t==Value.none)=true then _ else _) _ _ s
 rw[if_neg (show ¬((Value.ref t==Value.none)=true)from aV)]
 show wpAny _ _ (field (.ref it) 1>>=_) _ _ s
 refine af (cM b hd (x:=.int i 0) rfl ?_)
 show wpAny _ _ (seqItems? (.ref t)>>=_) _ _ s
 refine af (di c d ?_)
 simp only[dh,h]
 refine af (fR (af (qo b hd (by simp) ?_)))
 show wpAny _ _ (newExc (.type "StopIteration") []>>=_) _ _ _
 refine af ?_
 simp only[newExc,newTuple]
 refine af (cj ?_ (by size_fits))
 refine af (m:=firstArgMember _ _) (ng (a:=Value.none) (by first|rfl|(simp only[firstArgMember];rfl)) ?_)
 refine cj ?_ (by size_fits)
 simp only[raiseNew]
 refine af (rX ?_)
 first|rw[show A.in1.handled=none from f]|rw[f]
 refine af (ar (wpAny_throw ?_))
 exact j _ _ (((ic ..).extBut.push _).push _) ⟨_,aA _ rfl,rfl⟩
end
theorem zDJ {prog:aJ}{w:aY}{A:bO}(f:A.handled=none)(it l:ak)(c:l≠it)(items:Array aj) :
  lV prog w A it [it,l] items.size (fun i v=>items[i]?=some v) (fun i h=>h.IsTupleIter it l i/\h.IsTuple l items) where
 live:=fun _ _ st=>let⟨o,g,_⟩:=st.1;⟨o,g⟩
 frame:=fun _ _ _ st d=>⟨st.1.at fun o e=>d it (by simp) o e,let⟨o,e,r⟩:=st.2;⟨o,d l (by simp) o e,r⟩⟩
 item:=fun i s Q E hi st j=>zLy st.1 st.2 (x:=items[i]) (by simp[hi]) fun h' a b=>j _ h' s.toks (by simp[hi]) ⟨a,st.2.extBut b.extBut c⟩ b
 done:=fun s Q E st m=>zLz f st.1 st.2 (by simp) m
structure Side (z TI TO i1 i2:ak) (fp1 fp2:List ak):Prop where
 TIz:TI≠z
 TOz:TO≠z
 i1z:i1≠z
 i2z:i2≠z
 TITO:TI≠TO
 TIi1:TI≠i1
 TIi2:TI≠i2
 TOi1:TO≠i1
 TOi2:TO≠i2
 i12:i1≠i2
 f1:∀c∈fp1,c≠z/\c≠TO/\c≠i2
 f2:∀c∈fp2,c≠z/\c≠TO/\c≠i1
section
variable{prog:aJ}{w:aY}{A:bO}{E:aj->ao->Prop}{s:ao}{z TI TO i1 i2:ak}{fp1 fp2:List ak}{n1 n2:Nat}{P1 P2:Nat->aj->Prop}{T1 T2:Nat->bE->Prop}{k:Nat}{a b:aj}
theorem zMA {Q:aj->ao->Prop}(N:lV prog w A i1 fp1 n1 P1 T1)(H:lV prog w A i2 fp2 n2 P2 T2)(D:Side z TI TO i1 i2 fp1 fp2)
  (hz:iJ s.heap z TI TO .none) (P:dI s.heap TI (.ref i1) (.ref i2)) (R:dI s.heap TO a b) (t1:T1 k s.heap) (t2:T2 k s.heap) (l1:k<n1) (l2:k<n2)
  (hQ:∀x y h' tk,P1 k x->P2 k y->iJ h' z TI TO (rawInt s.heap.objs.size)->dI h' TO x y->T1 (k+1) h'->T2 (k+1) h'->dI h' s.heap.objs.size x y->h'.objs.size=s.heap.objs.size+1->
   (∀c o,c≠z->c≠TO->c≠i1->c≠i2->s.heap.get? c=some o->h'.get? c=some o)->Q (.ref s.heap.objs.size) {s with heap:=h',toks:=tk}) :
  wpAny (model prog w) A (cQ.«zip.__next__» ⟨[.ref z],[]⟩) (fun fin s'=>∃v,fin=.done (.ret v)/\Q v s') E s:=by
 show wpAny _ _ (field (.ref z) 2>>=_) _ _ _
 refine af (cM hz rfl (x:=.bool false) rfl ?_)
 show wpAny _ _ (field (.ref z) 3>>=_) _ _ _
 refine af (cM hz rfl (x:=.ref TI) rfl ?_)
 refine af (di P rfl ?_)
 show wpAny _ _ (cc (.ref z)>>=_) _ _ _
 refine af ?_
 unfold cc
 refine af (cM hz rfl (x:=.none) rfl (ar ?_))
 simp only[if_true]
 refine af (fR ?_)
 refine af (cM hz rfl (x:=.ref TO) rfl ?_)
 refine af (bZ hz (by simp) fun h₁ u h=>?_)
 replace u:iJ h₁ z TI TO .ellipsis:=u
 refine af ?_
 simp only[lX,mJ,e7,fE]
 refine af (af (i8 ?_))
 show wpAny _ _ (b0 (.ref i1)>>=_) _ _ _
 have T:T1 k h₁:=N.frame _ _ _ t1 fun c d o e=>h.extBut _ _ (D.f1 c d).1 e
 have U:T2 k h₁:=H.frame _ _ _ t2 fun c d o e=>h.extBut _ _ (D.f2 c d).1 e
 refine af (N.item k _ _ _ l1 T fun x h₂ al px W i=>ar ?_)
 have q:dI h₂ TO a b:=i.extBut _ _ D.TOi1 (h.extBut _ _ D.TOz R)
 refine af (di q rfl ?_)
 refine af (je q fun h₃ j l=>?_)
 replace j:dI h₃ TO x b:=j
 refine af (nh (ar ?_))
 refine af (af (i8 ?_))
 show wpAny _ _ (b0 (.ref i2)>>=_) _ _ _
 have X:T2 k h₃:=H.frame _ _ _ U fun c d o e=>l.extBut _ _ (D.f2 c d).2.1 (i.extBut _ _ (D.f2 c d).2.2 e)
 refine af (H.item k _ _ _ l2 X fun y h₄ am py Y m=>ar ?_)
 have r:dI h₄ TO x b:=m.extBut _ _ D.TOi2 j
 refine af (di r rfl ?_)
 refine af (je r fun f g n=>?_)
 replace g:dI f TO x y:=g
 refine af (nh (ar (ar ?_)))
 refine af (di g rfl ?_)
 refine af (kj ?_)
 have hsz:f.objs.size=s.heap.objs.size:=by rw[n.1,m.1,l.1,i.1,h.1]
 have I:iJ f z TI TO .ellipsis:=n.extBut _ _ D.TOz.symm (m.extBut _ _ D.i2z.symm (l.extBut _ _ D.TOz.symm (i.extBut _ _ D.i1z.symm u)))
 have Z:∀c o,c≠z->c≠TO->c≠i1->c≠i2->s.heap.get? c=some o->f.get? c=some o:=fun c o B O c3 c4 e=>
  n.extBut _ _ O (m.extBut _ _ c4 (l.extBut _ _ O (i.extBut _ _ c3 (h.extBut _ _ B e))))
 have aa:T1 (k+1) f:=N.frame _ _ _ W fun c d o e=>n.extBut _ _ (D.f1 c d).2.1 (m.extBut _ _ (D.f1 c d).2.2 (l.extBut _ _ (D.f1 c d).2.1 e))
 have ab:T2 (k+1) f:=H.frame _ _ _ Y fun c d o e=>n.extBut _ _ (D.f2 c d).2.1 e
 have t:z<f.objs.size:=aE I
 show wpAny _ _ (ie (.ref z) (.ref f.objs.size)>>=_) _ _ _
 refine af ?_
 unfold ie
 have ac:iJ (f.push {cls:=.type "tuple",data:=.seq #[x,y]}) z TI TO .ellipsis:=ae _ I
 refine af (bZ ac (by simp) fun h₇ C F=>?_)
 replace C:iJ h₇ z TI TO (rawInt f.objs.size):=C
 refine bZ C (by simp) fun J p G=>?_
 replace p:iJ J z TI TO (rawInt f.objs.size):=p
 have up:∀c o,c≠z->f.get? c=some o->J.get? c=some o:=fun c o B e=>G.extBut _ _ B (F.extBut _ _ B (ae _ e))
 have L:dI J f.objs.size x y:=G.extBut _ _ (cS t) (F.extBut _ _ (cS t) (aA _ rfl))
 have M:J.objs.size=f.objs.size+1:=by rw[G.1,F.1,bF]
 rw[hsz]at p L M
 refine ar ⟨_,rfl,?_⟩
 show Q (.ref f.objs.size) _
 rw[hsz]
 exact hQ x y J _ px py p (up _ _ D.TOz g) (N.frame _ _ _ aa fun c d o e=>up c o (D.f1 c d).1 e) (H.frame _ _ _ ab fun c d o e=>up c o (D.f2 c d).1 e) L M fun c o B O c3 c4 e=>up c o B (Z c o B O c3 c4 e)
theorem zMB {Q:Fin->ao->Prop}(q:lV prog w A i1 fp1 n1 P1 T1)(I:lV prog w A i2 fp2 n2 P2 T2)(D:Side z TI TO i1 i2 fp1 fp2)
  (hz:iJ s.heap z TI TO .none) (m:dI s.heap TI (.ref i1) (.ref i2)) (t:dI s.heap TO a b) (u:T1 n1 s.heap)
  (v:∀h' e,(∀c o,c≠z->c≠TO->c≠i1->c≠i2->s.heap.get? c=some o->h'.get? c=some o)->(∃o,h'.get? e=some o/\o.cls=.type "StopIteration")->E (.ref e) {s with heap:=h'}) :
  wpAny (model prog w) A (cQ.«zip.__next__» ⟨[.ref z],[]⟩) Q E s:=by
 show wpAny _ _ (field (.ref z) 2>>=_) _ _ _
 refine af (cM hz rfl (x:=.bool false) rfl ?_)
 show wpAny _ _ (field (.ref z) 3>>=_) _ _ _
 refine af (cM hz rfl (x:=.ref TI) rfl ?_)
 refine af (di m rfl ?_)
 show wpAny _ _ (cc (.ref z)>>=_) _ _ _
 refine af ?_
 unfold cc
 refine af (cM hz rfl (x:=.none) rfl (ar ?_))
 simp only[if_true]
 refine af (fR ?_)
 refine af (cM hz rfl (x:=.ref TO) rfl ?_)
 refine af (bZ hz (by simp) fun h₁ d g=>?_)
 replace d:iJ h₁ z TI TO .ellipsis:=d
 refine af ?_
 simp only[lX,mJ,e7,fE]
 refine af (af (i8 ?_))
 show wpAny _ _ (b0 (.ref i1)>>=_) _ _ _
 have n:T1 n1 h₁:=q.frame _ _ _ u fun c y o e=>g.extBut _ _ (D.f1 c y).1 e
 refine af (q.done _ _ _ n fun B e h C=>?_)
 obtain⟨F,f,i⟩:=C
 have j:iJ B z TI TO .ellipsis:=h _ _ D.i1z.symm d
 have p:e≠z:=fun x=>by subst x;rw[j]at f;cases f;simp at i
 refine bZ j (by simp) fun G _ l=>v G e (fun c o r _ H _ x=>l.extBut _ _ r (h _ _ H (g.extBut _ _ r x))) ⟨F,l.extBut _ _ p f,i⟩
theorem zMC {Q:Fin->ao->Prop}(F:lV prog w A i1 fp1 n1 P1 T1)(r:lV prog w A i2 fp2 n2 P2 T2)(D:Side z TI TO i1 i2 fp1 fp2)
  (hz:iJ s.heap z TI TO .none) (t:dI s.heap TI (.ref i1) (.ref i2)) (u:dI s.heap TO a b) (I:T1 n2 s.heap) (J:n2<n1) (L:T2 n2 s.heap)
  (M:∀h' e tk,(∀c o,c≠z->c≠TO->c≠i1->c≠i2->s.heap.get? c=some o->h'.get? c=some o)->(∃o,h'.get? e=some o/\o.cls=.type "StopIteration")->E (.ref e) {s with heap:=h',toks:=tk}) :
  wpAny (model prog w) A (cQ.«zip.__next__» ⟨[.ref z],[]⟩) Q E s:=by
 show wpAny _ _ (field (.ref z) 2>>=_) _ _ _
 refine af (cM hz rfl (x:=.bool false) rfl ?_)
 show wpAny _ _ (field (.ref z) 3>>=_) _ _ _
 refine af (cM hz rfl (x:=.ref TI) rfl ?_)
 refine af (di t rfl ?_)
 show wpAny _ _ (cc (.ref z)>>=_) _ _ _
 refine af ?_
 unfold cc
 refine af (cM hz rfl (x:=.none) rfl (ar ?_))
 simp only[if_true]
 refine af (fR ?_)
 refine af (cM hz rfl (x:=.ref TO) rfl ?_)
 refine af (bZ hz (by simp) fun h₁ h d=>?_)
 replace h:iJ h₁ z TI TO .ellipsis:=h
 refine af ?_
 simp only[lX,mJ,e7,fE]
 refine af (af (i8 ?_))
 show wpAny _ _ (b0 (.ref i1)>>=_) _ _ _
 have v:T1 n2 h₁:=F.frame _ _ _ I fun c l o e=>d.extBut _ _ (D.f1 c l).1 e
 have y:T2 n2 h₁:=r.frame _ _ _ L fun c l o e=>d.extBut _ _ (D.f2 c l).1 e
 refine af (F.item n2 _ _ _ J v fun x N O px P f=>ar ?_)
 have g:dI N TO a b:=f.extBut _ _ D.TOi1 (d.extBut _ _ D.TOz u)
 refine af (di g rfl ?_)
 refine af (je g fun R G i=>?_)
 refine af (nh (ar ?_))
 refine af (af (i8 ?_))
 show wpAny _ _ (b0 (.ref i2)>>=_) _ _ _
 have B:T2 n2 R:=r.frame _ _ _ y fun c l o e=>i.extBut _ _ (D.f2 c l).2.1 (f.extBut _ _ (D.f2 c l).2.2 e)
 refine af (r.done _ _ _ B fun T e m U=>?_)
 obtain⟨W,j,n⟩:=U
 have p:iJ T z TI TO .ellipsis:=m _ _ D.i2z.symm (i.extBut _ _ D.TOz.symm (f.extBut _ _ D.i1z.symm h))
 have C:e≠z:=fun x=>by subst x;rw[p]at j;cases j;simp at n
 refine bZ p (by simp) fun X _ q=>M X e _ (fun c o H Y Z c4 x=>q.extBut _ _ H (m _ _ c4 (i.extBut _ _ Y (f.extBut _ _ Z (d.extBut _ _ H x))))) ⟨W,q.extBut _ _ C j,n⟩
theorem zGe {Q:Option aj->ao->Prop}(g:lV prog w A.in1 i1 fp1 n1 P1 T1)(h:lV prog w A.in1 i2 fp2 n2 P2 T2)(D:Side z TI TO i1 i2 fp1 fp2)
  (hz:iJ s.heap z TI TO .none) (d:dI s.heap TI (.ref i1) (.ref i2)) (e:dI s.heap TO a b) (i:T1 k s.heap) (j:T2 k s.heap) (l:k<n1) (m:k<n2)
  (n:∀x y h' tk,P1 k x->P2 k y->iJ h' z TI TO (rawInt s.heap.objs.size)->dI h' TO x y->T1 (k+1) h'->T2 (k+1) h'->dI h' s.heap.objs.size x y->h'.objs.size=s.heap.objs.size+1->
   (∀c o,c≠z->c≠TO->c≠i1->c≠i2->s.heap.get? c=some o->h'.get? c=some o)->Q (some (.ref s.heap.objs.size)) {s with heap:=h',toks:=tk}):wpAny (model prog w) A (pyNext (.ref z)) Q E s:=by
 have f:s.TypeIs (.ref z) "zip" :=⟨_,hz,rfl⟩
 unfold pyNext
 exact af (f9 (bS (name:=b8 "__next__") f f6
  (bT f6 f lY (zMA g h D hz d e i j l m fun x y h' tk p q r t u v B C F=>ar (n x y h' tk p q r t u v B C F)) (lC _))))
theorem zGf {Q:Option aj->ao->Prop}(m:lV prog w A.in1 i1 fp1 n1 P1 T1)(n:lV prog w A.in1 i2 fp2 n2 P2 T2)(D:Side z TI TO i1 i2 fp1 fp2)
  (hz:iJ s.heap z TI TO .none) (d:dI s.heap TI (.ref i1) (.ref i2)) (f:dI s.heap TO a b) (p:T1 k s.heap) (r:T2 k s.heap) (g:k=n1\/k<n1/\k=n2)
  (q:∀h' tk,(∀c o,c≠z->c≠TO->c≠i1->c≠i2->s.heap.get? c=some o->h'.get? c=some o)->Q none {s with heap:=h',toks:=tk}):wpAny (model prog w) A (pyNext (.ref z)) Q E s:=by
 have h:s.TypeIs (.ref z) "zip" :=⟨_,hz,rfl⟩
 unfold pyNext
 rcases g with rfl|⟨t,rfl⟩
 ·refine af (f9 (bS (name:=b8 "__next__") h f6
   (bT f6 h lY (zMB m n D hz d f p fun h' e g i=>?_) (lC _))))
  obtain⟨o,j,l⟩:=i
  refine af (iY (T :="StopIteration") (b:=true) ⟨o,j,l⟩ nj ?_)
  exact ar (q _ s.toks g)
 ·refine af (f9 (bS (name:=b8 "__next__") h f6
   (bT f6 h lY (zMC m n D hz d f p t r fun h' e tk g i=>?_) (lC _))))
  obtain⟨o,j,l⟩:=i
  refine af (iY (T :="StopIteration") (b:=true) ⟨o,j,l⟩ nj ?_)
  exact ar (q _ tk g)
end
theorem zMD (a b:ak)(xs ys:Array aj) :
  Meets (cQ.«zip.__new__» ⟨[.type "zip",.ref a,.ref b],[]⟩) (fun _ R s=>s.heap.IsList a xs/\s.heap.IsTuple b ys/\
   R (.ok (.ret (.ref (s.heap.objs.size+4)))) {s with heap:=((((s.heap.push {cls:=.type "list_iterator",data:=.fields #[.ref a,.int 0 0]}).push {cls:=.type "tuple_iterator",data:=.fields #[.ref b,.int 0 0]}).push {cls:=.type "tuple",data:=.seq #[.ref s.heap.objs.size,.ref (s.heap.objs.size+1)]}).push {cls:=.type "tuple",data:=.seq #[.none,.none]}).push {cls:=.type "zip",data:=.fields #[.none,.bool false,.bool false,.ref (s.heap.objs.size+2),.ref (s.heap.objs.size+3)]}}) :=
 .of_wp fun prog w A R s h=>by
  obtain⟨f,g,d,tk,os⟩:=s;obtain⟨hl1,hl2,h⟩:=h
  have i:=sub_zip
  have c:tH (lD ⟨f,g,d,tk,os⟩) a xs:=hl1
  have e:oJ (lD ⟨f.push {cls:=.type "list_iterator",data:=.fields #[.ref a,.int 0 0]},g,d,tk,os⟩) b ys:=oK hl2 _
  wp_walk using d8 c,fM e
  refine⟨_,rfl,?_⟩
  simp only[bF]at*
  exact h
section
variable{prog:aJ}{w:aY}{A:bO}{E:aj->ao->Prop}{s:ao}
theorem zME {a b:ak}{xs ys:Array aj}{Q:aj->ao->Prop}(hl1:s.heap.IsList a xs)(hl2:s.heap.IsTuple b ys)
  (h:∀h',iJ h' (s.heap.objs.size+4) (s.heap.objs.size+2) (s.heap.objs.size+3) .none->dI h' (s.heap.objs.size+2) (.ref s.heap.objs.size) (.ref (s.heap.objs.size+1))->
   dI h' (s.heap.objs.size+3) .none .none->h'.IsListIter s.heap.objs.size a 0->h'.IsTupleIter (s.heap.objs.size+1) b 0->
   (∀c o,s.heap.get? c=some o->h'.get? c=some o)->Q (.ref (s.heap.objs.size+4)) {s with heap:=h'}) :
  wpAny (model prog w) A (call (.type "zip") [.ref a,.ref b]) Q E s:=by
 refine callType_new sL (by decide) (pB _ _) (pR _ _) (fun obj=>nk obj _ _) pS (zMD a b xs ys) ⟨hl1,hl2,?_⟩
 have d:∀(h:bE) (o:Obj) (n:Nat),h.objs.size=n->o.isFreed=false->(h.push o).get? n=some o:=fun h o n e f=>by subst e;exact aA _ f
 have g:∀(h:bE) (o:Obj) (n:Nat),h.objs.size=n->(h.push o).objs.size=n+1:=fun h o n e=>by rw[bF,e]
 have i:=g s.heap {cls:=.type "list_iterator",data:=.fields #[.ref a,.int 0 0]} _ rfl
 have j:=g _ {cls:=.type "tuple_iterator",data:=.fields #[.ref b,.int 0 0]} _ i
 have l:=g _ {cls:=.type "tuple",data:=.seq #[.ref s.heap.objs.size,.ref (s.heap.objs.size+1)]} _ j
 have p:=g _ {cls:=.type "tuple",data:=.seq #[.none,.none]} _ l
 have m:=d _ {cls:=.type "zip",data:=.fields #[.none,.bool false,.bool false,.ref (s.heap.objs.size+2),.ref (s.heap.objs.size+3)]} _ p rfl
 show _/\_
 exact⟨⟨_,m,rfl⟩,h _ m (ae _ (ae _ (d _ _ _ j rfl))) (ae _ (d _ _ _ l rfl))
  ⟨_,ae _ (ae _ (ae _ (ae _ (d _ _ _ rfl rfl)))),rfl,rfl⟩
  ⟨_,ae _ (ae _ (ae _ (d _ _ _ i rfl))),rfl,rfl⟩
  fun c o x=>ae _ (ae _ (ae _ (ae _ (ae _ x))))⟩
end
theorem Inv.turnedF {X:Cx}{a:List (ak×Obj)}{σ:St}{H:Hp}{s:ao}{fp:List ak}{h':bE}{t':Nat}(I:Inv X a σ H s)(k:∀b u,b∉fp->s.heap.get? b=some u->h'.get? b=some u)(hf:∀b∈fp,uT X a H b):Inv X a σ H {s with heap:=h',toks:=t'}:=by
 have f:∀b u,H b=some u->b∉fp:=fun b u e z=>by rw[(hf b z).1]at e;cases e
 refine I.step (g':=s.gens) (d':=s.drawn) (ch:=fp) (fun b hb=>?_) (fun b o _ _ d e _=>k b o d e) (fun b o _ _ d e _=>⟨o.slots,k b o d e⟩) (fun _ _ _ _ n=>n)
  (fun b o d e=>⟨o,k b o d e⟩) (fun _ _ e=>e) (fun _ _ _ e=>e) (fun b ps e=>⟨#[],by rw[e];simp⟩) (fun m g=>?_) (fun b u e=>?_) I.bare
 ·obtain⟨t,f1,f2,h,i,j⟩:=hf b hb
  exact⟨h,f1,i,j⟩
 ·obtain⟨o,l,ep,p,r⟩:=g
  exact⟨o,l,ep,k _ o (fun z=>(hf _ z).2.1 rfl) p,r⟩
 ·refine(I.hok b u e).stay (fun c v d q=>k c v ?_ q) (fun c q=>q) fun c xs q=>q
  rcases d with z|z
  ·rw[z];exact f b u e
  ·exact f c _ z
def qQ (tp:Bool)(K:ag)(H:Hp)(b:ak)(ys:List V):Prop:=if tp=true then zY K H b ys else zZ K H b ys
def kY (tp:Bool)(h:bE)(it b:ak)(i:Nat):Prop:=if tp=true then h.IsTupleIter it b i else h.IsListIter it b i
def Itz (K:ag)(tp:Bool)(a b:ak):It :=
 ⟨fun i H=>∃xs ys x y,zZ K H a xs/\qQ tp K H b ys/\xs[i]?=some x/\ys[i]?=some y,
  fun i H x H'=>∃T x1 y1,x=.ref T/\H T=none/\H'=upd H T (.tup [x1,y1])/\(∀xs,zZ K H a xs->xs[i]?=some x1)/\(∀ys,qQ tp K H b ys->ys[i]?=some y1),
  fun i H=>∃xs ys,zZ K H a xs/\qQ tp K H b ys/\(i=xs.length\/i<xs.length/\i=ys.length)⟩
theorem uO {n i j:Nat}(h:i≠j):n+i≠n+j:=by omega
theorem qH {a n:Nat}(i:Nat)(h:a<n):a≠n+i:=by omega
theorem zAf {n a b:Nat}(ha:a<n)(hb:b<n):Side (n+4) (n+2) (n+3) n (n+1) [n,a] [n+1,b] where
 TIz:=uO (by decide)
 TOz:=uO (by decide)
 i1z:=uO (n:=n) (i:=0) (by decide)
 i2z:=uO (by decide)
 TITO:=uO (by decide)
 TIi1:=uO (n:=n) (j:=0) (by decide)
 TIi2:=uO (by decide)
 TOi1:=uO (n:=n) (j:=0) (by decide)
 TOi2:=uO (by decide)
 i12:=uO (n:=n) (i:=0) (by decide)
 f1:=fun c d=>by
  rcases aG.mp d with z|z
  ·subst z;exact⟨uO (i:=0) (by decide),uO (i:=0) (by decide),uO (i:=0) (by decide)⟩
  ·have e:c=a:=by simpa using z
   subst e;exact⟨qH 4 ha,qH 3 ha,qH 1 ha⟩
 f2:=fun c d=>by
  rcases aG.mp d with z|z
  ·subst z;exact⟨uO (by decide),uO (by decide),uO (j:=0) (by decide)⟩
  ·have e:c=b:=by simpa using z
   subst e;exact⟨qH 4 hb,qH 3 hb,qH 0 hb⟩
theorem zBo {X:Cx}{a:List (ak×Obj)}{σ:St}{H:Hp}{s:ao}(I:Inv X a σ H s)(l:X.calm=true){tp:Bool}{b it:ak}{ys:List V}(m:qQ tp X.K H b ys)(c:b≠it) :
  ∃(its:List aj) (d:Nat->bE->Prop),zL ys its/\lV X.prog X.w X.A.in1 it [it,b] its.length (fun i v=>its[i]?=some v) d/\(∀i,kY tp s.heap it b i->d i s.heap)/\∀i h,d i h->kY tp h it b i:=by
 cases tp with
 |true=>
  obtain⟨its,f,p,hz⟩:=I.tuple (show zY X.K H b ys from m)
  have D:=zDJ (prog:=X.prog) (w:=X.w) (A:=X.A.in1) (show X.A.in1.handled=none from I.ok.hd l) it b c its.toArray
  refine⟨its,fun i h=>h.IsTupleIter it b i/\h.IsTuple b its.toArray,f,?_,fun i h=>⟨h,(show s.heap.IsTuple b its.toArray from p)⟩,fun i h t=>t.1⟩
  have e:its.toArray.size=its.length:=aH
  rw[e]at D
  exact⟨D.live,D.frame,fun i s Q E hi st g=>D.item i s Q E hi st fun x h' tk j=>g x h' tk (by simpa using j),D.done⟩
 |false=>
  obtain⟨its,f,p,hz⟩:=I.list (show zZ X.K H b ys from m)
  have D:=iX (prog:=X.prog) (w:=X.w) (A:=X.A.in1) (show X.A.in1.handled=none from I.ok.hd l) it b c its.toArray
  refine⟨its,fun i h=>h.IsListIter it b i/\h.IsList b its.toArray,f,?_,fun i h=>⟨h,p.isList⟩,fun i h t=>t.1⟩
  have e:its.toArray.size=its.length:=aH
  rw[e]at D
  exact⟨D.live,D.frame,fun i s Q E hi st g=>D.item i s Q E hi st fun x h' tk j=>g x h' tk (by simpa using j),D.done⟩
theorem qQ.inj {X:Cx}{a:List (ak×Obj)}{σ:St}{H:Hp}{s:ao}(I:Inv X a σ H s){tp:Bool}{b:ak}{ys c:List V}(d:qQ tp X.K H b ys)(e:qQ tp X.K H b c):ys=c:=by
 cases tp with
 |true=>exact I.tuple_inj (show zY X.K H b ys from d) (show zY X.K H b c from e)
 |false=>exact I.list_inj (show zZ X.K H b ys from d) (show zZ X.K H b c from e)
theorem kY.keep {tp:Bool}{h h':bE}{it b:ak}{i:Nat}(x:kY tp h it b i)(e:∀o,h.get? it=some o->h'.get? it=some o):kY tp h' it b i:=by
 cases tp with
 |true=>exact(show h.IsTupleIter it b i from x).at e
 |false=>exact(show h.IsListIter it b i from x).at e
theorem kY.obj {tp:Bool}{h:bE}{it b:ak}{i:Nat}(x:kY tp h it b i):∃o,h.get? it=some o/\∀v,o.data≠.cell v:=by
 cases tp with
 |true=>obtain⟨o,e,c,d⟩:=(show h.IsTupleIter it b i from x);exact⟨o,e,fun v z=>by rw[d]at z;cases z⟩
 |false=>obtain⟨o,e,c,d⟩:=(show h.IsListIter it b i from x);exact⟨o,e,fun v z=>by rw[d]at z;cases z⟩
structure Zn (n a b:Nat) (tp:Bool) (i:Nat) (h:bE):Prop where
 zz:iJ h (n+4) (n+2) (n+3) .none
 ti:dI h (n+2) (.ref n) (.ref (n+1))
 to:∃u v,dI h (n+3) u v
 i1:h.IsListIter n a i
 i2:kY tp h (n+1) b i
theorem zGg {P:aJ}{w:aY}{K:ag}{D:List bJ}{kk:Nat}{pos:Pos}{n a b:Nat}(tp:Bool)(ha:a<n)(hb:b<n):Turn P w K (.Tuple D kk pos) (Itz K tp a b) [n+4,n+2,n+3,n,n+1] (n+4) (Zn n a b tp) where
 mem:=by simp
 obj:=fun i h st c l=>by
  have F:c=n+4\/c=n+2\/c=n+3\/c=n\/c=n+1:=by simpa using l
  rcases F with z|z|z|z|z
  ·rw[z];exact⟨_,st.zz,fun v z=>by cases z⟩
  ·rw[z];exact⟨_,st.ti,fun v z=>by cases z⟩
  ·rw[z];obtain⟨u,v,e⟩:=st.to;exact⟨_,e,fun v z=>by cases z⟩
  ·rw[z];obtain⟨o,e,c,d⟩:=st.i1;exact⟨o,e,fun v z=>by rw[d]at z;cases z⟩
  ·rw[z];exact st.i2.obj
 keep:=fun i h h' st k=>⟨k _ (by simp) _ st.zz,k _ (by simp) _ st.ti,let⟨u,v,e⟩:=st.to;⟨u,v,k _ (by simp) _ e⟩,st.i1.at fun o e=>k _ (by simp) o e,st.i2.keep fun o e=>k _ (by simp) o e⟩
 item:=by
  intro X R T U l i G s σ H E I hf st W
  subst R T U
  obtain⟨xs,ys,x,y,hq1,hq2,Y,hy⟩:=W
  obtain⟨its,Z,p,hz⟩:=I.list hq1
  obtain⟨u,hu,ru⟩:=Z.get Y
  obtain⟨m,T2,r,D2,t,J⟩:=zBo I l hq2 (qH 1 hb)
  obtain⟨v,hv,aa⟩:=r.get hy
  have D1:=iX (prog:=X.prog) (w:=X.w) (A:=X.A.in1) (show X.A.in1.handled=none from I.ok.hd l) n a (qH 0 ha) its.toArray
  obtain⟨t0,ab,B⟩:=st.to
  have l1:i<its.toArray.size:=by have:=(ai.mp hu).1;simpa using this
  have l2:i<m.length:=(ai.mp hv).1
  refine zGe D1 D2 (zAf ha hb) st.zz st.ti B ⟨st.i1,p.isList⟩ (t _ st.i2) l1 l2 fun M N h' tk px py a1 a2 a3 a4 a5 a6 O=>?_
  have ac:M=u:=by
   have:its[i]?=some M:=by simpa using px
   rw[hu]at this;exact(aD this).symm
  have al:N=v:=by
   have:m[i]?=some N:=py
   rw[hv]at this;exact(aD this).symm
  subst ac al
  refine⟨_,rfl,kz a1 fun h2 am j=>?_⟩
  have L:s.heap.get? s.heap.objs.size=none:=by
   cases g:s.heap.get? s.heap.objs.size with
   |none=>rfl
   |some o=>exact absurd (aE g) (bH _)
  have an:n+4<s.heap.objs.size:=aE st.zz
  have ap:dI h2 s.heap.objs.size M N:=(j.2 _ (cS an)).trans a5
  have S:=zAf ha hb
  refine⟨.ref s.heap.objs.size,upd H s.heap.objs.size (.tup [x,y]),I.turnedT (fp:=[n+4,n+2,n+3,n,n+1]) (h':=h2) (t':=tk) (fun c o f q=>?_) hf L ⟨by show 2<=sizeLine;decide,[M,N],.cons ru (.cons aa .nil),⟨_,ap,rfl,_,rfl⟩⟩,rfl,
   ⟨_,x,y,rfl,I.hok.free L,rfl,(fun zs C=>by rw[I.list_inj C hq1];exact Y),(fun zs C=>by rw[qQ.inj I C hq2];exact hy)⟩,
   ⟨am,(j.2 _ S.TIz).trans (O _ _ S.TIz S.TITO S.TIi1 S.TIi2 st.ti),⟨_,_,(j.2 _ S.TOz).trans a2⟩,a3.1.at fun o q=>(j.2 n S.i1z).trans q,(J _ _ a4).keep fun o q=>(j.2 (n+1) S.i2z).trans q⟩,fun c f=>?_⟩
  ·have c1:c≠n+4:=fun z=>f (by simp[z])
   have c2:c≠n+3:=fun z=>f (by simp[z])
   have c3:c≠n:=fun z=>f (by simp[z])
   have c4:c≠n+1:=fun z=>f (by simp[z])
   exact(j.2 c c1).trans (O c o c1 c2 c3 c4 q)
  ·rw[zG]
   ·exact(hf c f).1
   ·rintro rfl
    have F:s.heap.objs.size=n+4\/s.heap.objs.size=n+2\/s.heap.objs.size=n+3\/s.heap.objs.size=n\/s.heap.objs.size=n+1:=by simpa using f
    omega
 done:=by
  intro X R T U l i G s σ H E I hf st W
  subst R T U
  obtain⟨xs,ys,hq1,hq2,Y⟩:=W
  obtain⟨its,Z,p,hz⟩:=I.list hq1
  obtain⟨m,T2,r,D2,t,J⟩:=zBo I l hq2 (qH 1 hb)
  have e1:=Z.length
  have e2:=r.length
  have D1:=iX (prog:=X.prog) (w:=X.w) (A:=X.A.in1) (show X.A.in1.handled=none from I.ok.hd l) n a (qH 0 ha) its.toArray
  obtain⟨t0,ab,B⟩:=st.to
  refine zGf D1 D2 (zAf ha hb) st.zz st.ti B ⟨st.i1,p.isList⟩ (t _ st.i2) (by rw[aH];omega) fun h' tk O=>⟨rfl,I.turnedF (fp:=[n+4,n+2,n+3,n,n+1]) (fun c o f q=>?_) hf⟩
  exact O c o (fun z=>f (by simp[z])) (fun z=>f (by simp[z])) (fun z=>f (by simp[z])) (fun z=>f (by simp[z])) q
 self:=fun A i s Q E st h=>gu st.zz h
section
variable{X:Cx}{elts:List bJ}{k:Nat}{tpos:Pos}
def zMF (K:ag)(tp:Bool)(ta:TA):TI:=fun σ H R=>ta σ H fun vs H1=>∃a b xs ys,vs=[.ref a,.ref b]/\zZ K H1 a xs/\qQ tp K H1 b ys/\R (Itz K tp a b) H1
theorem zGh {e f:bJ}{D:TA}{p pos:Pos}(tp:Bool)(F:Gl X "zip")(G:X.mg "zip"=none)(ha:PA X [e,f] D)(J:starEach [e,f] X.env=[(false,eval e X.env),(false,eval f X.env)]:=by rfl)(l:starEach [f] X.env=[(false,eval f X.env)]:=by rfl) :
  PI X (.Tuple elts k tpos) (.Call (.Name "zip" p) [e,f] [] pos) (zMF X.K tp D):=by
 intro g s σ H R I h
 refine Call_ (qZ I F G boot_zip (cJ (zI (ha pos g s σ H _ I h) fun U d ⟨vs,m,i,L,M⟩=>?_) (by rw[J,l]) (by rw[l];rfl)))
 obtain⟨a,b,xs,ys,rfl,hl,hb,q⟩:=M
 cases L with
 |cons N O=>
 cases O with
 |cons P Q=>
 cases Q
 cases N
 cases P
 obtain⟨its,W,w,hz⟩:=i.list hl
 have fresh:∀(h':bE),(∀c o,d.heap.get? c=some o->h'.get? c=some o)->∀c∈[d.heap.objs.size+4,d.heap.objs.size+2,d.heap.objs.size+3,d.heap.objs.size,d.heap.objs.size+1],uT X g m c:=fun h' j c T=>by
  have n:d.heap.objs.size<=c:=by
   have:c=d.heap.objs.size+4\/c=d.heap.objs.size+2\/c=d.heap.objs.size+3\/c=d.heap.objs.size\/c=d.heap.objs.size+1:=by simpa using T
   omega
  exact i.fpOk n (i.hok.fresh n)
 have E:a<d.heap.objs.size:=let⟨o,e,_⟩:=w.isList;aE e
 cases tp with
 |true=>
  obtain⟨r,x,v,y⟩:=i.tuple (show zY X.K m b ys from hb)
  have t:d.heap.IsTuple b r.toArray:=v
  have lb:b<d.heap.objs.size:=let⟨o,e,_⟩:=t;aE e
  refine zME w.isList t fun h' u z A B C j=>?_
  exact gu u ⟨_,[d.heap.objs.size+4,d.heap.objs.size+2,d.heap.objs.size+3,d.heap.objs.size,d.heap.objs.size+1],_,_,m,rfl,i.kept (t':=d.toks) j,zGg true E lb,⟨u,z,⟨_,_,A⟩,B,C⟩,fresh h' j,q⟩
 |false=>
  obtain⟨r,x,v,y⟩:=i.list (show zZ X.K m b ys from hb)
  have lb:b<d.heap.objs.size:=let⟨o,e,_⟩:=v.isList;aE e
  refine call_zip_2 w.isList v.isList fun h' u z A B C _ j=>?_
  exact gu u ⟨_,[d.heap.objs.size+4,d.heap.objs.size+2,d.heap.objs.size+3,d.heap.objs.size,d.heap.objs.size+1],_,_,m,rfl,i.kept (t':=d.toks) j,zGg false E lb,⟨u,z,⟨_,_,A⟩,B,C⟩,fresh h' j,q⟩
end
open AutoSeq1 (wpAny_loadPart')
theorem zGi {J:It}{xs ys:List V}{len:Nat}{Hk:Hp->Prop}(u:∀i H,Hk H->i<len->J.go i H)(v:∀i H,Hk H->i=len->J.stop i H)(w:∀i H x c,Hk H->J.yld i H x c->∃T s t,x=.ref T/\H T=none/\c=upd H T (.tup [s,t])/\xs[i]?=some s/\ys[i]?=some t)
  {caps:List Nat} {n:Nat} {σ:St} {g:TG} {I:TT} {L:TE} {F:List V->Hp->Prop} {M:Hp} (cv:St) (k:Nat) (U:len<1000)
  (Pv:Nat->List V->Hp->Prop) (N:Pv 0 [] M) (O:∀i a H,i<=len->Pv i a H->Hk H/\a.length<=i)
  (o:∀(i:Nat) (x y:V) (T:ak) (a:List V) (H:Hp) (h:St) (z:List V->St->Hp->Prop),(∀d c h,h.length=k->Pv (i+1) d c->z d (cv++h) c)->xs[i]?=some x->ys[i]?=some y->h.length=k->Pv i a H->H T=none->
   g (.ref T) (cv++h) (upd H T (.tup [x,y])) fun f A=>I f A fun b q=>if b=true then L f q fun y l=>z (a++[y]) f l else z a f q)
  (fin:∀a H,Pv len a H->F a H) (B:uX caps n σ=cv++bh k none:=by rfl) :
  ∃W:Nat->Nat->List V->St->Hp->Prop,(∃m,W 0 m [] (uX caps n σ) M)/\∀i m a r c,W i m a r c->
   (J.stop i c/\F a c)\/
   (J.go i c/\a.length<sizeLine/\∀x C,J.yld i c x C->g x r C fun f A=>I f A fun b q=>if b=true then L f q fun y l=>∃j,j<m/\W (i+1) j (a++[y]) f l else∃j,j<m/\W (i+1) j a f q):=by
 refine⟨fun i m a r c=>i<=len/\m=len-i/\(∃ys,ys.length=k/\r=cv++ys)/\Pv i a c,⟨len,bp _,rfl,⟨_,by simp,B⟩,N⟩,?_⟩
 rintro i m a r c ⟨hi,rfl,⟨h,P,rfl⟩,pv⟩
 obtain⟨D,ha⟩:=O i a c hi pv
 by_cases e:i=len
 ·subst e
  exact .inl ⟨v _ _ D rfl,fin a c pv⟩
 ·have E:i<len:=by omega
  refine .inr ⟨u _ _ D E,by rw[aF];omega,fun x C G=>?_⟩
  obtain⟨T,s,t,rfl,Q,rfl,e1,R⟩:=w _ _ _ _ D G
  exact o i s t T a c h (fun d f l=>∃j,j<len-i/\(i+1<=len/\j=len- (i+1)/\(∃ys,ys.length=k/\f=cv++ys)/\Pv (i+1) d l)) (fun d l h hz p=>⟨len- (i+1),by omega,by omega,rfl,⟨h,hz,rfl⟩,p⟩) e1 R P pv Q
theorem zMG:typeLookup (.type "list") "keys"=pure none:=am_miss_of_fast (by kernel_rfl)
theorem zMH {prog:aJ}{w:aY}{A:bO}{E:aj->ao->Prop}{s:ao}{a:ak}{o:Obj}{xs:Array aj}{k:Nat}{name:Str}{Q:Option aj->ao->Prop}
  (n:s.heap.get? a=some o) (p:o.cls=.type "list") (f:o.data=.seq xs k) (hd:o.dict=none) (i:typeLookup (.type "list") name=pure none) (j:(["__module__","__name__","__qualname__","__doc__","__annotations__"]:List Str).contains name=false) (t:A.handled=none)
  (h:∀h' tk,(∀b q,s.heap.get? b=some q->h'.get? b=some q)->Q none {s with heap:=h',toks:=tk}) (hsz:name.length+100<=sizeLine:=by size_fits) :
  wpAny (model prog w) A (getAttr? (.ref a) name) Q E s:=by
 obtain⟨c,u,v,x⟩:=o
 simp only at p f hd
 subst p f hd
 obtain⟨y,g,d,tk,os⟩:=s
 have r:∀l,(⟨y,g,d,l,os⟩:ao).TypeIs (.ref a) "list" :=fun _=>⟨_,n,rfl⟩
 have f1:=sub_AttributeError
 have z:=fH.lookup
 have B:=fH.bind (.ref a)
 have C:=am_list_getattr_none
 unfold getAttr? getAttrBy? getAttrBy
 repeat(any_goals (first|assumption|exact r _|((with_reducible show wpAny _ _ (call (Value.builtin "list.__getattribute__") _ _) _ _ _);refine iW fH (r _) am_entry_list_getattribute (PySem.F.args_list_getattribute_2 _ _) (meets_getattribute_miss_list a xs k x name _ i j hsz) ⟨n,t,fun h' l e m=>?_⟩)|wp_step))
 obtain⟨t',D,G⟩:=m.there
 show wpAny _ _ (getattributeRaised _ _ _ _ _ _ _) _ _ _
 unfold getattributeRaised
 repeat(any_goals (first|assumption|wp_step))
 exact h _ _ m.of.keeps
theorem zGj:entryFor table "dict.update.loop"=some cQ.«dict.update.loop»:=pD (by kernel_rfl)
theorem zBp:plainId "dict.update.loop"=true:=by decide+kernel
theorem zMI {κ:Type} [DecidableEq κ] {kvs:List (κ×aj)}{k:κ}{v:aj}(h:k∉kvs.map (·.1)):stored kvs k v=kvs++[(k,v)]:=by
 unfold stored
 rw[if_neg]
 rw[List.any_eq_true]
 rintro⟨b,a,c⟩
 exact h (av.mpr ⟨b,a,of_decide_eq_true c⟩)
section
variable{prog:aJ}{w:aY}{A:bO}{R:qh->ao->Prop}
theorem zMJ {I ax D:ak}{items:Array aj}{kvs:List (Str×aj)}(hh:A.in1.handled=none)(G:ax≠I)(a:D≠I)(H:D≠ax)(h:kvs.length=items.size)(hz:kvs.length<=1000)(nd:(kvs.map (·.1)).Nodup) :
  ∀(m i:Nat) (s:ao),items.size-i=m->i<=items.size->(s.heap.IsListIter I ax i/\s.heap.IsList ax items)->
   (∀(j:Nat) (v:aj),items[j]?=some v->∃q,kvs[j]?=some q/\∃b o t n,v=Value.ref b/\b≠D/\b≠I/\s.heap.get? b=some o/\o.cls=.type "tuple"/\o.data=.seq #[.str q.1 t,q.2] n)->
   s.heap.DictOf (vR prog w) D ((kvs.take i).map fun q=>((Sum.inr q.1:zJ),q.2))->
   (∀h' tk,(∀b o,b≠D->b≠I->s.heap.get? b=some o->h'.get? b=some o)->h'.DictOf (vR prog w) D (kvs.map fun q=>((Sum.inr q.1:zJ),q.2))->R (.ok (.ret .none)) {s with heap:=h',toks:=tk})->
   ∀n:Tok,codeAny (model prog w) A (.builtin "dict.update.loop" ⟨[.ref D,.ref I,.int (i:Int) n,.none],[]⟩) R s:=by
 have W:=t9 (prog:=prog) (w:=w) (A:=A.in1) hh I ax G items
 intro m
 induction m with
 |zero=>
  intro i s J hi st L hd M n
  have N:i=items.size:=by omega
  subst N
  refine dP zGj ?_
  rw[dD zBp _]
  show wpAny _ A.in1 (pyNext (.ref I)>>=_) _ _ s
  refine af (W.done s _ _ st fun h' tk f=>?_)
  show wpAny _ A.in1 (rY D []>>=_) _ _ _
  refine af (ar (ar (M h' tk (fun b o g l e=>f b o (by simpa using l) e) ?_)))
  rw[<-h,bo]at hd
  obtain⟨o,O,ep,P,yT⟩:=hd
  exact⟨o,O,ep,f D o (by simpa using a) P,yT⟩
 |succ m ih=>
  intro i s J hi st L hd M n
  have r:i<items.size:=by omega
  refine dP zGj ?_
  rw[dD zBp _]
  show wpAny _ A.in1 (pyNext (.ref I)>>=_) _ _ s
  refine af (W.item i s _ _ r st fun v g tk hv Q f=>?_)
  obtain⟨q,hq,b,o,t,nn,rfl,ap,T,P,U,X⟩:=L i v hv
  have u:g.get? b=some o:=f b o (by simpa using T) P
  have Y:g.DictOf (vR prog w) D ((kvs.take i).map fun q=>((Sum.inr q.1:zJ),q.2)):=by
   obtain⟨x,O,ep,Z,yT⟩:=hd
   exact⟨x,O,ep,f D x (by simpa using a) Z,yT⟩
  show wpAny _ A.in1 (holding [Value.ref b] _>>=_) _ _ _
  refine af (cY ?_)
  have hT:lJ {s with heap:=g,toks:=tk} (.ref b) "tuple" :=⟨o,u,U⟩
  refine af (wpAny_tryCatch ?_)
  unfold sM
  refine af (gr hT ?_)
  rw[if_pos (by decide)]
  refine af (di u X (ar ?_))
  show wpAny _ A.in1 (holding [Value.str q.1 t,q.2] (dictSet D (.str q.1 t) q.2)) _ _ _
  have y:kvs[i]?=some q:=hq
  have B:i<kvs.length:=(ai.mp y).1
  have C:kvs[i]=q:=(ai.mp y).2
  refine cY (nJ (knd:=vR prog w) (k:=Sum.inr q.1) (s:={s with heap:=g,toks:=tk}) (zFB prog w q.1 t) Y (fun l c E=>?_) (by rw[ah,aI,aF];omega))
  have F:(Sum.inr q.1:zJ)∉(((kvs.take i).map fun q=>((Sum.inr q.1:zJ),q.2)).map (·.1)):=by
   rw[aU]
   intro J
   obtain⟨p,aa,e⟩:=av.mp J
   have e':p.1=q.1:=mY e
   obtain⟨j,hj,ej⟩:=du aa
   have as:j<i:=by rw[aI]at hj;omega
   have ab:j<kvs.length:=by omega
   rw[List.getElem_take]at ej
   have:=(dU (xs:=kvs.map (·.1)) (h₀:=by simpa using ab) (h₁:=by simpa using B) nd).mp (by rw[fI,fI,ej,C];exact e')
   omega
  rw[zMI F]at c
  have ed:((kvs.take i).map fun q=>((Sum.inr q.1:zJ),q.2))++[((Sum.inr q.1:zJ),q.2)]=(kvs.take (i+1)).map fun q=>((Sum.inr q.1:zJ),q.2):=by
   rw[aB B,C,aQ];rfl
  rw[ed]at c
  show wpAny _ A.in1 (again _) _ _ _
  refine ar ⟨gb zBp _,?_⟩
  have keep:∀b o,b≠D->b≠I->s.heap.get? b=some o->l.get? b=some o:=fun b o e1 d e=>by
   rw[E.2 b e1];exact f b o (by simpa using d) e
  refine ih (i+1) {s with heap:=l,toks:=tk+1} (by omega) r (W.frame _ g l Q fun b hb o e=>?_) (fun j v hv=>?_) c (fun h' ac al am=>M h' ac (fun b o e1 d e=>al b o e1 d (keep b o e1 d e)) am) _
  ·rw[E.2 b]
   ·exact e
   ·rintro rfl
    rcases aG.mp hb with z|z
    ·exact a z
    ·exact H (by simpa using z)
  ·obtain⟨q',an,b',x,t',n',e1,d,e3,e4,e5⟩:=L j v hv
   exact⟨q',an,b',x,t',n',e1,d,e3,keep b' x d e3 e4,e5⟩
theorem zMK {E:aj->ao->Prop}{s:ao}{l:ak}{items:Array aj}{kvs:List (Str×aj)}{Q:aj->ao->Prop}(H:A.handled=none)(hl:PlainL s.heap l items)(m:kvs.length=items.size)(hz:kvs.length<=1000)(nd:(kvs.map (·.1)).Nodup)
  (O:∀(j:Nat) (v:aj),items[j]?=some v->∃q,kvs[j]?=some q/\∃b o t n,v=Value.ref b/\s.heap.get? b=some o/\o.cls=.type "tuple"/\o.data=.seq #[.str q.1 t,q.2] n)
  (h:∀h' tk,(∀b o,s.heap.get? b=some o->h'.get? b=some o)->h'.DictOf (vR prog w) s.heap.objs.size (kvs.map fun q=>((Sum.inr q.1:zJ),q.2))->Q (.ref s.heap.objs.size) {s with heap:=h',toks:=tk}) :
  wpAny (model prog w) A (call (.type "dict") [.ref l]) Q E s:=by
 refine callType_codes (Q₁:=fun obj J=>obj=.ref s.heap.objs.size/\J={s with heap:=s.heap.push {cls:=.type "dict",data:=.dict #[]}}) PySem.F.kt_called_dict (PySem.F.kt_typeCall_dict_1 _) PySem.F.entry_dict_init (kt_code_dict_new _ ⟨rfl,rfl⟩) ?_
 rintro obj J ⟨rfl,rfl⟩
 have a:(s.heap.push {cls:=.type "dict",data:=.dict #[]}).DictOf (vR prog w) s.heap.objs.size []:=pO s.heap
 obtain⟨o,n,L,u,x,hd⟩:=id hl
 have p:l<s.heap.objs.size:=aE L
 have f:(s.heap.push {cls:=.type "dict",data:=.dict #[]}).get? l=some o:=ae _ L
 refine⟨a.typeIs,PySem.F.args_dict_init_2 _ _,?_⟩
 unfold cQ.«dict.__init__»
 refine af ?_
 unfold rZ
 refine af (wpAny_notOrdered_dict a.typeIs ?_)
 show wpAny _ _ (pure (s.heap.objs.size,[Value.ref l])) _ _ _
 refine ar ?_
 show wpAny _ _ (lZ "dict.__init__" s.heap.objs.size (.ref l) [] .none) _ _ _
 unfold lZ
 have P:lJ {s with heap:=s.heap.push {cls:=.type "dict",data:=.dict #[]}} (.ref l) "list" :=⟨o,f,u⟩
 refine af (gr P ?_)
 rw[if_pos (by decide)]
 refine af (zMH f u hd x zMG (by decide) (by simp[H]) (fun i y d=>?_))
 rw[if_pos (show(none:Option aj).isNone=true from rfl)]
 refine af (fR (af ?_))
 have hl2:i.IsList l items:=⟨o,d _ _ f,u,n,hd⟩
 refine d8 (s:={s with heap:=i,toks:=y}) hl2 ?_
 have c:s.heap.objs.size<i.objs.size:=by
  obtain⟨M,N,ep,g,_⟩:=a
  exact aE (d _ _ g)
 have r:l<i.objs.size:=my p c
 refine ar ⟨gb zBp _,?_⟩
 have old:∀b o,s.heap.get? b=some o->i.get? b=some o:=fun b o e=>d b o (ae _ e)
 refine zMJ (I:=i.objs.size) (ax:=l) (D:=s.heap.objs.size) (items:=items) (kvs:=kvs) (by simp[H]) (bc r) (bc c) (cS p) m hz nd items.size 0 _ rfl (bp _)
  ⟨⟨_,aA _ rfl,rfl,rfl⟩,hl2.push _⟩ (fun j v hv=>?_) ?_ (fun h' z B C=>⟨rfl,h h' z (fun b o e=>?_) C⟩) _
 ·obtain⟨q,T,b,U,t,W,e1,G,X,Y⟩:=O j v hv
  exact⟨q,T,b,U,t,W,e1,bc (aE G),bc (my (aE G) c),ae _ (old _ _ G),X,Y⟩
 ·rw[nq]
  obtain⟨M,N,ep,g,yT⟩:=a
  exact⟨M,N,ep,ae _ (d _ _ g),yT⟩
 ·exact B b o (bc (aE e)) (bc (my (aE e) c)) (ae _ (old _ _ e))
end
section
variable{X:Cx}
def zDK (K:ag)(H:Hp)(ts:List V)(kvs:List (Str×V)):Prop:=ts.length=kvs.length/\∀(i:Nat) (q:Str×V),kvs[i]?=some q->∃a,ts[i]?=some (.ref a)/\zY K H a [.str q.1,q.2]
theorem zML {c:List (ak×Obj)}{σ:St}{H:Hp}{s:ao}(I:Inv X c σ H s){ts:List V}{kvs:List (Str×V)}{its:List aj}(d:zDK X.K H ts kvs)(e:zL ts its) :
  ∃ws:List (Str×aj),KV kvs ws/\∀(j:Nat) (v:aj),its[j]?=some v->∃q,ws[j]?=some q/\∃b o t n,v=Value.ref b/\s.heap.get? b=some o/\o.cls=.type "tuple"/\o.data=.seq #[.str q.1 t,q.2] n:=by
 have one:∀(i:Nat) (q:Str×V) (u:aj),kvs[i]?=some q->its[i]?=some u->∃x,zR q.2 x/\∃b o t n,u=Value.ref b/\s.heap.get? b=some o/\o.cls=.type "tuple"/\o.data=.seq #[.str q.1 t,x] n:=fun i q u w y=>by
  obtain⟨a,ha,z⟩:=d.2 i q w
  obtain⟨p,e1,f⟩:=e.get ha
  rw[y]at e1
  cases e1
  cases f
  obtain⟨r,A,⟨o,B,C,n,hd⟩,_⟩:=I.tuple z
  obtain⟨M,D,rfl,g,h⟩:=zAY A
  obtain⟨t,rfl⟩:=g
  exact⟨D,h,a,o,t,n,rfl,B,C,hd⟩
 have hl:its.length=kvs.length:=by rw[<-e.length];exact d.1
 clear d e
 induction kvs generalizing its with
 |nil=>
  refine⟨[],.nil,fun j v hv=>?_⟩
  have:its=[]:=by simpa using hl
  rw[this]at hv;simp at hv
 |cons q kvs ih=>
  cases its with
  |nil=>simp at hl
  |cons u its=>
   obtain⟨x,E,F⟩:=one 0 q u rfl rfl
   obtain⟨ws,G,l⟩:=ih (its:=its) (fun i m p J L=>one (i+1) m p (by simpa using J) (by simpa using L)) (by simpa using hl)
   refine⟨(q.1,x)::ws,.cons ⟨rfl,E⟩ G,fun j v hv=>?_⟩
   cases j with
   |zero=>
    have:u=v:=by simpa using hv
    subst this
    exact⟨_,rfl,F⟩
   |succ j=>
    obtain⟨m,e1,f⟩:=l j v (by simpa using hv)
    exact⟨m,by simpa using e1,f⟩
theorem KV.enc {kvs:List (Str×V)}{ws:List (Str×aj)}(h:KV kvs ws):KV (vS kvs) (ws.map fun q=>((Sum.inr q.1:zJ),q.2)):=by
 induction h with
 |nil=>exact .nil
 |cons h t ih=>exact .cons ⟨congrArg Sum.inr h.1,h.2⟩ ih
def zMM (K:ag):List V->Hp->VK->Prop:=fun xs H Q=>∃p ts kvs,xs=[.ref p]/\zZ K H p ts/\zDK K H ts kvs/\(kvs.map (·.1)).Nodup/\kvs.length<=1000/\∀d,H d=none->Q (.ref d) (upd H d (.dK (vS kvs)))
theorem zMN (i:X.calm=true):uU X (.type "dict") (zMM X.K):=by
 intro f s σ H xs x Q I l h
 obtain⟨p,ts,kvs,rfl,m,a,nd,hz,q⟩:=h
 obtain⟨u,rfl,n⟩:=uF l
 cases n
 obtain⟨its,g,pl,_⟩:=I.list m
 obtain⟨ws,c,d⟩:=zML I a g
 have hl:ws.length=kvs.length:=(dj c).symm
 have b:its.length=kvs.length:=by rw[<-g.length];exact a.1
 refine zMK (kvs:=ws) (I.ok.hd i) pl (by rw[hl];simp[b]) (by omega) (by rw[<-c.keys];exact nd) (fun j v hv=>d j v (by simpa using hv)) fun h' tk r hd=>?_
 have e:(s.heap.objs.size==sysModules)=false:=by
  have t:=I.big
  have w:s.heap.objs.size≠sysModules:=cS t
  simpa using w
 exact⟨.ref s.heap.objs.size,_,I.laid (t':=tk) (o:=.dK (vS kvs)) r (ay _) (zBg (by simp[vS];rw[aF];omega) e c.enc hd),rfl,q _ (I.hok.fresh (ay _))⟩
end
open PySem.AutoSeq1 (wpAny_loadPart')
open PySem.MeetsSeq PySem.MeetsSeq2 PySem.MeetsSeq3 PySem.SeqAt
section
open MyS PySem.W
variable{prog:aJ}{w:aY}{A:bO}{E:aj->ao->Prop}{s:ao}
end
section
open MyS PySem.W
variable{prog:aJ}{w:aY}{A:bO}{E:aj->ao->Prop}{s:ao}
end
open MyS PySem.W
def qA (a b:Int×Str):Bool:=if a.1=b.1 then decide (a.2.cps.toList<b.2.cps.toList)else decide (a.1<b.1)
def jO (ks:List (Int×Str))(i j:Nat):Bool:=qA (ks.getD i (0,⟨#[]⟩)) (ks.getD j (0,⟨#[]⟩))
theorem zGk (a:Int×Str):qA a a=false:=by unfold qA;rw[if_pos rfl];simp[fG]
theorem zGl {a b c:Int×Str}(d:qA a b=true)(e:qA b c=true):qA a c=true:=by
 unfold qA at*
 by_cases e1:a.1=b.1<;>by_cases f:b.1=c.1
 ·rw[if_pos e1]at d;rw[if_pos f]at e;rw[if_pos (e1.trans f)]
  simp only[decide_eq_true_eq]at*
  exact nT d e
 ·rw[if_neg f]at e;rw[e1,if_neg f];exact e
 ·rw[if_neg e1]at d;rw[<-f,if_neg e1];exact d
 ·rw[if_neg e1]at d;rw[if_neg f]at e
  have:=of_decide_eq_true d
  have:=of_decide_eq_true e
  rw[if_neg (by omega)];exact decide_eq_true (by omega)
theorem zGm {a b:Int×Str}(h:a≠b):qA a b=true\/qA b a=true:=by
 unfold qA
 by_cases e:a.1=b.1
 ·rw[if_pos e,if_pos e.symm]
  simp only[decide_eq_true_eq]
  by_cases c:a.2.cps.toList<b.2.cps.toList
  ·exact .inl c
  ·by_cases d:b.2.cps.toList<a.2.cps.toList
   ·exact .inr d
   ·exact absurd (eK e (Str_ext (zGR _ _ c d))) h
 ·rw[if_neg e,if_neg (d5 e)]
  rcases Int.lt_or_gt_of_ne e with z|z
  ·exact .inl (decide_eq_true z)
  ·exact .inr (decide_eq_true z)
theorem zMO {ks:List (Int×Str)}(nd:ks.Nodup):TotalOn (jO ks) ks.length where
 irr:=fun i _=>zGk _
 tr:=fun i j k _ _ _ b c=>zGl b c
 tot:=fun i j hi d a=>by
  have e1:ks.getD i (0,⟨#[]⟩)=ks[i]:=by simp[hi]
  have e:ks.getD j (0,⟨#[]⟩)=ks[j]:=by simp[d]
  unfold jO
  rw[e1,e]
  exact zGm fun z=>a ((dU nd).mp z)
def qR (h:bE)(v:aj)(k:Int×Str):Prop:=∃b o t u n,v=Value.ref b/\h.get? b=some o/\o.cls=.type "tuple"/\o.data=.seq #[.int k.1 t,.str k.2 u] n
theorem qR.keep {h h':bE}{v:aj}{k:Int×Str}(p:qR h v k)(e:∀b o,h.get? b=some o->o.cls=.type "tuple"->h'.get? b=some o):qR h' v k:=by
 obtain⟨b,o,t,u,n,c,d,a,f⟩:=p
 exact⟨b,o,t,u,n,c,e b o d a,a,f⟩
section
variable{prog:aJ}{w:aY}{A:bO}{E:aj->ao->Prop}{s:ao}
theorem zMP {v u:aj}{k l:Int×Str}{C:Bool->ao->Prop}(hv:qR s.heap v k)(m:qR s.heap u l)(e:k≠l)(h:C (qA k l) s) :
  wpAny (model prog w) A (keyLt' (tuples' true) v u) C E s:=by
 obtain⟨b,o,t,p,n,r,x,F,y⟩:=hv
 obtain⟨G,H,t',a,I,c,d,B,f⟩:=m
 subst r;subst c
 refine kat_lt x y d f ?_
 unfold qA at h
 have q:=n4 (A:=A) (s:=s) k.1 t l.1 t'
 by_cases hl:k.1=l.1
 ·rw[if_pos hl]at h
  have g:(k.1==l.1)=true:=by rw[hl];simp
  rw[g]at q
  refine tI (q prog w _ _ (kat_yes ?_))
  have D:k.2≠l.2:=fun z=>e (eK hl z)
  have i:(k.2==l.2)=false:=by simpa using D
  have j:=n5 (A:=A) (s:=s) k.2 p l.2 a
  rw[i]at j
  refine tI (j prog w _ _ (kat_no ?_))
  exact kat_one _ _ (tV h)
 ·rw[if_neg hl]at h
  have g:(k.1==l.1)=false:=beq_eq_false_iff_ne.mpr hl
  rw[g]at q
  refine tI (q prog w _ _ (kat_no ?_))
  exact oneLt_int h
theorem zMQ {kvs:List aj}{ks:List (Int×Str)}(h:∀(i:Nat) (v:aj),kvs[i]?=some v->∃k,ks[i]?=some k/\qR s.heap v k)(p:2<=kvs.length){Q:tG->ao->Prop}(d:Q (tuples' true) s) :
  wpAny (model prog w) A (keyKind' kvs.toArray) Q E s:=by
 have go:∀l:List aj,(∀v∈l,∃k,qR s.heap v k)->∃fs,KatTups s.heap l fs/\(∀v∈fs,∃k t,v=Value.int k t)/\fs.length=l.length:=by
  intro l
  induction l with
  |nil=>intro _;exact⟨[],.nil,by simp,rfl⟩
  |cons v l ih=>
   intro hl
   obtain⟨k,b,o,t,u,n,f,g,j,m⟩:=hl v (az ..)
   obtain⟨fs,f1,f2,c⟩:=ih fun u a=>hl u (aC _ a)
   subst f
   refine⟨.int k.1 t::fs,.cons g j m rfl f1,fun u a=>?_,by simp[c]⟩
   rcases aG.mp a with rfl|a
   ·exact⟨_,t,rfl⟩
   ·exact f2 u a
 obtain⟨fs,f1,f2,c⟩:=go kvs fun v hv=>by
  obtain⟨i,hi,e⟩:=du hv
  obtain⟨k,_,q⟩:=h i v (by rw[aq hi,e])
  exact⟨k,q⟩
 refine kat_kind (T:=.type "int") f1 (by omega) (fun v hv=>?_) rfl d
 obtain⟨k,t,rfl⟩:=f2 v hv
 exact .now
def zGn (prog:aJ)(w:aY)(A:bO)(s:ao)(a:ak)(f v:aj)(k:Int×Str):Prop :=
 ∀(G:bE) (tk:Nat) (R:aj->ao->Prop) (E:aj->ao->Prop),(∀b o,b≠a->s.heap.get? b=some o->G.get? b=some o)->
  (∀kv G' tk',qR G' kv k->(∀b o,G.get? b=some o->G'.get? b=some o)->R kv {s with heap:=G',toks:=tk'})->wpAny (model prog w) A (call f [v]) R E {s with heap:=G,toks:=tk}
theorem zGo {a kS:ak}{f:aj}{e1:Nat}{body:aj->PUnit->Sem (ForInStep PUnit)}(y:s.heap.objs.size<=kS)(B:a≠kS)
  (hb:∀x (s':ao) (R:ForInStep PUnit->ao->Prop),wpAny (model prog w) A (call f [x]) (fun k j=>∃its e,j.heap.get? kS=some (seqObj "list" its e)/\its.size<64/\R (.yield ⟨⟩) {j with heap:=j.heap.update kS (bN (·.push k))}) (fun _ _=>False) s'->wpAny (model prog w) A (body x ⟨⟩) R E s') :
  ∀(r:List aj) (ks:List (Int×Str)) (done:List aj) (l:List (Int×Str)) (G:bE) (tk:Nat) (e:Nat) (Q:PUnit->ao->Prop),r.length=ks.length->done.length=l.length->done.length+r.length<64->
   (∀(i:Nat) (v:aj),r[i]?=some v->∃k,ks[i]?=some k/\zGn prog w A s a f v k)->
   (∀b o,b≠a->s.heap.get? b=some o->G.get? b=some o)->G.get? a=some (seqObj "list" #[] e1)->G.get? kS=some (seqObj "list" done.toArray e)->(∀(i:Nat) (v:aj),done[i]?=some v->∃k,l[i]?=some k/\qR G v k)->
   (∀(kvs:List aj) (d:bE) (m N:Nat),kvs.length=(l++ks).length->(∀b o,b≠a->s.heap.get? b=some o->d.get? b=some o)->d.get? a=some (seqObj "list" #[] e1)->d.get? kS=some (seqObj "list" kvs.toArray N)->
    (∀(i:Nat) (v:aj),kvs[i]?=some v->∃k,(l++ks)[i]?=some k/\qR d v k)->Q ⟨⟩ {s with heap:=d,toks:=m})->
   wpAny (model prog w) A (forIn r PUnit.unit body) Q E {s with heap:=G,toks:=tk}
 | [],[],done,l,G,tk,e,Q,_,hd,_,_,H,ha,C,n,h=>by
  rw[fE]
  exact ar (h done G tk e (by simpa using hd) H ha C (by simpa using n))
 | [],_::_,_,_,_,_,_,_,hl,_,_,_,_,_,_,_,_=>by cases hl
 |_::_,[],_,_,_,_,_,_,hl,_,_,_,_,_,_,_,_=>by cases hl
 |x::r,k::ks,done,l,G,tk,e,Q,hl,hd,D,M,H,ha,C,n,h=>by
  rw[e7]
  obtain⟨Y,O,P⟩:=M 0 x rfl
  cases O
  refine af (hb x _ _ (P G tk _ _ H fun g d m I c=>⟨done.toArray,e,c _ _ C,by rw[aH];simp only[aM]at D;omega,?_⟩))
  dsimp only
  have T:done.toArray.push g=(done++[g]).toArray:=by simp
  obtain⟨J,L⟩:∃J,(d.update kS (bN (·.push g))).get? kS=some (seqObj "list" (done++[g]).toArray J):=⟨_,by rw[<-T];exact iq (c _ _ C) (·.push g)⟩
  have p:∀b o,b≠kS->d.get? b=some o->(d.update kS (bN (·.push g))).get? b=some o:=fun b o t q=>(bA _ _ (d5 t)).trans q
  have tup:∀b o,d.get? b=some o->o.cls=.type "tuple"->(d.update kS (bN (·.push g))).get? b=some o:=fun b o q u=>p b o (by
   rintro rfl
   rw[c _ _ C]at q
   cases q
   have F:Value.type "list"=Value.type "tuple" :=u
   exact absurd F (by decide)) q
  refine zGo y B hb r ks (done++[g]) (l++[k]) _ m J Q (by simpa using hl) (by simp[hd]) (by simp only[au,aM,pM]at D⊢;omega)
   (fun i v q=>by simpa using M (i+1) v (by simpa using q)) (fun b o t q=>p b o (bc (bu (aE q) y)) (c _ _ (H b o t q))) (p a _ B (c _ _ ha)) L (fun i v q=>?_) ?_
  ·rcases oM i done.length with z|z|z
   ·rw[aT z]at q
    obtain⟨U,W,X⟩:=n i v q
    exact⟨U,by rw[aT (by omega)];exact W,X.keep fun b o q u=>tup b o (c _ _ q) u⟩
   ·subst z
    rw[aP (ay _),gv]at q
    cases q
    exact⟨k,by rw[aP (by omega),hd,gv];rfl,I.keep tup⟩
   ·rw[eS (by simp;omega)]at q;cases q
  ·rw[dG,List.singleton_append];exact h
theorem zMR {a q:ak}{vs:List aj}{ks:List (Int×Str)}{n:Nat}{P:pq->ao->Prop}(X:s.heap.get? a=some (seqObj "list" vs.toArray n))(hl:ks.length=vs.length)(nd:ks.Nodup)(H:vs.length<64)
  (hc:∀(i:Nat) (v:aj),vs[i]?=some v->∃k,ks[i]?=some k/\zGn prog w A s a (.ref q) v k)
  (h:∀(p:List Nat) (h':bE) (tk e:Nat),p.Perm (bC vs.length)->p.Pairwise (fun i j=>jO ks i j=true)->(∀b o,b≠a->s.heap.get? b=some o->h'.get? b=some o)->
   h'.get? a=some (seqObj "list" (p.map fun i=>vs.getD i Value.none).toArray e)->P (.done (.ret .none)) {s with heap:=h',toks:=tk}) :
  wpAny (model prog w) A (ksk_tree a (.ref q) false) P E s:=by
 have ha:a<s.heap.objs.size:=aE X
 unfold ksk_tree
 refine af (oF X rfl ?_)
 refine af (f7 X rfl ?_ (by rw[aH,aF];omega) (bp _))
 obtain⟨e1,I⟩:∃e1,(s.heap.update a (bN fun _=>(#[]:Array aj))).get? a=some (seqObj "list" #[] e1):=⟨_,iq X fun _=>#[]⟩
 refine af (lB I rfl ?_)
 refine af (kj ?_ (by rw[aF];simp;omega))
 refine af (iZ ?_ (by simp))
 refine cY ?_
 have d:((s.heap.update a (bN fun _=>(#[]:Array aj))).push (seqObj "tuple" vs.toArray 0)).objs.size=s.heap.objs.size+1:=by rw[size_push',pE]
 show wpAny (model prog w) A (ksk_rest a (.ref q) false vs.toArray _ (.ref ((s.heap.update a (bN fun _=>(#[]:Array aj))).push (seqObj "tuple" vs.toArray 0)).objs.size)) P E {s with heap:=((s.heap.update a (bN fun _=>#[])).push (seqObj "tuple" vs.toArray 0)).push (seqObj "list" #[] 0)}
 have l:(((s.heap.update a (bN fun _=>(#[]:Array aj))).push (seqObj "tuple" vs.toArray 0)).push (seqObj "list" #[] 0)).get? ((s.heap.update a (bN fun _=>(#[]:Array aj))).push (seqObj "tuple" vs.toArray 0)).objs.size=some (seqObj "list" #[] 0):=aA _ rfl
 rw[d]at l⊢
 generalize Z:((s.heap.update a (bN fun _=>(#[]:Array aj))).push (seqObj "tuple" vs.toArray 0)).push (seqObj "list" #[] 0)=G at l⊢
 have aa:G.get? a=some (seqObj "list" #[] e1):=by
  rw[<-Z]
  exact ae _ (ae _ I)
 have ab:∀b o,b≠a->s.heap.get? b=some o->G.get? b=some o:=fun b o hb e=>by
  rw[<-Z]
  exact ae _ (ae _ ((bA _ _ (d5 hb)).trans e))
 have y:a≠s.heap.objs.size+1:=bc (bV ha)
 clear Z d
 generalize d:s.heap.objs.size+1=kS at l y⊢
 unfold ksk_rest
 refine af (fR ?_)
 first
  |rw[List.forIn_toArray]
  |(rw[<-n9];simp only[List.toList_toArray])
  |rw[<-n9]
 refine af (zGo (kS:=kS) (e1:=e1) (by rw[<-d];exact gm _) y (fun x s' R hx=>?_) vs ks [] [] G s.toks 0 _ hl.symm rfl (by simpa using H) hc ab aa l (fun i v z=>by simp at z) fun kvs r c e' ac al am J an=>?_)
 ·refine af (f9 (cy hx (fun k a0 ⟨its,e,hk,hz,hR⟩=>?_) fun _ _ hF=>hF.elim))
  try dsimp only
  refine af (f7 hk rfl ?_ (by rw[aF];omega) (bR (fN (Array.size_push ..)) (by rw[aF];omega)))
  exact ar hR
 ·try dsimp only
  rw[eg]at ac
  have u:∀(i:Nat) (v:aj),kvs[i]?=some v->∃k,ks[i]?=some k/\qR r v k:=fun i v z=>by simpa using an i v z
  refine af (oF J rfl ?_)
  have fin:∀(p:List Nat) (st:SortSt),failedOf st=none->(arrOf st).map (·.2)=(p.map fun i=>vs.getD i Value.none).toArray->p.Perm (bC vs.length)->p.Pairwise (fun i j=>jO ks i j=true)->
    wpAny (model prog w) A (ksk_tail a false e1 (.ref kS) st) P E {s with heap:=r,toks:=c}:=fun p st hf L M ap=>by
   unfold ksk_tail
   try dsimp only
   rw[L]
   have hz:(p.map fun i=>vs.getD i Value.none).toArray.size=vs.length:=by rw[aH,ah,M.length_eq,bW]
   refine af (f7 J rfl ?_ (by rw[aH,aF];omega) (bp _))
   refine af (nh ?_)
   have B:(r.update kS (bN fun _=>(#[]:Array aj))).get? a=some (seqObj "list" #[] e1):=(bA _ _ (d5 y)).trans am
   refine af (lB B rfl ?_)
   refine af (f7 B rfl ?_ (bp _) (by
    simp only[eN,if_false]
    rw[hz,aF];omega))
   rw[hf]
   simp only[bne_self_eq_false,eN,if_false]
   refine ar ?_
   have e3:=iq B fun _=>(p.map fun i=>vs.getD i Value.none).toArray
   exact h p _ c _ M ap (fun b o hb e=>(bA _ _ (d5 hb)).trans ((bA _ _ (by
    rw[<-d];exact cS (bV (aE e)))).trans (al b o hb e))) e3
  unfold ksk_end
  try dsimp only
  simp only[eN,if_false]
  have D:kvs.length=vs.length:=by omega
  by_cases m:vs.toArray.size<2
  ·rw[if_pos m,if_pos m]
   refine af (ar ?_)
   rw[pP]
   refine af (ar ?_)
   try dsimp only
   refine fin (bC vs.length) _ rfl ?_ (dz _) ?_
   ·show((kvs.toArray.zip vs.toArray).map (·.2))=_
    match vs,kvs,m,D with
    | [],[],_,_=>simp
    | [v],[k],_,_=>simp[dO]
    |_::_::_,_,m,_=>simp at m;omega
   ·have:vs.length<2:=by simpa using m
    match hv:vs.length,this with
    |0,_=>simp
    |1,_=>simp[dO]
  ·rw[if_neg m,if_neg m]
   have F:2<=vs.length:=by simpa using m
   refine af (zMQ (s:={s with heap:=r,toks:=c}) u (by omega) ?_)
   have O:=zMO nd
   rw[hl]at O
   obtain⟨as,ax⟩:=zGQ O F
   have kt:∀i,i<vs.length->qR r (kvs.getD i Value.none) (ks.getD i (0,⟨#[]⟩)):=fun i hi=>by
    obtain⟨k,e,t⟩:=u i kvs[i] (aq (by omega))
    have e1:kvs.getD i Value.none=kvs[i]:=by simp[show i<kvs.length by omega]
    have e2:ks.getD i (0,⟨#[]⟩)=k:=by rw[bK,e];rfl
    rw[e1,e2];exact t
   have ne:∀i j,i<vs.length->j<vs.length->i≠j->ks.getD i (0,(⟨#[]⟩:Str))≠ks.getD j (0,⟨#[]⟩):=fun i j hi T f e=>by
    have e1:ks.getD i (0,(⟨#[]⟩:Str))=ks[i]:=by simp[show i<ks.length by omega]
    have e2:ks.getD j (0,(⟨#[]⟩:Str))=ks[j]:=by simp[show j<ks.length by omega]
    rw[e1,e2]at e
    exact f ((dU nd).mp e)
   refine af (cy (kat_run (ks:=kvs) (vs:=vs) (Q:=fun g s'=>s'={s with heap:=r,toks:=c}/\failedOf g=none/\∃p:Array Nat,Pm p vs.length/\Up (jO ks) p vs.length/\arrOf g=p.map (kas_item (kvs.toArray.zip vs.toArray)))
    (G:=fun p s'=>s'={s with heap:=r,toks:=c}/\Pm p vs.length/\Up (jO ks) p vs.length) D F H (fun p g s' _ Y q2 U=>⟨U.1,q2,p,U.2.1,U.2.2,Y⟩) ?_) ?_ fun _ _ e=>e)
   ·refine zDH (N:=vs.length) (lt:=jO ks) (fun i j hi T f C aK=>?_) _ _ (zGP O F) ⟨rfl,as,ax⟩
    exact zMP (s:={s with heap:=r,toks:=c}) (kt i hi) (kt j T) (ne i j hi T f) aK
   ·rintro⟨⟨⟩,g⟩ s' ⟨rfl,hf,p,Y,q2,U⟩
    try dsimp only
    refine fin p.toList g hf (kat_snds D U) Y ?_
    rw[gz]
    intro i j hi T f
    have aN:i<p.size:=by simpa using hi
    have W:j<p.size:=by simpa using T
    have:=q2 i j f (by rw[<-Y.size];exact W)
    rw[zAA aN,zAA W]at this
    simpa using this
end
open MyS PySem.W
def gJ (x:Str)(p:Pos):sr:={posonlyargs:=[],args:=[{arg:=x,annotation:=none,pos:=p}],vararg:=none,kwonlyargs:=[],kw_defaults:=[],kwarg:=none,defaults:=[]}
def qS (x:Str):fX:={kind:=.function,names:=[(x,.local)],isGenerator:=false,isCoroutine:=false,more:=[]}
def j9 (x:Str)(p1 p2 p3 p4 p5 p6 p7 p8:Pos):bJ :=
 .Tuple [.UnaryOp .USub (.Subscript (.Name x p1) (.Constant (.int 0) 0 p2) p3) p4,.Subscript (.Name x p5) (.Constant (.int 1) 0 p6) p7] 0 p8
section
variable{prog:aJ}{w:aY}{A:bO}{E:aj->ao->Prop}{s:ao}
theorem zMS {x nm a:Str}{P F G H I v B C g:Pos}{f b l:ak}{pm ctv:aj}{i:Int}{z:Str}{t u:Tok}{R:aj->ao->Prop}(Q:(x==("__debug__" : Str))=false)
  (hb:bindArgs (kla_fn nm a (gJ x P) (j9 x F G H I v B C g) (qS x) [] pm (.ref l) ctv) ⟨[.ref b],[]⟩=pure [(x,.ref b)])
  (hf:s.heap.get? f=some (sN nm a (gJ x P) (j9 x F G H I v B C g) (qS x) [] pm l ctv)) (J:s.heap.CodeRec (.ref l) a) (m:s.heap.NoLimit) (c:A.depth<recursionLimit)
  (hv:qd s.heap b #[.int i t,.str z u])
  (h:∀T L M,qR L T (-i,z)->(∀b o,s.heap.get? b=some o->L.get? b=some o)->R T {s with heap:=L,toks:=M}):wpAny (model prog w) A (call (.ref f) [.ref b]) R E s:=by
 refine nZ (kla_callFunE c hf rfl rfl rfl rfl J ?_)
 have n:(x==x)=true:=by simp
 rw[hb]
 have p:(qS x).names.lookup x=some .local:=by unfold qS;rw[bU,n]
 refine ar (jd (fun y N=>?_) (fun y N=>?_) (fun h₁ O q=>⟨m.fresh _ q,?_⟩) rfl)
 ·rw[aS.mp N];exact fun z=>by cases z
 ·rw[aS.mp N];exact p
 show codeAny _ _ (.expr (j9 x F G H I v B C g) (envX a (qS x) s.heap.objs.size f (.ref l) [])) _ _
 have old:∀b o,s.heap.get? b=some o->h₁.get? b=some o:=fun b o e=>q.extBut b o (bc (aE e)) (ae _ e)
 have U:(fun y=>[(x,Value.ref b)].reverse.lookup y) x=some (.ref b):=by
  show [(x,Value.ref b)].lookup x=_
  rw[bU,n]
 generalize d:envX a (qS x) s.heap.objs.size f (.ref l) []=env
 have W:env.scope.kind=.function:=by rw[<-d];rfl
 have X:env.kindOf x=some .local:=by rw[<-d];exact p
 have Y:h₁.Ns env.locals (fun y=>[(x,Value.ref b)].reverse.lookup y):=by rw[<-d];exact O
 have D:∀tk:Nat,qd ({s with heap:=h₁,toks:=tk}:ao).heap b #[.int i t,.str z u]:=fun _=>let⟨o,e,r⟩:=hv;⟨o,old b o e,r⟩
 refine kla_codeExpr ?_
 unfold j9
 refine nG ?_
 show wpAny _ _ (spliced ((false,eval _ env)::backTo g (starEach [.Subscript (.Name x v) (.Constant (.int 1) 0 B) C] env))) _ _ _
 refine eI (UnaryOp_ (kg (mj (jb W X Y U ?_) Q)))
 refine iu ?_
 refine fO (x:=.int i t) (D _).typeIs kh.lookup (nQ (j:=0) (D _) (by decide) (by decide) rfl rfl ⟨rfl,?_⟩)
 refine neg_int ?_
 show wpAny _ _ (spliced ((false,eval _ env)::backTo g (starEach [] env))) _ _ _
 refine eI (kg (mj (jb W X Y U ?_) Q))
 refine iu ?_
 refine fO (x:=.str z u) (D _).typeIs kh.lookup (nQ (j:=1) (D _) (by decide) (by decide) rfl rfl ⟨rfl,?_⟩)
 refine iC ⟨by show 2<=_;rw[aF];omega,?_⟩
 dsimp only
 refine h _ _ _ ⟨_,_,_,_,_,rfl,aA _ rfl,rfl,rfl⟩ fun b o e=>ae _ (old b o e)
end
open MyS PySem.W
def jP (ps:List (Int×Str)):List (Int×Str):=ps.map fun p=>(-p.1,p.2)
theorem zMT {ps:List (Int×Str)}(h:ps.Nodup):(jP ps).Nodup:=by
 unfold jP
 rw[de,bq]
 refine h.imp fun{a b} n e=>n ?_
 obtain⟨e1,c⟩:=bP e
 exact eK (by omega) c
section
variable{X:Cx}{pins:List (ak×Obj)}{σ:St}{H:Hp}{s:ao}
theorem zGp {x nm d:Str}{p0 p1 p2 p3 p4 p5 p6 p7 p8:Pos}{f N l:ak}{pm ctv:aj}{ts:List V}{ps:List (Int×Str)}{Q:VK}(hx:(x==("__debug__" : Str))=false)
  (hb:∀b:ak,bindArgs (kla_fn nm d (gJ x p0) (j9 x p1 p2 p3 p4 p5 p6 p7 p8) (qS x) [] pm (.ref N) ctv) ⟨[.ref b],[]⟩=pure [(x,.ref b)])
  (I:Inv X pins σ H s) (h:X.A.depth<recursionLimit) (hf:s.heap.get? f=some (sN nm d (gJ x p0) (j9 x p1 p2 p3 p4 p5 p6 p7 p8) (qS x) [] pm N ctv)) (O:s.heap.CodeRec (.ref N) d)
  (hl:zZ X.K H l ts) (hn:ts.length=ps.length) (hp:∀(i:Nat) (p:Int×Str),ps[i]?=some p->∃a,ts[i]?=some (.ref a)/\zY X.K H a [.int p.1,.str p.2]) (nd:ps.Nodup) (ax:ps.length<64)
  (q:∀(pm:List Nat) (D:ak),pm.Perm (bC ps.length)->pm.Pairwise (fun i j=>jO (jP ps) i j=true)->H D=none->Q (.ref D) (upd H D (.lst (pm.map fun i=>ts.getD i .non)))) :
  wpAny (model X.prog X.w) X.A (call (.builtin "sorted") [.ref l] [(b8 "key",.ref f)]) (EP X pins σ Q) X.xe s:=by
 obtain⟨its,P,pl,_⟩:=I.list hl
 have c:its.length=ps.length:=by rw[<-P.length];exact hn
 have T:(jP ps).length=ps.length:=by unfold jP;rw[ah]
 refine call_function_entry_kw pI oN oO (ksk_s1 _ _) ?_
 unfold cQ.«sorted»
 refine af (m:=checkCount "sorted" 1 1 _) (ar ?_)
 refine af (collect_list pl.isList ?_ (by rw[c,aF];omega))
 obtain⟨G,y,hG,U⟩:∃G,G=(s.heap.push (seqObj "list" #[] 0)).update s.heap.objs.size (bN (·++its.toArray))/\(∀b o,s.heap.get? b=some o->G.get? b=some o)/\s.heap.objs.size<=G.objs.size :=
  ⟨_,rfl,fun b o e=>(bA _ _ (cS (aE e))).trans (ae _ e),by rw[pE,bF];exact gm _⟩
 rw[<-y]
 clear y
 refine af (iZ ?_ (by rw[c,aF];omega))
 dsimp only
 generalize W:G.objs.size=B
 have C:(G.push {cls:=.type "list",data:=.seq its.toArray}).get? B=some (seqObj "list" its.toArray 0):=by
  rw[<-W];exact aA _ rfl
 have E:s.heap.objs.size<=B:=by rw[<-W];exact U
 have old:∀b o,s.heap.get? b=some o->(G.push {cls:=.type "list",data:=.seq its.toArray}).get? b=some o/\b≠B:=fun b o e=>⟨ae _ (hG _ _ e),by rw[<-W];exact bc (aE (hG _ _ e))⟩
 refine af (cY (wpAny_call_entry_kw nr ⟨_,C,rfl⟩ mK ?body (ksk_l1 _ _)))
 case body=>
  show wpAny _ _ (cQ.«list.sort» ⟨[.ref B],[(b8 "key",.ref f)]⟩) _ _ _
  rw[ksk_t1]
  refine zMR (ks:=jP ps) C (by rw[T];exact c.symm) (zMT nd) (by omega) (fun i v e=>?_) fun g h2 Y e2 Z aa ab ac=>⟨_,rfl,?_⟩
  ·have hi:i<ps.length:=by rw[<-c];exact(ai.mp e).1
   obtain⟨a1,f1,f2⟩:=hp i ps[i] (aq hi)
   obtain⟨u',g1,g2⟩:=P.get f1
   rw[e]at g1
   cases g1
   cases g2
   obtain⟨as,r2,tp,_⟩:=I.tuple f2
   obtain⟨y1,y2,rfl,al,am⟩:=zAY r2
   obtain⟨t,rfl⟩:=al
   obtain⟨u,rfl⟩:=am
   refine⟨(-ps[i].1,ps[i].2),by unfold jP;rw[aw,aq hi];rfl,?_⟩
   intro G' tk R E' an hR
   have kp:∀b o,s.heap.get? b=some o->G'.get? b=some o:=fun b o z=>an b o (old b o z).2 (old b o z).1
   refine zMS (s:={s with heap:=G',toks:=tk}) hx (hb _) (kp _ _ hf) (by
    obtain⟨c2,oc,vs,tq,z1,z2,z3,z4⟩:=O
    exact⟨c2,oc,vs,tq,z1,kp _ _ z2,z3,z4⟩) (I.nolimit.keeps kp) h (let⟨o,z,r⟩:=tp;⟨o,kp _ _ z,r⟩) fun kv ap F k1 k2=>hR kv ap F k1 k2
  ·refine ar ⟨_,rfl,?_⟩
   have n:g.Perm (bC ps.length):=by rw[<-c];exact Z
   have J:∀b o,s.heap.get? b=some o->h2.get? b=some o:=fun b o e=>ab b o (old _ _ e).2 (old _ _ e).1
   refine⟨.ref B,_,I.laid (t':=Y) (o:=.lst (g.map fun i=>ts.getD i .non)) J E ⟨?_,_,_,?_,ac⟩,rfl,q g B n aa (I.hok.fresh E)⟩
   ·rw[ah,n.length_eq,bW,aF];omega
   ·have go:∀l:List Nat,(∀i∈l,i<ps.length)->zL (l.map fun i=>ts.getD i .non) (l.map fun i=>its.getD i Value.none):=by
     intro l
     induction l with
     |nil=>intro _;exact .nil
     |cons i l ih=>
      intro L
      have hi:i<ps.length:=L i (az ..)
      have M:i<ts.length:=by rw[hn];exact hi
      refine .cons ?_ (ih fun j hj=>L j (aC _ hj))
      obtain⟨u,e1,e2⟩:=P.get (aq M)
      have a1:ts.getD i .non=ts[i]:=by simp[M]
      have a2:its.getD i Value.none=u:=by rw[bK,e1];rfl
      show zR (ts.getD i .non) (its.getD i Value.none)
      rw[a1,a2]
      exact e2
    exact go g fun i hi=>bI.mp (n.mem_iff.mp hi)
end
open MyS PySem.W
def gK (P:ak)(pos:Pos)(qual:Str)(H:Hp):Prop :=
 H P=some (.tbl #[])\/∃c' oc u vs t,H P=some (.tbl #[rawInt pos.line,rawInt pos.col,.ref c'])/\H c'=some (.frz oc u)/\oc.data=.fields vs/\vs[1]?=some (.str qual t)
def kA (P:ak)(H H':Hp):Prop:=∀b o,b≠P->H b=some o->H' b=some o
theorem kA.refl {P:ak}{H:Hp}:kA P H H:=fun _ _ _ e=>e
structure LamBase (mg:Str->Option aj) (base:bE) (c P:ak):Prop where
 code:qp base c P
 blt:∃bm o,mg "__builtins__"=some (.ref bm)/\bm≠builtinsNs/\bm≠mainGlobals/\base.get? bm=some o/\o.cls=.type "module"/\o.dict=some builtinsNs/\o.data=.plain
theorem kA.rd {P a:ak}{H b:Hp}{o:HO}(sb:kA P H b)(d:∀ps,o≠.tbl ps){ps:Array aj}(f:H P=some (.tbl ps))(r:Rd H a o):Rd b a o:=by
 have ne:∀u,H a=some u->(∀c,u≠.tbl c)->b a=some u:=fun u e n=>sb a u (fun z=>by rw[z,f]at e;exact n ps (aD e).symm) e
 rcases r with r|⟨g,r⟩
 ·exact .inl (ne _ r d)
 ·exact .inr ⟨g,ne _ r fun c z=>by cases z⟩
theorem kA.sqL {K:ag}{P a:ak}{H b:Hp}{xs:List V}(sb:kA P H b){ps:Array aj}(c:H P=some (.tbl ps))(r:zZ K H a xs):zZ K b a xs:=r.imp (fun z=>sb.rd (fun _ y=>by cases y) c z) id
theorem kA.sqT {K:ag}{P a:ak}{H b:Hp}{xs:List V}(sb:kA P H b){ps:Array aj}(c:H P=some (.tbl ps))(r:zY K H a xs):zY K b a xs:=r.imp (fun z=>sb.rd (fun _ y=>by cases y) c z) id
section
variable{X:Cx}{pins:List (ak×Obj)}{σ:St}{H:Hp}{s:ao}
theorem zMU {P a:ak}{ps:Array aj}{more:Array aj}{oc:Obj}{h':bE}{tk:Nat}(I:Inv X pins σ H s)(f:H P=some (.tbl ps))(q:∀b o,b≠P->s.heap.get? b=some o->h'.get? b=some o)
  (w:s.heap.objs.size<=a) (g:h'.get? a=some oc) (l:h'.get? P=some {cls:=.none,data:=.fields (ps++more)}) :
  Inv X pins σ (upd (upd H P (.tbl (ps++more))) a (.frz oc (.ext fun h=>h.get? a=some oc))) {s with heap:=h',toks:=tk}:=by
 have c:H a=none:=I.hok.fresh w
 have t:P≠a:=yG f c
 have i:∀b,b≠P->b≠a->upd (upd H P (.tbl (ps++more))) a (.frz oc (.ext fun h=>h.get? a=some oc)) b=H b:=fun b m j=>by rw[zG j,zG m]
 have p:upd (upd H P (.tbl (ps++more))) a (.frz oc (.ext fun h=>h.get? a=some oc)) P=some (.tbl (ps++more)):=by rw[zG t,zE]
 have low:∀b o,s.heap.get? b=some o->b≠a:=fun b o e=>bc (bu (aE e) w)
 refine I.un ⟨fun b o e n _ _=>q b o (fun z=>by rw[z,f]at n;cases n) e,fun b o e n _ _=>⟨o.slots,q b o (fun z=>by rw[z,f]at n;cases n) e⟩,
  fun b o e n _=>(i b (fun z=>by rw[z,f]at n;cases n) (low b o e)).trans n,fun b o e _=>?_,fun b xs e=>?_,fun b o u e=>?_,fun b x e=>?_⟩ fun b u e=>?_
 ·by_cases hb:b=P
  ·exact⟨_,by rw[hb];exact l⟩
  ·exact⟨o,q b o hb e⟩
 ·exact(i b (fun z=>by rw[z,f]at e;cases e) (yG e c)).trans e
 ·exact(i b (fun z=>by rw[z,f]at e;cases e) (yG e c)).trans e
 ·by_cases hb:b=P
  ·subst hb
   rw[f]at e
   cases e
   exact⟨more,p⟩
  ·exact⟨#[],by rw[i b hb (yG e c),Array.append_empty];exact e⟩
 ·by_cases m:b=a
  ·subst m
   rw[zE]at e
   cases e
   exact⟨g,g,⟨oc,g⟩,fun m j z k=>k _ z⟩
  ·by_cases j:b=P
   ·subst j
    rw[p]at e
    cases e
    exact l
   ·rw[i b j m]at e
    refine(I.hok b u e).stay (fun d v hd z=>q d v ?_ z) (fun d z=>?_) fun d xs z=>?_
    ·rintro rfl
     rcases hd with r|r
     ·exact j r.symm
     ·rw[f]at r;cases r
    ·exact(i d (fun y=>by rw[y,f]at z;cases z) (yG z c)).trans z
    ·exact(i d (fun y=>by rw[y,f]at z;cases z) (yG z c)).trans z
def zMV (K:ag)(P:ak)(lp:Pos)(qual:Str)(t:TA):TE:=fun σ H Q=>t σ H fun vs H1=>∃l ts ps,vs=[V.ref l]/\zZ K H1 l ts/\ts.length=ps.length/\
 (∀(i:Nat) (p:Int×Str),ps[i]?=some p->∃a,ts[i]?=some (.ref a)/\zY K H1 a [.int p.1,.str p.2])/\ps.Nodup/\ps.length<64/\gK P lp qual H1/\
 ∀(pm:List Nat) (D:ak) (H2:Hp),pm.Perm (bC ps.length)->pm.Pairwise (fun i j=>jO (jP ps) i j=true)->kA P H1 H2->gK P lp qual H2->H2 D=none->H1 D=none->D≠P->Q (.ref D) (upd H2 D (.lst (pm.map fun i=>ts.getD i .non)))
theorem zMW {x:Str}{p Y Z p2 p3 p4 p5 p6 p7 p8 j kp pos:Pos}{c P:ak}{e:bJ}{t:TA}(hg:Gl X "sorted")(hm:X.mg "sorted"=none)(m:X.A.depth<recursionLimit)(r:X.env.code=.ref c)(B:LamBase X.mg X.base c P)(ha:PA X [e] t)
  (hx:(x==("__debug__" : Str))=false)
  (hb:∀(J:Str) (pm ctv:aj) (d b:ak),bindArgs (kla_fn "<lambda>" J (gJ x Y) (j9 x Z p2 p3 p4 p5 p6 p7 p8) (qS x) [] pm (.ref d) ctv) ⟨[.ref b],[]⟩=pure [(x,.ref b)])
  (aa:backTo pos (starEach [e] X.env)=(false,eval e X.env)::backTo pos (starEach [] X.env):=by rfl)
  (ab:(backTo pos (starEach [e] X.env)).any (·.1)=false:=by rfl) :
  PE X (.Call (.Name "sorted" p) [e] [⟨some "key",.Lambda (gJ x Y) (j9 x Z p2 p3 p4 p5 p6 p7 p8) (qS x) j,kp⟩] pos) (zMV X.K P j (X.env.qual++ "<lambda>") t):=by
 intro pins s σ H Q I h
 refine dW (qZ I hg hm (by rfl) ?_ (by decide) (by decide))
 refine callWith_kw (zI (ha pos pins s σ H _ I h) fun us L h1=>kws_cons ?_) aa ab
 obtain⟨vs,G,f,r1,l,ts,ps,rfl,hl,hn,hp,nd,M,tab,q⟩:=h1
 obtain⟨u,rfl,ru⟩:=uF r1
 cases ru
 have C:L.heap.Ns mainGlobals X.mg:=f.mod.glob.keeps f.bk
 have N:closureFor (qS x) X.env=pure []:=rfl
 refine kla_eval rfl ?_
 obtain⟨bm,ob,b1,b2,b3,b4,b5,b6,b7⟩:=B.blt
 rcases tab with v|⟨d,oc,u,vs,t,v,O,hd,hv⟩
 ·have w:L.heap.get? P=some (tabObj #[]):=f.hok P _ v
  have ac:mainGlobals≠P:=fun z=>by
   obtain⟨o,es,ep,e',al,_⟩:=C
   rw[z,w]at e';cases e';cases al
  have E:bm≠P:=fun z=>by
   have:=(f.bs _ _ b4).2
   rw[z,v]at this;cases this
  refine kla_makeFunction (mg:=X.mg) N f.ok.glob C r (B.code.keeps f.bk) w trivial rfl ac ⟨bm,ob,b1,b2,b3,E,f.bk _ _ b4,b5,b6,b7⟩ fun d ctv h' tk am R ap T an=>?_
  refine kws_nil ?_
  obtain⟨c₂,oc,vs,t,e2,y,hd,hv⟩:=id T
  cases e2
  have I2:=zMU (tk:=tk) (oc:=oc) (more:=#[rawInt j.line,rawInt j.col,.ref d]) (h':=h'.push (sN "<lambda>" (X.env.qual++ "<lambda>") (gJ x Y) (j9 x Z p2 p3 p4 p5 p6 p7 p8) (qS x) [] ((X.mg "__name__").getD .none) d ctv)) f v
   (fun b o n e=>ae _ (am b o n e)) R (ae _ y) (ae _ an)
  have U:G d=none:=f.hok.fresh R
  have F:P≠d:=yG v U
  have sb:kA P G (upd (upd G P (.tbl (#[]++#[rawInt j.line,rawInt j.col,.ref d]))) d (.frz oc (.ext fun h=>h.get? d=some oc))):=fun b o n e=>by rw[zG (yG e U),zG n];exact e
  have tb:gK P j (X.env.qual++ "<lambda>") (upd (upd G P (.tbl (#[]++#[rawInt j.line,rawInt j.col,.ref d]))) d (.frz oc (.ext fun h=>h.get? d=some oc))) :=
   .inr ⟨d,oc,_,vs,t,by rw[zG F,zE];rfl,zE,hd,hv⟩
  refine zGp (pm:=(X.mg "__name__").getD .none) (ctv:=ctv) hx (hb _ _ _ _) I2 m (aA _ rfl) ⟨d,oc,vs,t,rfl,ae _ y,hd,hv⟩ (sb.sqL v hl) hn (fun i p z=>let⟨a,z1,z2⟩:=hp i p z;⟨a,z1,sb.sqT v z2⟩) nd M
   fun pm D m1 m2 g=>q pm D _ m1 m2 sb tb g ?_ ?_
  ·cases z:G D with
   |none=>rfl
   |some o=>
    exfalso
    by_cases W:D=P
    ·rw[W,zG F,zE]at g;cases g
    ·rw[sb D o W z]at g;cases g
  ·rintro rfl
   rw[zG F,zE]at g;cases g
 ·have w:L.heap.get? P=some (tabObj #[rawInt j.line,rawInt j.col,.ref d]):=f.hok P _ v
  have E:bm≠P:=fun z=>by
   have:=(f.bs _ _ b4).2
   rw[z,v]at this;cases this
  have y:L.heap.get? d=some oc:=(f.hok d _ O).1
  refine kla_makeFunctionHit (mg:=X.mg) (cv:=.ref d) N f.ok.glob C r (B.code.keeps f.bk) w trivial (by simp[codeAmong,rawInt]) ⟨bm,ob,b1,b2,b3,E,f.bk _ _ b4,b5,b6,b7⟩ fun ctv h' tk hk hsz=>?_
  refine kws_nil ?_
  have I2:Inv X pins σ G {L with heap:=h'.push (sN "<lambda>" (X.env.qual++ "<lambda>") (gJ x Y) (j9 x Z p2 p3 p4 p5 p6 p7 p8) (qS x) [] ((X.mg "__name__").getD .none) d ctv),toks:=tk}:=f.kept fun b o e=>ae _ (hk b o e)
  refine zGp (pm:=(X.mg "__name__").getD .none) (ctv:=ctv) hx (hb _ _ _ _) I2 m (aA _ rfl) ⟨d,oc,vs,t,rfl,ae _ (hk _ _ y),hd,hv⟩ hl hn hp nd M
   fun pm D m1 m2 g=>q pm D _ m1 m2 .refl (.inr ⟨d,oc,u,vs,t,v,O,hd,hv⟩) g g fun z=>by rw[z,v]at g;cases g
end
open PySem.W (tabObj CodeHd)
theorem zMX {h:bE}{c T:ak}(C:qp h c T):isCodeTable h T:=by
 obtain⟨o,vs,file,g,flags,i,a,text,j,b,d,e,f,_⟩:=C
 exact⟨c,o,vs,b,d,e,f⟩
theorem zMY {P:aJ}{w:aY}{K:ag}{mg mb:Str->Option aj}{k:Nat}{N a c T:ak}{fd:bg}{x:Str}{sp:Sp}{f:ao}{vs:List aj}{ns:List Int}
  (KX:K.In f.heap) (y:f.heap.Ns mainGlobals mg) (hb:f.heap.Ns builtinsNs mb) (O:∀x:Str,x≠"__name__"->mb x=bootBuiltins x) (A:f.heap.NoLimit) (hg:f.gens=#[])
  (ha:f.heap.get? a=some {cls:=.type "list",data:=.seq vs.toArray}) (hi:qb vs ns) (hl:ns.length<=sizeLine) (hr:Room k callerA)
  (B:f.heap.get? T=some (tabObj #[])) (Q:K.lookup T=none) (hC:qp f.heap c T)
  (R:∃t o,mg "__builtins__"=some (.ref t)/\t≠builtinsNs/\t≠mainGlobals/\f.heap.get? t=some o/\o.cls=.type "module"/\o.dict=some builtinsNs/\o.data=.plain)
  (F:∀base:bE,K.In base->base.Ns mainGlobals mg->LamBase mg base c T->FnOk P w K mg base z7 k N fd [x] sp) (p:∀(s:ao) (u:aj),ox s fd ⟨[u],[]⟩ [(x,u)])
  (U:∀H:Hp,H T=some (.tbl #[])->zZ K H a (ns.map V.int)->sp [.ref a] H (fun v _=>v=.bl true) fun _ _ _=>False) :
  codeAny (model P w) callerA (.call (.ref N) ⟨[.ref a],[]⟩) (fun r s'=>r=.ok (.ret (.bool true))/\OldK f.heap s'.heap/\s'.os=f.os/\lx s'.gens) f:=by
 have rv:=zFx hi
 have C:=hi.length
 have D:a≠T:=fun z=>by rw[z,B]at ha;cases ha
 have core:∀H:Hp,H T=some (.tbl #[])->(∀b,H b=none\/b=T\/∃o xs,H b=some (.frz o (.lst xs)))->zZ K H a (ns.map V.int)->yA P w H f.heap->(∀b,H b≠none->b=a\/b=T)->(H a≠none->K.lookup a=none)->
   codeAny (model P w) callerA (.call (.ref N) ⟨[.ref a],[]⟩) (fun r s'=>r=.ok (.ret (.bool true))/\OldK f.heap s'.heap/\s'.os=f.os/\lx s'.gens) f:=by
  intro H E hO hS hok W hK
  have base_of:∀{b:ak} {o:Obj},f.heap.get? b=some o->H b=none->(jY f.heap H).get? b=some o:=fun e n=>zJi e n
  have G:∀{b:ak} {o:Obj},f.heap.get? b=some o->(∀xs n,o.data≠.seq xs n)->(∀xs,o.data≠.fields xs)->H b=none:=fun{b o} e d1 d2=>by
   cases q:H b with
   |none=>rfl
   |some u=>
    rcases W b (by rw[q];simp)with z|z
    ·subst z;rw[ha]at e;cases e;exact absurd rfl (d1 _ _)
    ·subst z;rw[B]at e;cases e;exact absurd rfl (d2 _)
  have i:∀{b:ak} {m:Str->Option aj},f.heap.Ns b m->(jY f.heap H).Ns b m:=fun{b m} ⟨o,es,ep,e,d,r⟩=>⟨o,es,ep,base_of e (G e (fun _ _ z=>by rw[d]at z;cases z) fun _ z=>by rw[d]at z;cases z),d,r⟩
  have I:K.In (jY f.heap H):=fun b o e=>base_of (KX b o e) (by
   cases q:H b with
   |none=>rfl
   |some u=>
    rcases W b (by rw[q];simp)with z|z
    ·subst z;rw[hK (by rw[q];simp)]at e;cases e
    ·subst z;rw[Q]at e;cases e)
  have hM:Mod K mg (jY f.heap H):=⟨I,i y,⟨mb,i hb,O⟩,let⟨mc,J,X⟩:=A;⟨mc,i J,X⟩⟩
  have e0:Env0 P w K mg (jY f.heap H) callerA [] f H:=⟨rfl,hM,fun b o e=>zJj e,fN (zJh _ _),trivial,fun b hb=>absurd (show b∈([]:List ak)from hb) (by simp),hok,.of_eq hg⟩
  have Y:LamBase mg (jY f.heap H) c T:=by
   refine⟨?_,?_⟩
   ·obtain⟨o,Z,file,tf,flags,tg,aa,text,tt,J,X,h3,h4,h5,h6,h7,h8,h9,L⟩:=id hC
    refine⟨o,Z,file,tf,flags,tg,aa,text,tt,base_of J ?_,X,h3,h4,h5,h6,h7,h8,h9,L⟩
    cases q:H c with
    |none=>rfl
    |some u=>
     rcases W c (by rw[q];simp)with z|z
     ·rw[z,ha]at J;cases J;cases h3
     ·exact absurd z L
   ·obtain⟨t,o,b1,b2,b3,b4,b5,b6,b7⟩:=R
    exact⟨t,o,b1,b2,b3,base_of b4 (G b4 (fun _ _ z=>by rw[b7]at z;cases z) fun _ z=>by rw[b7]at z;cases z),b5,b6,b7⟩
  refine fb ((F _ I (i y) Y).run callerA [] f H ⟨[.ref a],[]⟩ [.ref a] [.ref a] _ _ hr e0 (p f (.ref a)) (.cons rfl .nil) (U H E hS)) fun r s' h=>?_
  cases r with
  |error e=>exact fm h
  |ok fl=>
   cases fl with
   |next=>exact fm h
   |brk=>exact fm h
   |cont=>exact fm h
   |ret u=>
    obtain⟨v,H',os,bare,un,l,r',q⟩:=h
    have q':v=.bl true:=q
    subst q'
    obtain rfl:u=Value.bool true:=r'
    obtain⟨more,ab⟩:=un.tbls T _ E
    have M:s'.heap.get? T=some {cls:=.none,data:=.fields (#[]++more)}:=l T _ ab
    have kp:∀b o,b≠T->f.heap.get? b=some o->s'.heap.get? b=some o:=fun b o g e=>by
     cases q:H b with
     |none=>exact un.keep b o e q (by intro z;exact absurd (show b∈([]:List ak)from z) (by simp)) (by simp)
     |some u=>
      rcases hO b with z|z|⟨ob,xs,z⟩
      ·rw[q]at z;cases z
      ·exact absurd z g
      ·have z2:=un.frzs b ob _ z
       obtain⟨e1,_⟩:=hok b _ z
       obtain⟨e2,_⟩:=l b _ z2
       rw[e]at e1;cases e1
       exact e2
    refine⟨rfl,⟨fun b o e=>?_,fun b o e=>?_⟩,os,bare⟩
    ·by_cases g:b=T
     ·subst g
      rw[B]at e;cases e
      exact .inr (.inl ⟨zMX hC,rfl,#[],more,rfl,M⟩)
     ·exact .inl (kp b o g e)
    ·by_cases g:b=T
     ·subst g;exact⟨_,M⟩
     ·exact⟨o,kp b o g e⟩
 cases hk:K.lookup a with
 |some o=>
  have e:=KX a o hk
  rw[ha]at e
  cases e
  refine core (fun b=>if b=T then some (.tbl #[])else none) (if_pos rfl) (fun b=>?_) (.inr ⟨_,vs.toArray,_,hk,rfl,rfl,rfl,by rw[aH,C];exact hl,by simpa using rv⟩) (fun b u z=>?_) (fun b z=>?_) fun z=>absurd (if_neg D) z
  ·by_cases h:b=T
   ·exact .inr (.inl h)
   ·exact .inl (if_neg h)
  ·by_cases h:b=T
   ·have j:=(if_pos h).symm.trans z
    cases j
    subst h
    exact B
   ·have j:=(if_neg h).symm.trans z
    cases j
  ·by_cases h:b=T
   ·exact .inr h
   ·exact absurd (if_neg h) z
 |none=>
  refine core (fun b=>if b=a then some (.frz {cls:=.type "list",data:=.seq vs.toArray} (.lst (ns.map V.int)))else if b=T then some (.tbl #[])else none) (by show(if T=a then _ else _)=_;rw[if_neg D.symm,if_pos rfl]) (fun b=>?_)
   (.inl (.inr ⟨{cls:=.type "list",data:=.seq vs.toArray},if_pos rfl⟩)) (fun b u z=>?_) (fun b z=>?_) fun _=>hk
  ·by_cases hb:b=a
   ·exact .inr (.inr ⟨_,_,if_pos hb⟩)
   ·by_cases h:b=T
    ·exact .inr (.inl h)
    ·exact .inl ((if_neg hb).trans (if_neg h))
  ·by_cases hb:b=a
   ·have j:=(if_pos hb).symm.trans z
    cases j
    subst hb
    exact⟨ha,by rw[ah];exact hl,vs,_,rv,ha⟩
   ·by_cases h:b=T
    ·have j:=((if_neg hb).trans (if_pos h)).symm.trans z
     cases j
     subst h
     exact B
    ·have j:=((if_neg hb).trans (if_neg h)).symm.trans z
     cases j
  ·by_cases hb:b=a
   ·exact .inl hb
   ·by_cases h:b=T
    ·exact .inr h
    ·exact absurd ((if_neg hb).trans (if_neg h)) z
theorem zMZ {l:mL}{n k:Nat}{q:aJ}{loose:List Str}{XP:(Str->Option aj)->bE->Prop}{YP:aY->bE->Prop}{d:DefRec}{K:o5->ag}{sp:aY->Sp}{x:Str}{c T:ak}
  (I:l.most=some n) (r:n<=sizeLine) (t:d.params.defaults=[]) (J:Room k callerA)
  (L:∀(w:aY) (h:bE),YP w h->(K w.params).In h/\h.get? T=some (tabObj #[])) (y:∀w:aY,(K w.params).lookup T=none) (M:∀(w:aY) (h:bE),(K w.params).In h->qp h c T)
  (F:∀(w:aY) (mg:Str->Option aj) (p:ak) (h:bE),(K w.params).In h->h.Ns mainGlobals mg->mg d.name=some (.ref p)->
   ∃fd:bg,(∀(s:ao) (u:aj),ox s fd ⟨[u],[]⟩ [(x,u)])/\
    ∀base:bE,(K w.params).In base->base.Ns mainGlobals mg->LamBase mg base c T->FnOk l.prog w (K w.params) mg base z7 k p fd [x] (sp w))
  (A:∀(w:aY) (H:Hp) (a:ak) (ns:List Int),ns.length<=n->H T=some (.tbl #[])->zZ (K w.params) H a (ns.map V.int)->sp w [.ref a] H (fun v _=>v=.bl true) fun _ _ _=>False) :
  r9 q loose XP YP l.row.toRowW d [] (fun f vs=>ql f vs):=by
 refine Att.attach_call I t fun w s₀ s₁ mg mb p o pm cd N a vs ns G Y ho hd O B m j i P=>?_
 obtain⟨C,Q⟩:=L w _ Y
 obtain⟨fd,hb,R⟩:=F w mg p _ C G.T.g B
 obtain⟨U,W,X,Z,D,b4,b5,E⟩:=G.T.bmain
 refine zMY C G.T.g G.T.b G.T.builtins G.T.nolimit P m j (bR i r) J Q (y w) (M w _ C) ⟨U,W,X,Z,fun z=>?_,D,b4,b5,E⟩ R hb (fun H hO hS=>A w H a ns i hO hS)
 obtain⟨o',es,ep,e,d',_⟩:=G.T.g
 rw[z,e]at D
 cases D
 rw[d']at E;cases E
def zBq (K:ag)(c T:ak):Prop:=∃od vs sl file tf flags tg inF text tt,K.lookup c=some ⟨.type "code",od,.fields vs,sl⟩/\vs[11]?=some (.ref T)/\vs.getD 11 .none=.ref T/\vs.getD 18 .none=.str file tf/\
 vs.getD 7 .none=.int flags tg/\vs.getD 9 .none=.bool inF/\vs.getD 10 .none=.int text tt/\c≠T
theorem zBq.hd {K:ag}{c T:ak}{h:bE}(X:K.In h)(C:zBq K c T):qp h c T:=by
 obtain⟨od,vs,p,file,b,flags,d,a,text,e,l,f,g,i,j,m,n,o⟩:=C
 exact⟨_,vs,file,b,flags,d,a,text,e,X _ _ l,rfl,rfl,f,g,i,j,m,n,o⟩
theorem zMa {K:ag}{T:ak}{o:Obj}{h:bE}(X:um ((T,o)::K) h)(a:K.lookup T=none):K.In h/\h.get? T=some o:=by
 refine⟨fun b u e=>X b u ?_,X T o ?_⟩
 ·rw[bU]
  by_cases hb:b=T
  ·rw[hb,a]at e;cases e
  ·rw[beq_eq_false_iff_ne.mpr hb];exact e
 ·rw[bU];simp
end L2
end
section
set_option autoImplicit false
namespace Kn
abbrev S:=List Nat
section
variable{κ α:Type} [DecidableEq κ]
def zP:List (κ×α)->κ->α->List (κ×α)
 | [],k,v=>[(k,v)]
 |(k',v')::r,k,v=>if k'=k then(k',v)::r else(k',v')::zP r k v
def zM:List (κ×α)->κ->Option α
 | [],_=>none
 |(k',v')::r,k=>if k'=k then some v' else zM r k
theorem zAg (l:List (κ×α))(k a:κ)(v:α):zM (zP l k v) a=if k=a then some v else zM l a:=by
 induction l with
 |nil=>simp[zP,zM]
 |cons p r ih=>
  obtain⟨b,v0⟩:=p
  by_cases h:b=k
  ·subst h
   by_cases h':b=a<;>simp[zP,zM,h']
  ·simp only[zP,if_neg h,zM,ih]
   by_cases c:b=a
   ·subst c
    rw[if_pos rfl,if_pos rfl,if_neg (fun e=>h e.symm)]
   ·rw[if_neg c,if_neg c]
theorem zGq (l:List (κ×α))(k:κ)(v:α):(zP l k v).map (·.1)=if k∈l.map (·.1)then l.map (·.1)else l.map (·.1)++[k]:=by
 induction l with
 |nil=>simp[zP]
 |cons p r ih=>
  obtain⟨a,v0⟩:=p
  by_cases h:a=k
  ·subst h;simp[zP]
  ·have h':¬k=a:=fun e=>h e.symm
   simp only[zP,if_neg h,aR,ih,aG,h',false_or]
   split<;>simp
theorem gL {l:List (κ×α)}{k:κ}{v:α}(h:(l.map (·.1)).Nodup):((zP l k v).map (·.1)).Nodup:=by
 rw[zGq]
 split
 ·exact h
 ·rename_i c
  exact gi.mpr ⟨h,by simp,fun a ha b hb e=>by
   have:b=k:=by simpa using hb
   subst this;subst e;exact c ha⟩
theorem vK {l:List (κ×α)}(h:(l.map (·.1)).Nodup)(k:κ)(v:α):(k,v)∈l↔zM l k=some v:=by
 induction l with
 |nil=>simp[zM]
 |cons p r ih=>
  obtain⟨a,v0⟩:=p
  have b:a∉r.map (·.1):=(bz.mp h).1
  have c:=ih (bz.mp h).2
  by_cases e:a=k
  ·subst e
   have g:zM ((a,v0)::r) a=some v0:=by simp[zM]
   rw[g,aG]
   constructor
   ·rintro(z|z)
    ·rw[(bP z).2]
    ·exact absurd (nK (f:=(·.1)) z) b
   ·intro z;rw[aD z];exact .inl rfl
  ·simp only[zM,if_neg e,aG,Prod.mk.injEq]
   rw[<-c]
   constructor
   ·rintro(z|z)
    ·exact absurd z.1.symm e
    ·exact z
   ·intro z;exact .inr z
theorem zGr {l:List (κ×α)}{k:κ}:zM l k=none↔k∉l.map (·.1):=by
 induction l with
 |nil=>simp[zM]
 |cons p r ih=>
  obtain⟨a,v0⟩:=p
  by_cases e:a=k
  ·subst e;simp[zM]
  ·have b:¬k=a:=fun z=>e z.symm
   simp only[zM,if_neg e,ih,aR,aG,b,false_or]
end
def uI (row:List (S×Int))(l:S):List (S×Int):=zP row l ((zM row l).getD 0+1)
def yZ (rows:List (S×List (S×Int)))(p:S×S):List (S×List (S×Int)):=zP rows p.1 (uI ((zM rows p.1).getD []) p.2)
def uB (ps:List (S×S)):List (S×List (S×Int)):=ps.foldl yZ []
theorem zMb (ps:List (S×S))(p:S×S):uB (ps++[p])=yZ (uB ps) p:=by
 unfold uB;rw[fg];rfl
def zW (t:S)(o:Nat):S:=t.drop (t.length-o)
def vP (o:Nat)(nm:S):List (S×S):=(bC (nm.length+1)).map fun p=>(zW (nm.take p) o,(nm.drop p).take 1)
def zB (o:Nat)(bk:List S):List (S×S):=bk.flatMap (vP o)
structure RowsOk (ps:List (S×S)) (rows:List (S×List (S×Int))):Prop where
 nd:(rows.map (·.1)).Nodup
 ndr:∀e row,(e,row)∈rows->(row.map (·.1)).Nodup
 val:∀e l,zM ((zM rows e).getD []) l=if 0<ps.count (e,l)then some (ps.count (e,l):Int)else none
 has:∀e,(∃row,zM rows e=some row)↔∃l,(e,l)∈ps
theorem v4 (ps:List (S×S)):RowsOk ps (uB ps):=by
 suffices h:∀(f ps:List (S×S)) rows,RowsOk ps rows->RowsOk (ps++f) (f.foldl yZ rows) by
  have:=h ps [] [] ⟨by simp,by simp,by simp[zM],by simp[zM]⟩
  simpa [uB]using this
 intro f
 induction f with
 |nil=>intro ps rows h;simpa using h
 |cons q f ih=>
  intro ps rows h
  obtain⟨a,b⟩:=q
  have step:RowsOk (ps++[(a,b)]) (yZ rows (a,b)):=by
   have i:((((zM rows a).getD []).map (·.1))).Nodup:=by
    cases g:zM rows a with
    |none=>simp
    |some row=>exact h.ndr a row ((vK h.nd a row).mpr g)
   refine⟨gL h.nd,fun e row j=>?_,fun e l=>?_,fun e=>?_⟩
   ·have c:=(vK (gL h.nd) e row).mp j
    unfold yZ at c
    rw[zAg]at c
    split at c
    ·have:=aD c
     rw[<-this]
     exact gL i
    ·exact h.ndr e row ((vK h.nd e row).mpr c)
   ·unfold yZ
    rw[zAg]
    by_cases d:a=e
    ·subst d
     rw[if_pos rfl]
     show zM (uI ((zM rows a).getD []) b) l=_
     unfold uI
     rw[zAg,h.val a b]
     by_cases hl:b=l
     ·subst hl
      rw[if_pos rfl,lE]
      have e1:ko (a,b) [(a,b)]=1:=by simp
      rw[e1]
      by_cases m:0<ko (a,b) ps
      ·simp[m]
      ·have:ko (a,b) ps=0:=by omega
       simp[this]
     ·rw[if_neg hl,h.val a l,lE]
      have e1:ko (a,l) [(a,b)]=0:=by
       simp[pT,hl]
      rw[e1,oP]
    ·rw[if_neg d]
     rw[h.val e l,lE]
     have e1:ko (e,l) [(a,b)]=0:=by
      simp[pT,d]
     rw[e1,oP]
   ·unfold yZ
    rw[zAg]
    by_cases d:a=e
    ·subst d
     rw[if_pos rfl]
     exact⟨fun _=>⟨b,by simp⟩,fun _=>⟨_,rfl⟩⟩
    ·rw[if_neg d,h.has e]
     constructor
     ·rintro⟨l,hl⟩;exact⟨l,cb _ hl⟩
     ·rintro⟨l,hl⟩
      rcases bw.mp hl with z|z
      ·exact⟨l,z⟩
      ·have:(e,l)=(a,b):=by simpa using z
       exact absurd (congrArg uo this).symm d
  have:=ih (ps++[(a,b)]) (yZ rows (a,b)) step
  simpa using this
def Ris {α:Type}(xs:List (S×α)):Prop:=xs.Pairwise fun a b=>a.1<b.1
theorem zMc (a:S):¬a<a:=fG a
theorem Ris.keys {α:Type}{xs:List (S×α)}(h:Ris xs):(xs.map (·.1)).Nodup:=by
 unfold Ris at h
 rw[de,bq]
 exact h.imp fun{a b} c (e:a.1=b.1)=>zMc b.1 (e▸c)
theorem zGs {β:Type} [BEq β] [LawfulBEq β]:∀(ps ks:List β),ks.Nodup->(∀x∈ps,x∈ks)->(ks.map fun k=>(ps.count k:Int)).sum=(ps.length:Int)
 | [],ks,_,_=>by
  have:(ks.map fun k=>(([]:List β).count k:Int))=ks.map fun _=>(0:Int):=by simp
  rw[this]
  induction ks with
  |nil=>rfl
  |cons k r ih=>simp_all
 |x::ps,ks,nd,h=>by
  have ih:=zGs ps ks nd fun y c=>h y (aC _ c)
  have no:∀(ks:List β),x∉ks->(ks.map fun k=>((x::ps).count k:Int)).sum=(ks.map fun k=>(ps.count k:Int)).sum:=by
   intro ks
   induction ks with
   |nil=>intro _;rfl
   |cons k r ih=>
    intro a
    have hx1:¬x=k:=fun e=>a (e▸az ..)
    have hx2:x∉r:=fun e=>a (aC _ e)
    simp only[aR,cw,ih hx2,mR hx1]
  have one:∀(ks:List β),ks.Nodup->x∈ks->(ks.map fun k=>((x::ps).count k:Int)).sum=(ks.map fun k=>(ps.count k:Int)).sum+1:=by
   intro ks
   induction ks with
   |nil=>intro _ a;cases a
   |cons k r ih=>
    intro nd a
    have d:=(bz.mp nd).1
    by_cases e:x=k
    ·subst e
     simp only[aR,cw,no r d,List.count_cons_self]
     omega
    ·have b:x∈r:=(aG.mp a).elim (fun z=>absurd z e) id
     simp only[aR,cw,ih (bz.mp nd).2 b,mR e]
     omega
  rw[one ks nd (h x (az ..)),ih,aM]
  omega
theorem zMd (o:Nat)(a b:List S):zB o (a++b)=zB o a++zB o b:=by
 unfold zB;rw[eC]
theorem zBr (o:Nat)(a:List S):((zB o a).length:Int)=(a.map fun x=>(x.length:Int)+1).sum:=by
 induction a with
 |nil=>rfl
 |cons x r ih=>
  have e1:zB o (x::r)=vP o x++zB o r:=rfl
  rw[e1,au,aR,cw,<-ih]
  simp[vP]
theorem zMe (t:S)(o:Nat):(zW t o).length<=o:=by unfold zW;rw[bQ];omega
end Kn
end
section
set_option autoImplicit false
namespace Kn
def yD (a b:Int):Int:=(i9 a b:Int)
def low (u d:Int):Int×Int:=(u/yD u d,d/yD u d)
structure Fq (q:Int×Int):Prop where
 up:0<=q.1
 dn:0<q.2
 co:i9 q.1 q.2=1
theorem zBK {u d:Int}(hd:0<d):0<yD u d:=by
 have:0<i9 u d:=Int.gcd_pos_iff.mpr (.inr (by omega))
 unfold yD;omega
theorem zMf (u d:Int):u=yD u d*(u/yD u d):=(nu (by unfold yD;exact ma ..)).symm
theorem zGt (u d:Int):d=yD u d*(d/yD u d):=(nu (by unfold yD;exact fh ..)).symm
theorem zAC {u d:Int}(hd:0<d):(low u d).1*d=u*(low u d).2:=by
 have c:=zMf u d
 have e:=zGt u d
 show u/yD u d*d=u*(d/yD u d)
 generalize yD u d=g at*
 generalize u/g=a at*
 generalize d/g=b at*
 rw[c,e,<-il,fi a g]
theorem gM {u d:Int}(c:0<=u)(hd:0<d):Fq (low u d):=by
 have b:=zBK (u:=u) hd
 refine⟨pW c (cZ b),?_,?_⟩
 ·have e:=zGt u d
  show 0<d/yD u d
  rcases oQ (d/yD u d) 0 with h|h|h
  ·have:=Int.mul_neg_of_pos_of_neg b h
   omega
  ·rw[h,Int.mul_zero]at e;omega
  ·exact h
 ·show i9 (u/yD u d) (d/yD u d)=1
  unfold yD at*
  have a:0<i9 u d:=by omega
  rw[Int.gcd_ediv (ma ..) (fh ..)]
  simp
  exact Nat.div_self a
theorem Fq.ext {p q:Int×Int}(a:Fq p)(b:Fq q)(h:p.1*q.2=q.1*p.2):p=q:=by
 obtain⟨t,u⟩:=p
 obtain⟨v,A⟩:=q
 obtain⟨f,g,i⟩:=a
 obtain⟨j,l,n⟩:=b
 dsimp only at*
 obtain⟨x,rfl⟩:=cp f
 obtain⟨y,rfl⟩:=cp (cZ g)
 obtain⟨z,rfl⟩:=cp j
 obtain⟨w,rfl⟩:=cp (cZ l)
 have h':x*w=z*y:=by exact_mod_cast h
 have c:sO x y=1:=by simpa [i9]using i
 have d:sO z w=1:=by simpa [i9]using n
 have o:0<y:=by omega
 have B:0<w:=by omega
 have r:y∣w:=iO (m:=x) (by rw[tJ,mE];exact c) (by rw[h'];exact pF ..)
 have s:w∣y:=iO (m:=z) (by rw[tJ,mE];exact d) (by rw[<-h'];exact pF ..)
 have e:y=w:=Nat.dvd_antisymm r s
 subst e
 have:x=z:=Nat.eq_of_mul_eq_mul_right o h'
 rw[this]
theorem zMg {u d a d':Int}(e:0<=u)(hd:0<d)(c:0<=a)(b:0<d')(h:u*d'=a*d):low u d=low a d':=by
 refine Fq.ext (gM e hd) (gM c b) ?_
 have f:=zAC (u:=u) hd
 have g:=zAC (u:=a) b
 generalize low u d=p at*
 generalize low a d'=q at*
 have:(p.1*q.2)*(d*d')=(q.1*p.2)*(d*d'):=by
  calc (p.1*q.2)*(d*d')=(p.1*d)*(q.2*d'):=by ac_rfl
   _=(u*p.2)*(q.2*d'):=by rw[f]
   _=(u*d')*(p.2*q.2):=by ac_rfl
   _=(a*d)*(p.2*q.2):=by rw[h]
   _=(a*q.2)*(p.2*d):=by ac_rfl
   _=(q.1*d')*(p.2*d):=by rw[g]
   _=(q.1*p.2)*(d*d'):=by ac_rfl
 exact Int.eq_of_mul_eq_mul_right (by have:=lF hd b;omega) this
theorem zMh {u d:Int}(a:0<=u)(hd:0<d):(low u d).2<=d/\(low u d).1<=u:=by
 have b:=zBK (u:=u) hd
 exact⟨pG _ (by omega),pG _ a⟩
def tms (p q:Int×Int):Int×Int:=low (p.1*q.1) (p.2*q.2)
theorem zMi:Fq (0,1):=⟨by decide,by decide,by decide⟩
theorem zMj:Fq (1,1):=⟨by decide,by decide,by decide⟩
theorem zMk {d:Int}(hd:0<d):low d d=(1,1):=by
 refine Fq.ext (gM (cZ hd) hd) zMj ?_
 have:=zAC (u:=d) hd
 rw[fi]at this
 have:=Int.eq_of_mul_eq_mul_left (by omega) this
 rw[this]
 exact fi _ _
theorem zMl {u d:Int}(a:0<=u)(hd:0<d)(h:u<=d):(low u d).1<=(low u d).2:=by
 have f:=gM a hd
 have c:=zAC (u:=u) hd
 by_cases b:(low u d).1<=(low u d).2
 ·exact b
 ·exfalso
  have e:(low u d).2+1<=(low u d).1:=by omega
  have g:((low u d).2+1)*d<=(low u d).1*d:=dY e (cZ hd)
  have i:u*(low u d).2<=d*(low u d).2:=dY h (cZ f.dn)
  rw[Int.add_mul,Int.one_mul,fi (low u d).2 d]at g
  omega
end Kn
end
section
set_option autoImplicit false
namespace Kn
def tot (ps:List (S×S))(e:S):Nat:=(ps.filter fun p=>p.1=e).length
def zN (ps:List (S×S))(e l:S):Int×Int:=if ps.count (e,l)=0 then(0,1)else low (ps.count (e,l):Int) (tot ps e:Int)
def zBs (ps:List (S×S))(qs:List (S×S)):Int×Int:=qs.foldl (fun w p=>tms w (zN ps p.1 p.2)) (1,1)
def qI (ps:List (S×S))(o:Nat)(nm:S):Int×Int:=zBs ps (vP o nm)
theorem zAh (ps:List (S×S))(e l:S):ps.count (e,l)<=tot ps e:=by
 unfold tot
 rw[<-oR (l:=ps) (p:=fun p=>decide (p.1=e)) (a:=(e,l)) (by simp)]
 exact List.count_le_length
theorem zAi (ps:List (S×S))(e l:S):Fq (zN ps e l):=by
 unfold zN
 split
 ·exact zMi
 ·have:=zAh ps e l
  exact gM (by omega) (by omega)
theorem zMm {ps:List (S×S)}(e l:S)(h:1<=ps.length):(zN ps e l).2<=(ps.length:Int):=by
 unfold zN
 split
 ·show(1:Int)<=_;omega
 ·have a:=zAh ps e l
  have b:tot ps e<=ps.length:=bX _ _
  have:=(zMh (u:=(ps.count (e,l):Int)) (d:=(tot ps e:Int)) (by omega) (by omega)).1
  omega
end Kn
end
section
namespace Kn
open PySem L2
theorem yE {N P:List Str}{h:fX}(a:h.kind=.function:=by rfl)(b:h.isCoroutine=false:=by rfl)(c:h.isGenerator=false:=by rfl)(d:N.Nodup:=by decide+kernel)(e:N.take P.length=P:=by rfl)(f:∀x∈P,h.names.lookup x=some .local\/h.names.lookup x=some .cell:=by decide+kernel)(g:∀y∈h.names,y.2≠.free:=by decide+kernel):FnScope N P h:=⟨a,b,c,d,e,f,g⟩
def zV (P:aJ)(w:aY)(K:ag)(mg:Str->Option aj)(base:bE)(k:Nat)(x:Str)(ps:List Str)(sp:Sp):Prop :=
 ∃(f:ak) (fd:bg),FnOk P w K mg base z7 k f fd ps sp/\mg x=some (.ref f)/\dy K (.ref f)=true/\j0 K fd ps []
theorem zT {X:Cx}{k:Nat}{x:Str}{ps:List Str}{sp:Sp}{p pos:Pos}{e:bJ}{c:List bJ}{t:TA}(C:zV X.prog X.w X.K X.mg X.base k x ps sp)(g:Room k X.A)(h:Gl X x)(ha:PA X (e::c) t)
  (i:starEach (e::c) X.env=(false,eval e X.env)::starEach c X.env:=by rfl) (a:(backTo pos (starEach c X.env)).any (·.1)=false:=by rfl)
  (d:(x==("__debug__" : Str))=false:=by decide):PE X (.Call (.Name x p) (e::c) [] pos) (zBD sp [] E0 t):=by
 obtain⟨f,fd,G,j,kp,b⟩:=C
 exact zKg G g h j kp b .nil zLc ha d i a
abbrev tx (x:S):Str:=⟨x.toArray⟩
abbrev sv (x:S):V:=.str (tx x)
theorem vW (x:S):(tx x).cps.toList=x:=by simp[tx]
theorem z9 (x:S):(tx x).length=x.length:=by simp[tx,iV]
theorem zDL {n i:Nat}{x:V}(h:((bC n).map fun(i:Nat)=>V.int (0+(i:Int)))[i]?=some x):i<n/\x=.int i:=by
 have hi:i<n:=by
  have:=(ai.mp h).1
  simpa using this
 refine⟨hi,?_⟩
 rw[aw,js hi]at h
 have:=aD h
 rw[<-this]
 show V.int (0+(i:Int))=V.int i
 rw[Int.zero_add]
theorem ys1 {ys:St}(h:ys.length=1):∃y,ys=[y]:=by
 match ys,h with
 | [y],_=>exact⟨y,rfl⟩
theorem ys2 {ys:St}(h:ys.length=2):∃y z,ys=[y,z]:=by
 match ys,h with
 | [y,z],_=>exact⟨y,z,rfl⟩
theorem ys3 {ys:St}(h:ys.length=3):∃y z u,ys=[y,z,u]:=by
 match ys,h with
 | [y,z,u],_=>exact⟨y,z,u,rfl⟩
structure Blt (mg:Str->Option aj):Prop where
 len:mg "len"=none
 range:mg "range"=none
 all:mg "all"=none
 isinstance:mg "isinstance"=none
 str:mg "str"=none
 tuple:mg "tuple"=none
 int:mg "int"=none
 bool:mg "bool"=none
 sorted:mg "sorted"=none
 sum:mg "sum"=none
 min:mg "min"=none
section
variable{P:aJ}{w:aY}{K:ag}{mg:Str->Option aj}{base:bE}
theorem zMn (t:S)(o:Nat)(b:1<=o):gI (tx t) (some (-(o:Int))) none=tx (zW t o):=by
 unfold gI
 rw[z9,vW]
 have e1:HT.sIx t.length 0 (some (-(o:Int)))=t.length-o:=by
  show(if-(o:Int)<0 then(-(o:Int)+(t.length:Int)).toNat else _)=_
  rw[if_pos (by omega)];omega
 have a:HT.sIx t.length t.length none=t.length:=rfl
 rw[e1,a]
 unfold zW
 rw[dJ (by rw[bQ];omega)]
theorem zBt (t:S)(p:Nat):gI (tx t) none (some (p:Int))=tx (t.take p):=by
 unfold gI
 rw[z9,vW,HT.sIx_nat]
 show tx ((t.drop 0).take (min p t.length-0))=_
 rw[eO,iH,<-mS]
theorem zMo (t:S)(p:Nat):gI (tx t) (some (p:Int)) (some ((p:Int)+1))=tx ((t.drop p).take 1):=by
 unfold gI
 rw[z9,vW,HT.sIx_nat,show((p:Int)+1)=((p+1:Nat):Int)from rfl,HT.sIx_nat]
 congr 1
 by_cases h:p<t.length
 ·have e1:min p t.length=p:=by omega
  have a:min (p+1) t.length-p=1:=by omega
  rw[e1,a]
 ·have e1:min p t.length=t.length:=by omega
  rw[e1,fS (ay _),fS (by omega)]
  simp
def zDM:Sp:=fun vs H Q _=>∃(t:S) (o:Nat),vs=[sv t,.int o]/\1<=o/\t.length<=64/\Q (sv (zW t o)) H
abbrev zDN:c8:=top 21
theorem zMp:FnScope ["text","order"] ["text","order"] (defScope zDN):=yE
theorem zMq {f:ak}{fd:bg}(F:Fun K "end_of" "end_of" zDN f fd):FnOk P w K mg base z7 1 f fd ["text","order"] zDM:=by
 refine F.ok zMp (fun vs H Q E h=>?_) (fun a A outer s H vs Q E c h=>?_)
 ·obtain⟨t,o,rfl,_⟩:=h;rfl
 ·obtain⟨t,o,rfl,b,hl,k⟩:=h
  refine⟨_,zK (z6 (zDI (pv 0) (qF (zKO zKS (pv 1))) jB)),?_⟩
  refine⟨_,rfl,_,rfl,_,rfl,_,rfl,_,rfl,?_,?_⟩
  ·rw[z9,aF];omega
  ·rw[zMn t o b];exact k
def pr (o:Nat)(t:S)(p:Nat):S×S:=(zW (t.take p) o,(t.drop p).take 1)
def elD (p:S×S):bG:=.tuple [.str (tx p.1),.str (tx p.2)]
def zGu (K:ag):Sp:=fun vs H Q _=>∃(t:S) (o:Nat),vs=[sv t,.int o]/\1<=o/\t.length<=64/\∀a xs H',zA H H'->H a=none->H' a=some (.lst xs)->Reps K H' ((vP o t).map elD) xs->Q (.ref a) H'
abbrev zDO:c8:=top 22
theorem zMr:FnScope ["name","order"] ["name","order"] (defScope zDO):=yE
theorem zMs:(["name","order","place"]:List Str).Nodup:=by decide+kernel
theorem zMt {f:ak}{fd:bg}(F:Fun K "ends_and_letters" "ends_and_letters" zDO f fd)(B:Blt mg)(d:zV P w K mg base 1 "end_of" ["text","order"] zDM):FnOk P w K mg base z7 2 f fd ["name","order"] (zGu K):=by
 refine F.ok zMr (fun vs H Q E h=>?_) (fun r A outer s H vs Q E u h=>?_)
 ·obtain⟨t,o,rfl,_⟩:=h;rfl
 ·obtain⟨t,o,rfl,v,hl,k⟩:=h
  refine⟨_,zK (z6 (uY (N:=["name","order","place"]) (caps:=[0,1]) rfl (uH (by kernel_rfl))
   (zCn rfl B.range (zC (zS yY (yL j5 (by rfl) B.len bL (zC (pv 0) zD)) zO) zD))
   (fun m C s H ex=>z8 (i:=2) zMs rfl (Or.inl rfl))
   (fun m C s H ex=>qP)
   (fun m C s H ex=>v9 (zC (zT d u rfl (zC (zDI (pv 0) jB (qF (pv 2))) (zC (pv 1) zD)))
    (zC (zDI (pv 0) (qF (pv 2)) (qF (zS yY (pv 2) zO))) zD))))),?_⟩
  refine⟨_,rfl,_,rfl,?_,_,_,rfl,rfl,_,rfl,?_,?_,?_⟩
  ·rw[z9,aF];omega
  ·rw[z9];omega
  ·rw[z9];omega
  have z:((tx t).length:Int)+1=((t.length+1:Nat):Int):=by rw[z9];rfl
  have b:(((tx t).length:Int)+1).toNat=t.length+1:=by rw[z];rfl
  refine j7 (zBm 0 _) [some (sv t),some (.int o)] 1 (by rw[ah,bW,b];omega) (fun i a e=>zA H e/\a.length=i/\Reps K e (((bC i).map (pr o t)).map elD) a)
   ⟨zA.refl H,rfl,rfl⟩ (fun i a e _ h=>⟨trivial,fN h.2.1⟩) ?_ ?_
  ·rintro i x a e ys J G n I ⟨c,g,j⟩
   obtain⟨y,rfl⟩:=ys1 I
   rw[b]at n
   obtain⟨hi,rfl⟩:=zDL n
   refine⟨_,rfl,_,rfl,_,rfl,_,rfl,(by rw[z9,aF];omega),_,rfl,t.take i,o,(by rw[zBt];rfl),v,(by rw[aI];omega),?_⟩
   refine⟨_,rfl,_,rfl,_,rfl,_,rfl,_,_,rfl,rfl,_,rfl,_,rfl,(by rw[z9,aF];omega),?_⟩
   refine⟨by show 2<=sizeLine;decide,fun p q=>G _ _ [some (.int i)] rfl ⟨c.upd_new (c.free q),by rw[au,g];rfl,?_⟩⟩
   rw[dO,aQ,aQ]
   refine Reps.append (Reps.same (zA.upd1 q) _ _ j) (Reps.one ⟨p,_,rfl,.of zE,?_⟩)
   rw[zMo]
   exact⟨_,_,rfl,rfl,_,_,rfl,rfl,rfl⟩
  ·rintro a e ⟨c,g,j⟩ D l
   refine k D a _ (c.upd_new (c.free l)) (c.free l) zE (Reps.same (zA.upd1 l) _ _ ?_)
   rw[ah,bW,b]at j
   exact j
def vI (x:S):Prop:=1<=x.length/\x.length<=8/\∀c∈x,97<=c/\c<=122
def letters:Str:=⟨#[97,98,99,100,101,102,103,104,105,106,107,108,109,110,111,112,113,114,115,116,117,118,119,120,121,122]⟩
structure Cst (K:ag) (mg:Str->Option aj):Prop where
 letters:∃t,mg "LETTERS"=some (.str letters t)
 ml:∃t,mg "MOST_LETTERS"=some (.int 8 t)
 mn:∃t,mg "MOST_NAMES"=some (.int 8 t)
 mo:∃t,mg "MOST_ORDER"=some (.int 3 t)
 ib:bx K (.type "int") (.type "bool")=some false
def zDP:Sp:=fun vs H Q _=>∃x:S,vs=[sv x]/\vI x/\∀H',zA H H'->Q (.bl true) H'
abbrev zDQ:c8:=top 12
theorem zMu:FnScope ["thing"] ["thing"] (defScope zDQ):=yE
theorem nd1:(["letter"]:List Str).Nodup:=by decide+kernel
def zF (bk:List S):List V:=bk.map sv
structure isBk (bk:List S):Prop where
 lo:1<=bk.length
 hi:bk.length<=8
 nm:∀x∈bk,vI x
def zDR:Sp:=fun vs H Q _=>∃(a:ak) (bk:List S),vs=[.ref a]/\H a=some (.tup (zF bk))/\isBk bk/\∀H',zA H H'->Q (.bl true) H'
abbrev zDS:c8:=top 13
theorem zMv:FnScope ["thing"] ["thing"] (defScope zDS):=yE
theorem nd2:(["name"]:List Str).Nodup:=by decide+kernel
def zDT:Sp:=fun vs H Q _=>∃o a b:Nat,vs=[.int o,.int a,.int b]/\a<=o/\o<=b/\Q (.bl true) H
abbrev zDU:c8:=top 14
theorem zMw:FnScope ["thing","least","most"] ["thing","least","most"] (defScope zDU):=yE
def zDV:Sp:=fun vs H Q _=>∃o:Nat,vs=[.int o]/\1<=o/\o<=3/\Q (.bl true) H
abbrev zDW:c8:=top 15
theorem zMx:FnScope ["thing"] ["thing"] (defScope zDW):=yE
def zGv:Sp:=fun vs H Q _=>∃(a:ak) (bk:List S),vs=[.ref a]/\H a=some (.tup (zF bk))/\isBk bk/\∀H',zA H H'->Q .non H'
abbrev zDX:c8:=top 17
theorem zMy:FnScope ["thing"] ["thing"] (defScope zDX):=yE
theorem zMz {f:ak}{fd:bg}(F:Fun K "need_book" "need_book" zDX f fd)(b:zV P w K mg base 2 "is_book" ["thing"] zDR):FnOk P w K mg base z7 3 f fd ["thing"] zGv:=by
 refine F.ok zMy (fun vs H Q E h=>?_) (fun c A outer s H vs Q E d h=>?_)
 ·obtain⟨a,bk,rfl,_⟩:=h;rfl
 ·obtain⟨a,bk,rfl,ha,hb,k⟩:=h
  refine⟨_,zK (yV (v1 (vX (zT b d rfl (zC (pv 0) zD)))) (zK zAw) yU),?_⟩
  exact⟨_,rfl,a,bk,rfl,ha,hb,fun e g=>⟨true,rfl,yO (k e g)⟩⟩
def zGw:Sp:=fun vs H Q _=>∃o:Nat,vs=[.int o]/\1<=o/\o<=3/\Q .non H
abbrev zDY:c8:=top 18
theorem zNA:FnScope ["thing"] ["thing"] (defScope zDY):=yE
theorem zNB {f:ak}{fd:bg}(F:Fun K "need_order" "need_order" zDY f fd)(a:zV P w K mg base 2 "is_order" ["thing"] zDV):FnOk P w K mg base z7 3 f fd ["thing"] zGw:=by
 refine F.ok zNA (fun vs H Q E h=>?_) (fun b A outer s H vs Q E c h=>?_)
 ·obtain⟨o,rfl,_⟩:=h;rfl
 ·obtain⟨o,rfl,d,e,k⟩:=h
  refine⟨_,zK (yV (v1 (vX (zT a c rfl (zC (pv 0) zD)))) (zK zAw) yU),?_⟩
  exact⟨_,rfl,o,rfl,d,e,true,rfl,yO k⟩
def zGx:Sp:=fun vs H Q _=>∃x:S,vs=[sv x]/\vI x/\∀H',zA H H'->Q .non H'
abbrev zDZ:c8:=top 20
theorem zNC:FnScope ["thing"] ["thing"] (defScope zDZ):=yE
theorem zND {f:ak}{fd:bg}(F:Fun K "need_name" "need_name" zDZ f fd)(a:zV P w K mg base 1 "is_name" ["thing"] zDP):FnOk P w K mg base z7 2 f fd ["thing"] zGx:=by
 refine F.ok zNC (fun vs H Q E h=>?_) (fun b A outer s H vs Q E c h=>?_)
 ·obtain⟨x,rfl,_⟩:=h;rfl
 ·obtain⟨x,rfl,d,k⟩:=h
  refine⟨_,zK (yV (v1 (vX (zT a c rfl (zC (pv 0) zD)))) (zK zAw) yU),?_⟩
  exact⟨_,rfl,x,rfl,d,fun e g=>⟨true,rfl,yO (k e g)⟩⟩
end
theorem jE {a b:S}(h:tx a=tx b):a=b:=by
 have:=congrArg (fun z:Str=>z.cps.toList) h
 simpa [tx]using this
section
variable{α:Type}
def z0 (f:α->V)(l:List (S×α)):List (zJ×V):=vS (l.map fun p=>(tx p.1,f p.2))
theorem zAD (f:α->V)(p:S×α)(l:List (S×α)):z0 f (p::l)=((Sum.inr (tx p.1):zJ),f p.2)::z0 f l:=rfl
theorem jQ (f:α->V)(l:List (S×α)):(z0 f l).length=l.length:=by simp[z0,vS]
theorem zAj {a b:S}:((Sum.inr (tx a):zJ)=Sum.inr (tx b))↔a=b:=⟨fun h=>jE (mY h),fun h=>by rw[h]⟩
theorem kZ (f:α->V)(l:List (S×α))(k:S):v3 (z0 f l) (Sum.inr (tx k))=(zM l k).map f:=by
 induction l with
 |nil=>rfl
 |cons p r ih=>
  rw[zAD]
  by_cases e:p.1=k
  ·rw[zBd (zAj.mpr e)]
   obtain⟨a,b⟩:=p
   have c:a=k:=e
   subst c
   simp[zM]
  ·rw[zBe (fun z=>e (zAj.mp z)),ih]
   obtain⟨a,b⟩:=p
   have c:¬a=k:=e
   simp[zM,c]
theorem zNE (f:α->V)(l:List (S×α))(k:S):((z0 f l).any fun a=>decide (a.1=(Sum.inr (tx k):zJ)))=decide (k∈l.map (·.1)):=by
 induction l with
 |nil=>rfl
 |cons p r ih=>
  rw[zAD,fz,ih]
  by_cases e:p.1=k
  ·have:decide ((Sum.inr (tx p.1):zJ)=Sum.inr (tx k))=true:=decide_eq_true (zAj.mpr e)
   rw[this,sJ]
   exact(decide_eq_true (by rw[<-e];exact az ..)).symm
  ·have:decide ((Sum.inr (tx p.1):zJ)=Sum.inr (tx k))=false:=decide_eq_false (fun z=>e (zAj.mp z))
   rw[this,lH]
   congr 1
   have b:¬k=p.1:=fun z=>e z.symm
   simp[b]
theorem zBu (f:α->V)(l:List (S×α))(k:S)(v:α)(nd:(l.map (·.1)).Nodup):uA (z0 f l) (Sum.inr (tx k)) (f v)=z0 f (zP l k v):=by
 unfold uA
 rw[zNE]
 by_cases c:k∈l.map (·.1)
 ·rw[if_pos (decide_eq_true c)]
  induction l with
  |nil=>cases c
  |cons p r ih=>
   obtain⟨a,b⟩:=p
   have d:=bz.mp nd
   rw[zAD,aR]
   by_cases e:a=k
   ·subst e
    have e1:zP ((a,b)::r) a v=(a,v)::r:=by simp[zP]
    rw[e1,zAD]
    congr 1
    ·simp
    ·have:∀q∈z0 f r,(if q.1=(Sum.inr (tx a):zJ)then(q.1,f v)else q)=q:=fun q h=>by
      rw[if_neg]
      intro z
      obtain⟨s,i,j⟩:=av.mp h
      obtain⟨s',g,m⟩:=av.mp i
      have:s.1=tx s'.1:=by rw[<-m]
      have n:q.1=(Sum.inr (tx s'.1):zJ):=by rw[<-j,this]
      rw[n]at z
      exact d.1 (av.mpr ⟨s',g,zAj.mp z⟩)
     have o:=dM this
     rw[o];simp
   ·have e1:zP ((a,b)::r) k v=(a,b)::zP r k v:=by simp[zP,e]
    rw[e1,zAD]
    congr 1
    ·rw[if_neg (fun z=>e (zAj.mp z))]
    ·exact ih d.2 (by
      rcases aG.mp c with z|z
      ·exact absurd z.symm e
      ·exact z)
 ·rw[if_neg (by simpa using c)]
  clear nd
  induction l with
  |nil=>rfl
  |cons p r ih=>
   obtain⟨a,b⟩:=p
   have e:¬a=k:=fun z=>c (by rw[<-z];exact az ..)
   have e1:zP ((a,b)::r) k v=(a,b)::zP r k v:=by simp[zP,e]
   rw[e1,zAD,zAD,cT,ih fun z=>c (aC _ z)]
theorem zDa {β:Type}(l:List (S×β))(k:S)(v:β):(zP l k v).length<=l.length+1:=by
 induction l with
 |nil=>simp[zP]
 |cons p r ih=>
  obtain⟨a,b⟩:=p
  by_cases e:a=k
  ·simp[zP,e]
  ·simp[zP,e];omega
theorem zDb {β γ:Type}(g:β->γ)(l:List (S×β))(k:S)(v:β):(zP l k v).map (fun p=>(p.1,g p.2))=zP (l.map fun p=>(p.1,g p.2)) k (g v):=by
 induction l with
 |nil=>rfl
 |cons p r ih=>
  obtain⟨a,b⟩:=p
  by_cases e:a=k
  ·simp[zP,e]
  ·simp[zP,e,ih]
theorem zNF {β γ:Type}(g:β->γ)(l:List (S×β))(k:S):zM (l.map fun p=>(p.1,g p.2)) k=(zM l k).map g:=by
 induction l with
 |nil=>rfl
 |cons p r ih=>
  obtain⟨a,b⟩:=p
  by_cases e:a=k
  ·simp[zM,e]
  ·simp[zM,e,ih]
theorem kB {β:Type}{l:List (S×β)}{k:S}{v:β}{q:S×β}(h:q∈zP l k v):q=(k,v)\/(q∈l/\(q.1≠k\/(l.map (·.1)).Nodup->q.1≠k)):=by
 induction l with
 |nil=>simp[zP]at h;exact .inl h
 |cons p r ih=>
  obtain⟨a,b⟩:=p
  by_cases e:a=k
  ·subst e
   have e1:zP ((a,b)::r) a v=(a,v)::r:=by simp[zP]
   rw[e1]at h
   rcases aG.mp h with z|z
   ·exact .inl z
   ·refine .inr ⟨aC _ z,?_⟩
    rintro(w|w)
    ·exact w
    ·intro c
     exact(bz.mp w).1 (by rw[<-c];exact nK (f:=(·.1)) z)
  ·have e1:zP ((a,b)::r) k v=(a,b)::zP r k v:=by simp[zP,e]
   rw[e1]at h
   rcases aG.mp h with z|z
   ·subst z
    exact .inr ⟨az ..,fun _=>e⟩
   ·rcases ih z with w|⟨w1,w2⟩
    ·exact .inl w
    ·refine .inr ⟨aC _ w1,?_⟩
     rintro(u|u)
     ·exact u
     ·exact w2 (.inr (bz.mp u).2)
theorem zBv {β:Type}(l:List (S×β))(k:S)(v:β)(h:k∉l.map (·.1)):zP l k v=l++[(k,v)]:=by
 induction l with
 |nil=>rfl
 |cons q r ih=>
  obtain⟨a,b⟩:=q
  have e:¬a=k:=fun z=>h (by rw[<-z];exact az ..)
  have e1:zP ((a,b)::r) k v=(a,b)::zP r k v:=by simp[zP,e]
  rw[e1,ih fun z=>h (aC _ z)];rfl
theorem zDc {β γ:Type}(g:β->γ)(l:List (S×β))(k:S)(v u:β)(h:zM l k=some u)(e:g v=g u):(zP l k v).map (fun p=>(p.1,g p.2))=l.map fun p=>(p.1,g p.2):=by
 induction l with
 |nil=>cases h
 |cons p r ih=>
  obtain⟨a,b⟩:=p
  by_cases c:a=k
  ·have:b=u:=by simpa [zM,c]using h
   subst this
   simp[zP,c,e]
  ·have h':zM r k=some u:=by simpa [zM,c]using h
   simp[zP,c,ih h']
theorem zGy (ps:List (S×S)):(uB ps).length<=ps.length/\∀r∈uB ps,r.2.length<=ps.length:=by
 have key:∀(c:List (S×S)) (rows:List (S×List (S×Int))) (n:Nat),(rows.length<=n/\∀r∈rows,r.2.length<=n)->(c.foldl yZ rows).length<=n+c.length/\∀r∈c.foldl yZ rows,r.2.length<=n+c.length:=by
  intro c
  induction c with
  |nil=>intro rows n h;simpa using h
  |cons q c ih=>
   intro rows n h
   have:=ih (yZ rows q) (n+1) ⟨?_,fun r i=>?_⟩
   ·rw[eZ,aM]
    have e:n+(c.length+1)=n+1+c.length:=by omega
    rw[e];exact this
   ·have:=zDa rows q.1 (uI ((zM rows q.1).getD []) q.2)
    unfold yZ;omega
   ·rcases kB i with e|⟨e,_⟩
    ·rw[e]
     have j:=zDa ((zM rows q.1).getD []) q.2 ((zM ((zM rows q.1).getD []) q.2).getD 0+1)
     have m:((zM rows q.1).getD []).length<=n:=by
      cases g:zM rows q.1 with
      |none=>simp
      |some row=>
       have l:(q.1,row)∈rows:=by
        clear h i e j
        induction rows with
        |nil=>cases g
        |cons p r d=>
         obtain⟨a,b⟩:=p
         by_cases f:a=q.1
         ·have:b=row:=by simpa [zM,f]using g
          subst this;subst f
          exact az ..
         ·exact aC _ (d (by simpa [zM,f]using g))
       exact h.2 _ l
     show(uI _ _).length<=_
     unfold uI;omega
    ·have:=h.2 r e;omega
 have:=key ps [] 0 ⟨ay _,by simp⟩
 simpa [uB]using this
end
abbrev yP (row:List (S×Int)):List (zJ×V):=z0 V.int row
structure RA (H0 H:Hp) (d:ak) (ps:List (S×S)) (ra:List (S×ak×List (S×Int))):Prop where
 rows:ra.map (fun r=>(r.1,r.2.2))=uB ps
 top:H d=some (.dK (z0 (fun v:ak×List (S×Int)=>V.ref v.1) ra))
 row:∀r∈ra,H r.2.1=some (.dK (yP r.2.2))
 new:∀r∈ra,H0 r.2.1=none/\r.2.1≠d
 nda:(ra.map fun r=>r.2.1).Nodup
def zAE (H:Hp)(d:ak)(ps:List (S×S)):Prop:=∃ra:List (S×ak×List (S×Int)),ra.map (fun r=>(r.1,r.2.2))=uB ps/\H d=some (.dK (z0 (fun v:ak×List (S×Int)=>V.ref v.1) ra))/\∀r∈ra,H r.2.1=some (.dK (yP r.2.2))
theorem zAE.same {H a:Hp}{d:ak}{ps:List (S×S)}(h:zAE H d ps)(e:zA H a):zAE a d ps:=by
 obtain⟨b,c,f,g⟩:=h
 exact⟨b,c,e _ _ f,fun r i=>e _ _ (g r i)⟩
section
variable{P:aJ}{w:aY}{K:ag}{mg:Str->Option aj}{base:bE}
def zDd:Sp:=fun vs H Q _=>∃(a:ak) (bk:List S) (o:Nat),vs=[.ref a,.int o]/\H a=some (.tup (zF bk))/\bk.length<=8/\(∀x∈bk,x.length<=8)/\1<=o/\∀d H',zA H H'->H d=none->zAE H' d (zB o bk)->Q (.ref d) H'
abbrev zDe:c8:=top 23
theorem zGz:FnScope ["book","order","rows","name","end","letter","row"] ["book","order"] (defScope zDe):=yE
theorem zDf {b H:Hp}{d:ak}{ps:List (S×S)}{a:List (S×ak×List (S×Int))}(R:RA b H d ps a):(a.map (·.1)).Nodup:=by
 have h:=(v4 ps).nd
 rw[<-R.rows,aU]at h
 exact h
theorem RA.step {s H q:Hp}{d ad:ak}{ps:List (S×S)}{c:List (S×ak×List (S×Int))}(R:RA s H d ps c)(p:S×S)(row:List (S×Int))(n:row=((zM c p.1).map (·.2)).getD [])
  (l:∀v,zM c p.1=some v->v.1=ad) (f:zM c p.1=none->s ad=none/\ad≠d/\ad∉c.map fun r=>r.2.1)
  (A:q ad=some (.dK (yP (uI row p.2)))) (B:q d=some (.dK (z0 (fun v:ak×List (S×Int)=>V.ref v.1) (zP c p.1 (ad,uI row p.2))))) (C:∀r∈c,r.2.1≠ad->q r.2.1=some (.dK (yP r.2.2))) :
  RA s q d (ps++[p]) (zP c p.1 (ad,uI row p.2)):=by
 have nd:=zDf R
 have h:∀v,zM c p.1=some v->(p.1,v)∈c:=fun v hv=>(vK nd p.1 v).mpr hv
 have t:∀r∈c,r.1≠p.1->r.2.1≠ad:=fun r m u e=>by
  cases g:zM c p.1 with
  |none=>exact(f g).2.2 (av.mpr ⟨r,m,e⟩)
  |some v=>
   have hv:=h v g
   have ev:=l v g
   have:r=(p.1,v):=by
    obtain⟨i,hi,y⟩:=du m
    obtain⟨j,D,z⟩:=du hv
    have x:i=j:=by
     refine(dU (xs:=c.map fun r=>r.2.1) (h₀:=by simpa using hi) (h₁:=by simpa using D) R.nda).mp ?_
     rw[fI,fI,y,z]
     show r.2.1=v.1
     rw[e,ev]
    subst x
    rw[<-y,<-z]
   exact u (by rw[this])
 refine⟨?_,B,fun r m=>?_,fun r m=>?_,?_⟩
 ·rw[zMb,<-R.rows]
  unfold yZ
  have e:=zDb (fun v:ak×List (S×Int)=>v.2) c p.1 (ad,uI row p.2)
  rw[e]
  have o:=zNF (fun v:ak×List (S×Int)=>v.2) c p.1
  rw[o,<-n]
 ·rcases kB m with e|⟨e,E⟩
  ·rw[e];exact A
  ·exact C r e (t r e (E (.inr nd)))
 ·rcases kB m with e|⟨e,_⟩
  ·rw[e]
   cases g:zM c p.1 with
   |none=>exact⟨(f g).1,(f g).2.1⟩
   |some v=>
    have:=R.new _ (h v g)
    rw[<-l v g];exact this
  ·exact R.new r e
 ·cases g:zM c p.1 with
  |none=>
   have F:p.1∉c.map (·.1):=zGr.mp g
   have e:=zBv c p.1 (ad,uI row p.2) F
   rw[e,aQ]
   refine gi.mpr ⟨R.nda,by simp,fun a ha b hb o=>?_⟩
   have:b=ad:=by simpa using hb
   exact(f g).2.2 (by rw[<-this,<-o];exact ha)
  |some v=>
   have e:=zDc (fun v:ak×List (S×Int)=>v.1) c p.1 (ad,uI row p.2) v g (l v g).symm
   have o:(zP c p.1 (ad,uI row p.2)).map (fun r=>r.2.1)=c.map fun r=>r.2.1:=by
    have:=congrArg (kr qq) e
    rw[aU,aU]at this
    exact this
   rw[o];exact R.nda
def kG (H H':Hp):Prop:=∀b o,H b=some o->(∀kvs,o≠.dK kvs)->H' b=some o
theorem kG.upd {H:Hp}{a:ak}{kvs:List (zJ×V)}{u:HO}(h:H a=some (.dK kvs)):kG H (upd H a u):=fun b o e c=>by
 rw[zG]
 ·exact e
 ·rintro rfl;rw[h]at e;exact c kvs (aD e).symm
theorem kG.sqL {H b:Hp}(e:kG H b){a:ak}{xs:List V}(h:zZ K H a xs):zZ K b a xs:=by
 rcases h with(h|⟨o,h⟩)|h
 ·exact .inl (.inl (e _ _ h (by intro z w;cases w)))
 ·exact .inl (.inr ⟨o,e _ _ h (by intro z w;cases w)⟩)
 ·exact .inr h
theorem kG.sqT {H b:Hp}(e:kG H b){a:ak}{xs:List V}(h:zY K H a xs):zY K b a xs:=by
 rcases h with(h|⟨o,h⟩)|h
 ·exact .inl (.inl (e _ _ h (by intro z w;cases w)))
 ·exact .inl (.inr ⟨o,e _ _ h (by intro z w;cases w)⟩)
 ·exact .inr h
mutual
theorem vN.sameQ {H l:Hp}(e:kG H l):∀(d:bG) (v:V),vN K H d v->vN K l d v
 | .none,v,h=>h
 | .bool b,v,h=>h
 | .int i,v,h=>h
 | .str x,v,h=>h
 | .list c,v,h=>by
  obtain⟨a,xs,f,g,j⟩:=h
  exact⟨a,xs,f,e.sqL g,Reps.sameQ e c xs j⟩
 | .tuple c,v,h=>by
  obtain⟨a,xs,f,g,j⟩:=h
  exact⟨a,xs,f,e.sqT g,Reps.sameQ e c xs j⟩
 | .dict _,v,h=>h
theorem Reps.sameQ {H b:Hp}(e:kG H b):∀(a:List bG) (xs:List V),Reps K H a xs->Reps K b a xs
 | [],xs,h=>h
 |d::a,xs,h=>by
  obtain⟨y,ys,c,f,g⟩:=h
  exact⟨y,ys,c,vN.sameQ e d y f,Reps.sameQ e a ys g⟩
end
theorem zDg {β:Type}(g:β->V)(l:List (S×β))(k:S)(v u:β)(h:zM l k=some u)(e:g v=g u):z0 g (zP l k v)=z0 g l:=by
 have:=zDc g l k v u h e
 unfold z0
 have a:∀m:List (S×β),m.map (fun p=>(tx p.1,g p.2))=(m.map fun p=>(p.1,g p.2)).map fun q=>(tx q.1,q.2):=fun m=>by rw[aU];rfl
 rw[a,a,this]
theorem zNG {c H:Hp}{d:ak}{ps:List (S×S)}{f:List (S×ak×List (S×Int))}(R:RA c H d ps f){e:S}{v:ak×List (S×Int)}(h:zM f e=some v) :
  H v.1=some (.dK (yP v.2))/\(v.2.map (·.1)).Nodup/\v.2.length<=ps.length/\c v.1=none/\v.1≠d:=by
 have b:=(vK (zDf R) e v).mpr h
 have a:(e,v.2)∈uB ps:=by rw[<-R.rows];exact av.mpr ⟨(e,v),b,rfl⟩
 exact⟨R.row _ b,(v4 ps).ndr e v.2 a,(zGy ps).2 _ a,(R.new _ b).1,(R.new _ b).2⟩
theorem zNH {f:ak}{fd:bg}(F:Fun K "counted_rows" "counted_rows" zDe f fd)(ab:zV P w K mg base 2 "ends_and_letters" ["name","order"] (zGu K)):FnOk P w K mg base z7 3 f fd ["book","order"] zDd:=by
 refine F.ok zGz (fun vs H Q E h=>?_) (fun b5 A outer s H vs Q E m h=>?_)
 ·obtain⟨a,bk,o,rfl,_⟩:=h;rfl
 ·obtain⟨a,bk,o,rfl,ha,b6,as,ho,k⟩:=h
  have hu:=zAc m
  have nd:=zGz.nd
  refine⟨_,zQ (yH (i:=2) nd rfl (Or.inl rfl) zBh)
   (zQ (uE bM rfl (zAx (pv 0)) (z8 (i:=3) nd rfl (Or.inl rfl))
    (zK (uE bM rfl (jA (zT ab m rfl (zC (pv 3) (zC (pv 1) zD))))
     (kO rfl (yW (z8 (i:=4) nd rfl (Or.inl rfl)) (yW (z8 (i:=5) nd rfl (Or.inl rfl)) uS)))
     (zQ (yH (i:=6) nd rfl (Or.inl rfl) (jM cn fZ jn zGY (pv 2) (zC (pv 4) (zC zBh zD))))
      (zK (zCy hu (pv 6) (pv 5) (zS yY (zLY hu (pv 6) (pv 5) zO ⟨rfl,rfl,rfl,rfl⟩) zO) rfl))))))
   (zK (z6 (pv 2)))),?_⟩
  intro d hd
  have s1:zA H (upd H d (.dK [])):=zA.upd1 hd
  refine⟨_,rfl,a,rfl,⟨_,.of (s1 _ _ ha)⟩,?_⟩
  refine j8 (zBI K a (zF bk)) (fun i σ H'=>(∃x y z u:Option V,σ=[some (.ref a),some (.int o),some (.ref d),x,y,z,u])/\zA H H'/\∃T,RA H H' d (zB o (bk.take i)) T)
   ⟨⟨_,_,_,_,rfl⟩,s1,[],⟨rfl,zE,by simp,by simp,by simp⟩⟩ (fun i σ H' _ h=>.of (h.2.1 _ _ ha)) ?_ ?_
  ·rintro i x σ H' Nx hN hx ⟨⟨x1,x2,x3,x4,rfl⟩,sm,T,R⟩
   rw[zF,aw]at hx
   cases e:bk[i]? with
   |none=>rw[e]at hx;cases hx
   |some nm=>
   rw[e]at hx
   have a3:x=sv nm:=(aD hx).symm
   subst a3
   have b7:=as nm (aZ e)
   have hi:i<bk.length:=(ai.mp e).1
   have ac:bk.take (i+1)=bk.take i++[nm]:=by
    rw[aB hi]
    have:=(ai.mp e).2
    rw[this]
   have n:zB o (bk.take (i+1))=zB o (bk.take i)++vP o nm:=by
    rw[ac,zMd];simp[zB]
   have a4:((zB o (bk.take (i+1))).length:Int)<=100:=by
    rw[zBr]
    have go:∀l:List S,(∀x∈l,x.length<=8)->(l.map fun x=>(x.length:Int)+1).sum<=9*(l.length:Int):=by
     intro l
     induction l with
     |nil=>intro _;simp
     |cons x r ih=>
      intro hl
      have h1:=hl x (az ..)
      have h2:=ih fun y hy=>hl y (aC _ hy)
      rw[aR,cw,aM]
      have:((r.length+1:Nat):Int)=(r.length:Int)+1:=rfl
      omega
    have:=go (bk.take (i+1)) fun x hx=>as x (cf hx)
    have h3:(bk.take (i+1)).length<=8:=by rw[aI];omega
    omega
   refine⟨_,rfl,_,rfl,nm,o,rfl,ho,by omega,fun l xs Hl sml a5 U rp=>?_⟩
   refine⟨l,rfl,⟨_,.of U⟩,?_⟩
   have R1:RA H Hl d (zB o (bk.take i)) T:=⟨R.rows,sml _ _ R.top,fun r m=>sml _ _ (R.row r m),R.new,R.nda⟩
   have b9:H l=none:=sm.free a5
   have a6:l≠d:=zBZ U (sml _ _ R.top) (by intro z;cases z)
   refine j8 (jD K l xs) (fun j σ q=>(∃y z u:Option V,σ=[some (.ref a),some (.int o),some (.ref d),some (sv nm),y,z,u])/\zA H q/\q l=some (.lst xs)/\Reps K q ((vP o nm).map elD) xs/\∃T,RA H q d (zB o (bk.take i)++(vP o nm).take j) T/\∀r∈T,r.2.1≠l)
    ⟨⟨_,_,_,rfl⟩,sm.trans sml,U,rp,T,by simpa using R1,fun r m=>zBZ (R1.row r m) U (by intro z;cases z)⟩ (fun j σ q _ h=>.of h.2.2.1) ?_ ?_
   ·rintro j x σ q al a7 hx2 ⟨⟨y,z,u,rfl⟩,C,hl2,D,b,R2,a8⟩
    obtain⟨dd,G,rx⟩:=D.get hx2
    rw[aw]at G
    cases ep:(vP o nm)[j]? with
    |none=>rw[ep]at G;cases G
    |some p=>
    rw[ep]at G
    have a9:dd=elD p:=(aD G).symm
    subst a9
    obtain⟨ba,ca,rfl,bb,y1,b3,rfl,bd,y2,ax,rfl,be,aK⟩:=rx
    have bi:y1=sv p.1:=bd
    have bl:y2=sv p.2:=be
    have en:ax=[]:=aK
    subst bi bl en
    have hj:j<(vP o nm).length:=(ai.mp ep).1
    have aN:zB o (bk.take i)++(vP o nm).take (j+1)=(zB o (bk.take i)++(vP o nm).take j)++[p]:=by
     rw[aB hj,(ai.mp ep).2,dG]
    generalize bm:zB o (bk.take i)++(vP o nm).take j=ps at R2 aN
    have cd:ps.length<=100:=by
     have h1:ps.length<=(zB o (bk.take (i+1))).length:=by
      rw[<-bm,n,au,au,aI];omega
     omega
    have b4:b.length<=100:=by
     have h1:=(zGy ps).1
     rw[<-R2.rows,ah]at h1
     omega
    refine⟨ba,[sv p.1,sv p.2],rfl,bb,rfl,_,_,rfl,_,_,rfl,rfl,?_⟩
    refine⟨_,rfl,.inr (.inr (.inl ⟨rfl,.inl ⟨_,R2.top⟩⟩)),_,rfl,fun t W=>?_⟩
    have Z:H t=none:=C.free W
    have X:d≠t:=yG R2.top W
    have s3:zA q (upd q t (.dK [])):=zA.upd1 W
    have fin:∀(ad:ak) (row:List (S×Int)) (I:Hp),I ad=some (.dK (yP row))->(row.map (·.1)).Nodup->row.length<=100->(∀J,J=upd I ad (.dK (yP (uI row p.2)))->al [some (.ref a),some (.int o),some (.ref d),some (sv nm),some (sv p.1),some (sv p.2),some (.ref ad)] J)->
      zFs (zAS 6) (zAS 5) (tOp (gG fun i j=>V.int (i+j)) (zFw (zAS 6) (zAS 5) (tC (.int 0))) (tC (.int 1))) {nx:=al,rt:=Q,bk:=fun _ _=>False,ct:=fun _ _=>False} [some (.ref a),some (.int o),some (.ref d),some (sv nm),some (sv p.1),some (sv p.2),some (.ref ad)] I:=by
     intro ad row I c bn ce hq
     refine⟨_,rfl,ad,rfl,.inl ⟨_,.inl c⟩,_,rfl,_,vV.k (k:=Sum.inr (tx p.2)) c,(zM row p.2).getD 0,1,?_,rfl,?_⟩
     ·rw[kZ]
      cases zM row p.2<;>rfl
     ·refine⟨_,rfl,_,rfl,ad,_,rfl,g8.k (k:=Sum.inr (tx p.2)) c (by rw[jQ,aF];omega),hq _ ?_⟩
      rw[zBu V.int row p.2 _ bn]
      rfl
    have B:∀(ad:ak) (row:List (S×Int)) (I J:Hp),zA H I->H ad=none->I l=some (.lst xs)->Reps K I ((vP o nm).map elD) xs->J=upd I ad (.dK (yP (uI row p.2)))->I ad=some (.dK (yP row))->RA H J d (ps++[p]) (zP b p.1 (ad,uI row p.2))->
      al [some (.ref a),some (.int o),some (.ref d),some (sv nm),some (sv p.1),some (sv p.2),some (.ref ad)] J:=by
     intro ad row I J sx bt Y bv L c RR
     have aa:ad≠l:=zBZ c Y (by intro z;cases z)
     subst L
     refine a7 _ _ ⟨⟨_,_,_,rfl⟩,sx.upd_new bt,by rw[zG aa.symm];exact Y,Reps.sameQ (kG.upd c) _ _ bv,_,by rw[aN];exact RR,fun r m=>?_⟩
     rcases kB m with e|⟨e,_⟩
     ·rw[e];exact aa
     ·exact a8 r e
    have am:upd q t (.dK []) d=some (.dK (z0 (fun v:ak×List (S×Int)=>V.ref v.1) b)):=by rw[zG X];exact R2.top
    have a0:upd q t (.dK []) l=some (.lst xs):=s3 _ _ hl2
    have a1:∀r∈b,upd q t (.dK []) r.2.1=some (.dK (yP r.2.2)):=fun r m=>s3 _ _ (R2.row r m)
    have b1:∀r∈b,r.2.1≠t:=fun r m=>yG (R2.row r m) W
    refine⟨d,_,Sum.inr (tx p.1),_,rfl,rfl,am,by rw[jQ,aF];omega,fun yv M=>?_,fun an=>?_⟩
    ·
     rw[kZ]at M
     cases g:zM b p.1 with
     |none=>rw[g]at M;cases M
     |some v=>
     rw[g]at M
     have ev:yv=.ref v.1:=(aD M).symm
     subst ev
     obtain⟨r1,r2,r3,r4,r5⟩:=zNG R2 g
     have N:upd q t (.dK []) v.1=some (.dK (yP v.2)):=s3 _ _ r1
     refine fin v.1 v.2 _ N r2 (by omega) fun J L=>B v.1 v.2 _ J (C.trans s3) r4 a0 (Reps.same s3 _ _ D) L N ?_
     refine R2.step p v.2 (by rw[g];rfl) (fun v' O=>by rw[g]at O;rw[aD O]) (fun hn=>by rw[g]at hn;cases hn) (by rw[L,zE]) ?_ fun r m ap=>?_
     ·rw[L,zG r5.symm,am]
      have:=zDg (fun v:ak×List (S×Int)=>V.ref v.1) b p.1 (v.1,uI v.2 p.2) v g rfl
      rw[this]
     ·rw[L,zG ap];exact a1 r m
    ·
     rw[kZ]at an
     have g:zM b p.1=none:=by
      cases g:zM b p.1 with
      |none=>rfl
      |some v=>rw[g]at an;cases an
     have b2:=zBu (fun v:ak×List (S×Int)=>V.ref v.1) b p.1 (t,[]) (zDf R2)
     have a2:upd (upd q t (.dK [])) d (.dK (uA (z0 (fun v:ak×List (S×Int)=>V.ref v.1) b) (Sum.inr (tx p.1)) (.ref t))) t=some (.dK (yP [])):=by
      rw[zG X.symm,zE];rfl
     refine fin t [] _ a2 (by simp) (by simp) fun J L=>B t [] _ J ((C.trans s3).upd_new hd) Z (by rw[zG a6];exact a0) (Reps.sameQ (kG.upd am) _ _ (Reps.same s3 _ _ D)) L a2 ?_
     refine R2.step p [] (by rw[g];rfl) (fun v' O=>by rw[g]at O;cases O) (fun _=>⟨Z,X.symm,fun hm=>?_⟩) (by rw[L,zE]) ?_ fun r m ap=>?_
     ·obtain⟨r,m,e⟩:=av.mp hm
      exact b1 r m e
     ·rw[L,zG X,zE,b2]
      congr 2
      have hk:p.1∉b.map (·.1):=zGr.mp g
      rw[zBv _ _ _ hk,zBv _ _ _ hk]
      unfold z0 vS
      rw[aQ,aQ,aQ,aQ]
      rfl
     ·rw[L,zG ap,zG (R2.new r m).2];exact a1 r m
   ·rintro σ q ⟨⟨y,z,u,rfl⟩,C,hl2,D,b,R2,_⟩
    refine hN _ _ ⟨⟨_,_,_,_,rfl⟩,C,b,?_⟩
    rw[n]
    have Y:xs.length=(vP o nm).length:=by have:=D.length;simpa using this.symm
    rw[Y,bo]at R2
    exact R2
  ·rintro σ H' ⟨⟨x1,x2,x3,x4,rfl⟩,sm,T,R⟩
   refine⟨_,rfl,k d H' sm hd ⟨T,?_,R.top,R.row⟩⟩
   rw[R.rows]
   have:(zF bk).length=bk.length:=by simp[zF]
   rw[this,bo]
theorem zNI {a b:Int}(ha:0<=a)(hb:0<b):i9 b (a%b)=i9 a b:=by
 obtain⟨x,rfl⟩:=cp ha
 obtain⟨y,rfl⟩:=cp (cZ hb)
 have e:((x:Int)%(y:Int))=((x%y:Nat):Int):=rfl
 rw[e]
 show sO y (x%y)=sO x y
 rw[mE y (x%y),<-Nat.gcd_rec,mE]
def zDh:Sp:=fun vs H Q _=>∃u d:Int,vs=[.int u,.int d]/\0<=u/\0<d/\d<1073741824/\Q (.int (yD u d)) H
abbrev zDi:c8:=top 26
theorem zHA:FnScope ["one","other","rest"] ["one","other"] (defScope zDi):=yE
abbrev frO (q:Int×Int):HO:=.tup [.int q.1,.int q.2]
def zDj:Sp:=fun vs H Q _=>∃u d:Int,vs=[.int u,.int d]/\0<=u/\0<d/\d<1073741824/\∀p,H p=none->Q (.ref p) (upd H p (frO (low u d)))
abbrev zDk:c8:=top 27
theorem zHB:FnScope ["up","down","divisor"] ["up","down"] (defScope zDk):=yE
def vA (K:ag)(H:Hp)(v:V)(q:Int×Int):Prop:=∃a,v=.ref a/\zY K H a [.int q.1,.int q.2]
theorem vA.same {H b:Hp}{v:V}{q:Int×Int}(h:vA K H v q)(e:zA H b):vA K b v q:=by
 obtain⟨a,c,d⟩:=h
 exact⟨a,c,e.seqT d⟩
theorem vA.new {H:Hp}{p:ak}{q:Int×Int}:vA K (upd H p (frO q)) (.ref p) q:=⟨p,rfl,.of zE⟩
theorem vA.rep {H:Hp}{v:V}{q:Int×Int}(h:vA K H v q):vN K H (.tuple [.int q.1,.int q.2]) v:=by
 obtain⟨a,b,c⟩:=h
 exact⟨a,_,b,c,_,_,rfl,rfl,_,_,rfl,rfl,rfl⟩
theorem cm {p:Int}(a:0<=p)(b:p<1073741824)(q:Int):zAy p q:=.inl ⟨by omega,by omega⟩
end
theorem zNJ {ps:List (S×S)}{e:S}{xs:List (S×Int)}(nd:(xs.map (·.1)).Nodup)(mem:∀l n,(l,n)∈xs↔n=(ps.count (e,l):Int)/\0<n):(xs.map (·.2)).sum=(tot ps e:Int):=by
 have h:=zGs (ps.filter fun p=>decide (p.1=e)) (xs.map fun p=>(e,p.1)) ?_ ?_
 ·unfold tot
  rw[<-h,aU]
  congr 1
  apply dM
  rintro⟨l,n⟩ a
  have:=((mem l n).mp a).1
  show n=(ko (e,l) (ps.filter fun p=>decide (p.1=e)):Int)
  rw[oR (by simp)]
  exact this
 ·have:=nd
  rw[de,bq]at this⊢
  exact this.imp fun{p q} b z=>b (congrArg qq z)
 ·rintro⟨d,l⟩ a
  obtain⟨f,g⟩:=aL.mp a
  have c:d=e:=by simpa using g
  subst c
  exact av.mpr ⟨(l,(ps.count (d,l):Int)),(mem l _).mpr ⟨rfl,by
   have:=dZ.mpr f
   omega⟩,rfl⟩
def uC (ps:List (S×S))(e:S):List (S×Int):=(zM (uB ps) e).getD []
theorem zAk (ps:List (S×S))(e:S):((uC ps e).map (·.1)).Nodup:=by
 unfold uC
 cases g:zM (uB ps) e with
 |none=>simp
 |some row=>exact(v4 ps).ndr e row ((vK (v4 ps).nd e row).mpr g)
theorem zDl (ps:List (S×S))(e l:S):zM (uC ps e) l=if 0<ps.count (e,l)then some (ps.count (e,l):Int)else none:=(v4 ps).val e l
theorem zDm (ps:List (S×S))(e l:S)(n:Int):(l,n)∈uC ps e↔n=(ps.count (e,l):Int)/\0<n:=by
 rw[vK (zAk ps e),zDl]
 by_cases c:0<ps.count (e,l)
 ·rw[if_pos c]
  constructor
  ·intro z
   have:=aD z
   omega
  ·rintro⟨z,_⟩;rw[z]
 ·rw[if_neg c]
  constructor
  ·intro z;cases z
  ·rintro⟨a,b⟩;omega
theorem zHC (ps:List (S×S))(e:S):((uC ps e).map (·.2)).sum=(tot ps e:Int):=zNJ (zAk ps e) (zDm ps e)
theorem tot_le (ps:List (S×S))(e:S):tot ps e<=ps.length:=bX ..
structure Cst2 (K:ag) (mg:Str->Option aj):Prop where
 nought:∃a,mg "NOUGHT"=some (.ref a)/\∀H,zY K H a [.int 0,.int 1]
section
variable{P:aJ}{w:aY}{K:ag}{mg:Str->Option aj}{base:bE}
abbrev zDn:c8:=top 28
theorem zNK:FnScope ["row","letter"] ["row","letter"] (defScope zDn):=yE
theorem zAF {X:Cx}(c:ag){pos:Pos}{a:List bJ}{k:Nat}{t:gF}(n:Nat)(d:X.K=c)(e:X.calm=true)(h:PGs X a t)
  (f:(assignEach a X.env).length=n) (b:(assignEach a X.env).findIdx? (·.1)=none):PG X (.Tuple a k pos) (zFJ c n t):=by
 subst d
 exact kO e h f b
theorem nd3:(["rows","end","letter"]:List Str).Nodup:=by decide+kernel
structure Bk (bk:List S) (o:Nat):Prop extends isBk bk where
 o1:1<=o
 o3:o<=3
theorem Bk.l8 {bk:List S}{o:Nat}(h:Bk bk o):∀x∈bk,x.length<=8:=fun x a=>(h.nm x a).2.1
theorem zNL {bk:List S}{o:Nat}(h:Bk bk o):1<=(zB o bk).length/\(zB o bk).length<1000:=by
 have e:=zBr o bk
 have go:∀l:List S,(∀x∈l,x.length<=8)->(l.length:Int)<=(l.map fun x=>(x.length:Int)+1).sum/\(l.map fun x=>(x.length:Int)+1).sum<=9*(l.length:Int):=by
  intro l
  induction l with
  |nil=>intro _;simp
  |cons x r ih=>
   intro hl
   have a:=hl x (az ..)
   have b:=ih fun y c=>hl y (aC _ c)
   rw[aR,cw,aM]
   have:((r.length+1:Nat):Int)=(r.length:Int)+1:=rfl
   omega
 have:=go bk h.l8
 have a:=h.lo
 have b:=h.hi
 omega
structure Needs (P:aJ) (w:aY) (K:ag) (mg:Str->Option aj) (base:bE):Prop where
 bk:zV P w K mg base 3 "need_book" ["thing"] zGv
 od:zV P w K mg base 3 "need_order" ["thing"] zGw
 nm:zV P w K mg base 2 "need_name" ["thing"] zGx
 rows:zV P w K mg base 3 "counted_rows" ["book","order"] zDd
end
theorem zHD (x:Str):tx x.cps.toList=x:=by
 apply MyS.Str_ext
 simp[tx]
section
variable{P:aJ}{w:aY}{K:ag}{mg:Str->Option aj}{base:bE}
theorem zBL {X:Cx}(e:ag)(f:X.K=e){o:bJ}{to:TE}{name:Str}{apos a:Pos}{T id:String}{r:V->List V->Hp->VK->Prop}(g:n6 T)(slot:Slot T name id)(d:typeOf (.builtin id)=pure (.type "method_descriptor"))(h:gH X id r)(i:PE X o to)
  (b:attributeBase o name X.env (eval o X.env)=eval o X.env:=by rfl) (c:(apos.endLine==a.line)=true:=by rfl):PE X (.Call (.Attribute o name apos) [] [] a) (zFj e T r to):=by
 subst f
 exact zLA g slot d h i b c
end
theorem zAl {c A B:Prop} [Decidable c] (a:¬c)(h:A):if(!decide c)=true then A else B:=by
 rw[decide_eq_false a];exact h
section
variable{P:aJ}{w:aY}{K:ag}{mg:Str->Option aj}{base:bE}
theorem zHE {H:Hp}:∀ns:List Int,Reps K H (ns.map PyData.int) (ns.map V.int)
 | []=>rfl
 |n::ns=>⟨_,_,rfl,rfl,zHE ns⟩
theorem zHF:∀ns:List Int,cC (ns.map PyData.int)=true
 | []=>rfl
 |n::ns=>by rw[aR];simp only[cC,d7,zHF ns,eG]
def zHG (K:ag):Sp:=fun vs H Q _=>∃(a:ak) (ns:List Int) (k:Nat),vs=[.ref a,.int k]/\zZ K H a (ns.map V.int)/\ns.length<=63/\∀(i:Int) H',zA H H'->Q (.int i) H'
abbrev zDo:c8:=top 65
theorem zNM:FnScope ["_law_script","_law_k"] ["_law_script","_law_k"] (defScope zDo):=yE
theorem zNN (ns:List Int):dA (.list (ns.map PyData.int))=true:=by
 unfold dA
 have a:(PyData.list (ns.map PyData.int)).canLay0=true:=by simp only[d7];exact zHF ns
 have b:(PyData.list (ns.map PyData.int)).depth<=64:=by
  have go:∀ns:List Int,e8 (ns.map PyData.int)<=1:=by
   intro ns
   induction ns with
   |nil=>decide
   |cons n ns ih=>rw[aR];simp only[e8,eD];omega
  have:=go ns
  simp only[eD];omega
 rw[a,decide_eq_true b];rfl
theorem zNO {f:ak}{fd:bg}(F:Fun K "_law_cell" "_law_cell" zDo f fd)(B:Blt mg):FnOk P w K mg base z7 1 f fd ["_law_script","_law_k"] (zHG K):=by
 refine F.ok zNM (fun vs H Q E h=>?_) (fun e A outer s H vs Q E g h=>?_)
 ·obtain⟨a,ns,k,rfl,_⟩:=h;rfl
 ·obtain⟨a,ns,n,rfl,ha,hl,k⟩:=h
  have i:=g.units
  refine⟨_,zQ (yV (vY (zDB i) (pv 0) (uG zD) (vD _)) (zK (z6 (zS kP zO (pv 1)))) yU)
   (zK (z6 (zS yY (yM zBE (pv 0) (zS gW (pv 1) (yL j4 (by rfl) B.len bL (zC (pv 0) zD))) (fun _ _=>rfl))
    (zS kP zO (zS zAW (pv 1) (yL j4 (by rfl) B.len bL (zC (pv 0) zD))))))),?_⟩
  refine⟨_,rfl,by show 0<=sizeLine;decide,fun p j=>?_⟩
  have c:zA H (upd H p (.lst [])):=zA.upd1 j
  refine⟨.list (ns.map PyData.int),.list [],⟨a,_,rfl,c.seq ha,zHE ns⟩,⟨p,[],rfl,.of zE,rfl⟩,zNN ns,rfl,_,rfl,?_⟩
  cases ns with
  |nil=>exact yK ⟨_,rfl,7,n,rfl,rfl,.inl ⟨by decide,by decide⟩,k _ _ c⟩
  |cons m ns=>
   refine yO ?_
   have b:((m::ns).map V.int).length=ns.length+1:=by simp
   have l:ns.length+1<=63:=by simpa using hl
   have o:((n:Int)%(((m::ns).map V.int).length:Int))=((n%(ns.length+1):Nat):Int):=by rw[b];rfl
   have d:n%(ns.length+1)<((m::ns).map V.int).length:=by rw[b];exact qr _ (Nat.succ_pos _)
   refine⟨_,rfl,_,rfl,_,rfl,a,_,rfl,.inl (c.seq ha),_,_,rfl,rfl,by rw[b];omega,?_⟩
   refine⟨a,_,_,.int ((m::ns)[n%(ns.length+1)]'(by simpa using d)),rfl,rfl,c.seq ha,?_,?_⟩
   ·rw[o]
    refine zAZ ?_
    rw[aw,aq (by simpa using d)];rfl
   ·exact⟨_,rfl,_,rfl,a,_,rfl,.inl (c.seq ha),_,_,rfl,rfl,⟨by rw[b];omega,by rw[b];omega⟩,_,_,rfl,rfl,.inl ⟨by decide,by decide⟩,_,_,rfl,rfl,k _ _ c⟩
theorem lt0 {d:Int}(h:0<d):0<d:=h
theorem cmE {t d q:Int}(h:0<d)(a:d<18446744073709551616):zAy (t%d) q:=by
 have b:=mM t (show d≠0 by omega)
 have c:=ku t h
 exact .inl ⟨by omega,by omega⟩
def zBw (K:ag):Sp:=fun vs H Q _=>∃(a:ak) (ns:List Int) (k m:Nat),vs=[.ref a,.int k,.int m]/\zZ K H a (ns.map V.int)/\ns.length<=63/\1<=m/\m<100000/\∀(i:Nat) H',i<m->zA H H'->Q (.int i) H'
abbrev zDp:c8:=top 66
theorem zHH:FnScope ["_law_script","_law_k","_law_many","_law_cell_here"] ["_law_script","_law_k","_law_many"] (defScope zDp):=yE
theorem zNP {f:ak}{fd:bg}(F:Fun K "_law_drawn" "_law_drawn" zDp f fd)(b:zV P w K mg base 1 "_law_cell" ["_law_script","_law_k"] (zHG K)):FnOk P w K mg base z7 2 f fd ["_law_script","_law_k","_law_many"] (zBw K):=by
 refine F.ok zHH (fun vs H Q E h=>?_) (fun c A outer s H vs Q E d h=>?_)
 ·obtain⟨a,ns,k,m,rfl,_⟩:=h;rfl
 ·obtain⟨a,ns,n,m,rfl,ha,hl,g,j,k⟩:=h
  have nd:=zHH.nd
  refine⟨_,zQ (yH (i:=3) nd rfl (Or.inl rfl) (zS gW (zS yY (zS kP (zS gW (zT b d rfl (zC (pv 0) (zC (pv 1) zD))) zO) zO) (zS kP zO (zS yY (pv 1) zO))) zO))
   (zQ (yH (i:=3) nd rfl (Or.inl rfl) (zS gW (zS yY (zS kP (pv 3) (pv 3)) (zS zAW (pv 3) zO)) zO))
   (zK (z6 (zS gW (zS zAW (zS gW (zS yY (zS kP (pv 3) (pv 3)) (zS zAW (pv 3) zO)) zO) zO) (pv 2))))),?_⟩
  refine⟨_,rfl,_,rfl,a,ns,n,rfl,ha,hl,fun i l o=>?_⟩
  have fin:∀z:Int,Q (.int (z%(m:Int))) l:=fun z=>by
   have p:0<=z%(m:Int):=mM _ (by omega)
   have q:z%(m:Int)<m:=ku _ (by omega)
   have e:z%(m:Int)=((z%(m:Int)).toNat:Int):=(Int.toNat_of_nonneg p).symm
   rw[e]
   exact k _ _ (by omega) o
  refine⟨_,_,rfl,rfl,lt0 (by decide),_,_,rfl,rfl,.inr ⟨by decide,by decide⟩,?_⟩
  refine⟨_,rfl,_,_,rfl,rfl,_,_,rfl,rfl,.inl ⟨by decide,by decide⟩,_,_,rfl,rfl,_,_,rfl,rfl,lt0 (by decide),?_⟩
  refine⟨_,rfl,_,rfl,_,_,rfl,rfl,cmE (by decide) (by decide),_,rfl,_,_,rfl,rfl,⟨by decide,by decide⟩,_,_,rfl,rfl,_,_,rfl,rfl,lt0 (by decide),?_⟩
  refine⟨_,rfl,_,rfl,_,_,rfl,rfl,cmE (by decide) (by decide),_,rfl,_,_,rfl,rfl,⟨by decide,by decide⟩,_,_,rfl,rfl,_,_,rfl,rfl,lt0 (by decide),_,_,rfl,rfl,⟨by decide,by decide⟩,_,rfl,_,_,rfl,rfl,?_,fin _⟩
  show(0:Int)<(m:Int)
  omega
def zHI (K:ag):Sp:=fun vs H Q _=>∃(a:ak) (ns:List Int) (at' most:Nat),vs=[.ref a,.int at',.int most]/\zZ K H a (ns.map V.int)/\ns.length<=63/\1<=most/\most<=8/\
 ∀(x:S) H',zA H H'->vI x->(x.length<=most/\∀c∈x,(c=97\/c=98\/c=122))->Q (sv x) H'
abbrev zDq:c8:=top 67
theorem zHJ:FnScope ["_law_script","_law_at","_law_most","_law_size","_law_letters"] ["_law_script","_law_at","_law_most"] (defScope zDq):=yE
theorem ndN:(["_law_letters","_law_script","_law_at","_law_k"]:List Str).Nodup:=by decide+kernel
abbrev cDr (P:aJ)(w:aY)(K:ag)(mg:Str->Option aj)(base:bE):Prop:=zV P w K mg base 2 "_law_drawn" ["_law_script","_law_k","_law_many"] (zBw K)
theorem zNQ {f:ak}{fd:bg}(F:Fun K "_law_name" "_law_name" zDq f fd)(B:Blt mg)(I:cDr P w K mg base):FnOk P w K mg base z7 3 f fd ["_law_script","_law_at","_law_most"] (zHI K):=by
 refine F.ok zHJ (fun vs H Q E h=>?_) (fun aa A outer s H vs Q E J h=>?_)
 ·obtain⟨a,ns,k,m,rfl,_⟩:=h;rfl
 ·obtain⟨a,ns,n,m,rfl,ha,hl,M,ac,k⟩:=h
  have nd:=zHJ.nd
  refine⟨_,zQ (yH (i:=3) nd rfl (Or.inl rfl) (zS yY zO (zT I J rfl (zC (pv 0) (zC (pv 1) (zC (pv 2) zD))))))
   (zQ (yH (i:=4) nd rfl (Or.inr rfl) (yM zBE (uG (zC y9 (zC y9 (zC y9 zD)))) (zT I J rfl (zC (pv 0) (zC (zS yY (pv 1) zO) (zC zO zD)))) (fun _ _=>rfl)))
   (zK (z6 (jM fT PySem.F.slot_str_join PySem.F.type_str_join zLq y9 (zC
    (uY (N:=["_law_letters","_law_script","_law_at","_law_k"]) (caps:=[4,0,1]) rfl (uH (by kernel_rfl)) (zCn rfl B.range (zC (pv 3) zD))
     (fun T C s H ex=>z8 (i:=3) ndN rfl (Or.inl rfl)) (fun T C s H ex=>qP)
     (fun T C s H ex=>yM zKu (pv 0) (zT I J rfl (zC (pv 1) (zC (zS yY (zS yY (pv 2) zO) (pv 3)) (zC (yL j5 (by rfl) B.len bL (zC (pv 0) zD)) zD)))) (fun _ _=>rfl))) zD))))),?_⟩
  refine⟨_,rfl,_,rfl,_,rfl,a,ns,n,m,rfl,ha,hl,M,by omega,fun sz U hsz W=>?_⟩
  refine⟨_,_,rfl,rfl,?_⟩
  refine⟨by show 3<=sizeLine;decide,fun p hp=>?_⟩
  have X:zA U (upd U p (.lst [.str "ab",.str "ab",.str "abz"])):=zA.upd1 hp
  refine⟨_,rfl,_,rfl,_,_,rfl,rfl,a,ns,n+9,3,rfl,X.seq (W.seq ha),hl,by decide,by decide,fun li H3 O Y=>?_⟩
  have o:=(W.trans X).trans Y
  obtain⟨L,Z,e⟩:∃L:S,(L=[97,98]\/L=[97,98,122])/\([.str "ab",.str "ab",.str "abz"]:List V)[li]?=some (sv L):=by
   match li,O with
   |0,_=>exact⟨[97,98],.inl rfl,rfl⟩
   |1,_=>exact⟨[97,98],.inl rfl,rfl⟩
   |2,_=>exact⟨[97,98,122],.inr rfl,rfl⟩
  refine⟨p,_,_,sv L,rfl,rfl,.of (Y _ _ zE),zAZ e,?_⟩
  refine⟨rfl,_,rfl,_,rfl,by omega,by omega,?_⟩
  have al:L.length=2\/L.length=3:=by rcases Z with h|h<;>subst h<;>simp
  have R:∀c∈L,(97<=c/\c<=122)/\(c=97\/c=98\/c=122):=by rcases Z with h|h<;>subst h<;>decide
  have r:(1+(sz:Int)).toNat=sz+1:=by omega
  refine j7 (zBm 0 _) [some (sv L),some (.ref a),some (.int n)] 1 (by rw[ah,bW,r];omega) (fun i l u=>zA H3 u/\∃b:S,l=b.map (fun c=>V.str (tx [c]))/\b.length=i/\∀c∈b,(97<=c/\c<=122)/\(c=97\/c=98\/c=122))
   ⟨zA.refl _,[],rfl,rfl,by simp⟩ (fun i l u _ h=>⟨trivial,by obtain⟨_,b,rfl,h,_⟩:=h;rw[ah];omega⟩) ?_ ?_
  ·rintro i x l u ys Nx hN hx hy ⟨v,b,rfl,g,d⟩
   obtain⟨y,rfl⟩:=ys1 hy
   rw[r]at hx
   obtain⟨hi,rfl⟩:=zDL hx
   refine⟨_,rfl,_,rfl,_,rfl,_,_,rfl,rfl,_,rfl,_,_,rfl,rfl,_,rfl,tx L,rfl,by rw[z9,aF];omega,?_⟩
   rw[z9]
   refine⟨a,ns,n+1+i,L.length,rfl,(o.trans v).seq ha,hl,by omega,by omega,fun j H5 hj s5=>?_⟩
   refine⟨tx L,_,L[j],rfl,rfl,by rw[z9,aF];omega,?_,?_⟩
   ·rw[vW]
    exact zAZ (aq hj)
   ·refine hN _ _ [some (.int i)] rfl ⟨v.trans s5,b++[L[j]],by rw[aQ];rfl,by rw[au,g];rfl,fun c t=>?_⟩
    rcases bw.mp t with z|z
    ·exact d c z
    ·have:c=L[j]:=by simpa using z
     rw[this]
     exact R _ (c9 hj)
  ·rintro l u ⟨v,b,rfl,g,d⟩ D hD
   rw[ah,bW,r]at g
   have q:((b.map fun c=>tx [c]).map (·.length)).sum=b.length:=by
    clear g d
    induction b with
    |nil=>rfl
    |cons c b ih=>rw[aR,aR,cw,ih,aM,z9];show 1+_=_;omega
   refine⟨_,D,b.map (fun c=>tx [c]),rfl,rfl,.of (by rw[zE,aU];rfl),?_,?_⟩
   ·rw[q]
    show _+_*0<=_
    omega
   ·have ej:oH ⟨#[]⟩ (b.map fun c=>tx [c])=tx b:=by
     rw[zLs,aU]
     congr 1
     clear g d q
     congr 1
     induction b with
     |nil=>rfl
     |cons c b ih=>rw[aR,fc,ih];rfl
    have kk:∀G,zA H G->Q (.str (oH ⟨#[]⟩ (b.map fun c=>tx [c]))) G:=fun G sx=>by
     rw[ej]
     exact k b G sx ⟨by omega,by omega,fun c t=>(d c t).1⟩ ⟨by omega,fun c t=>(d c t).2⟩
    exact kk _ ((o.trans v).trans (zA.upd1 hD))
def zHK (K:ag):Sp:=fun vs H Q _=>∃(a:ak) (ns:List Int) (at' many most:Nat),vs=[.ref a,.int at',.int many,.int most]/\zZ K H a (ns.map V.int)/\ns.length<=63/\1<=many/\many<=8/\1<=most/\most<=8/\
 ∀(p:ak) (bk:List S) H',zA H H'->H' p=some (.tup (zF bk))->1<=bk.length->bk.length<=many->(∀x∈bk,vI x/\x.length<=most/\∀c∈x,c=97\/c=98\/c=122)->Q (.ref p) H'
abbrev zDr:c8:=top 68
theorem zHL:FnScope ["_law_script","_law_at","_law_many","_law_most","_law_found","_law_k"] ["_law_script","_law_at","_law_many","_law_most"] (defScope zDr):=yE
theorem zNR {f:ak}{fd:bg}(F:Fun K "_law_book" "_law_book" zDr f fd)(B:Blt mg)(Y:cDr P w K mg base)(Z:zV P w K mg base 3 "_law_name" ["_law_script","_law_at","_law_most"] (zHI K)):FnOk P w K mg base z7 4 f fd ["_law_script","_law_at","_law_many","_law_most"] (zHK K):=by
 refine F.ok zHL (fun vs H Q E h=>?_) (fun aa A outer s H vs Q E M h=>?_)
 ·obtain⟨a,ns,k,m,l,rfl,_⟩:=h;rfl
 ·obtain⟨a,ns,n,many,most,rfl,ha,hl,D,ab,G,I,k⟩:=h
  have nd:=zHL.nd
  have hr2:=M.mono (j:=2) (by decide)
  refine⟨_,zQ (yH (i:=4) nd rfl (Or.inl rfl) (v9 zD))
   (zQ (uE bM rfl (zCn rfl B.range (zC (zS yY zO (zT Y hr2 rfl (zC (pv 0) (zC (pv 1) (zC (pv 2) zD))))) zD)) (z8 (i:=5) nd rfl (Or.inl rfl))
    (zK (yH (i:=4) nd rfl (Or.inl rfl) (zS (zGZ.or zFd) (pv 4) (v9 (zC (zT Z M rfl (zC (pv 0) (zC (zS yY (zS yY (pv 1) zO) (zS kP zO (pv 5))) (zC (pv 3) zD)))) zD))))))
   (zK (z6 (pv 4)))),?_⟩
  refine⟨by show 0<=sizeLine;decide,fun N J=>?_⟩
  have O:zA H (upd H N (.tup [])):=zA.upd1 J
  refine⟨_,rfl,_,rfl,_,rfl,a,ns,n,many,rfl,O.seq ha,hl,D,by omega,fun sz H1 hsz R=>?_⟩
  refine⟨_,_,rfl,rfl,_,rfl,by omega,by omega,?_⟩
  have g:(1+(sz:Int)).toNat=sz+1:=by omega
  refine j8 (zBm 0 _) (fun i σ o=>∃(p:ak) (bk:List S) (y:Option V),σ=[some (.ref a),some (.int n),some (.int many),some (.int most),some (.ref p),y]/\zA H o/\o p=some (.tup (zF bk))/\bk.length=i/\∀x∈bk,vI x/\x.length<=most/\∀c∈x,c=97\/c=98\/c=122)
   ⟨N,[],_,rfl,O.trans R,R _ _ zE,rfl,by simp⟩ (fun _ _ _ _ _=>trivial) ?_ ?_
  ·rintro i x σ o Nx T U ⟨p,bk,y,rfl,t,u,d,e⟩
   rw[g]at U
   obtain⟨hi,rfl⟩:=zDL U
   refine⟨_,rfl,_,rfl,_,rfl,_,_,rfl,rfl,_,rfl,_,_,rfl,rfl,.inl ⟨by decide,by decide⟩,_,_,rfl,rfl,_,rfl,a,ns,n+1+10*i,most,rfl,t.seq ha,hl,G,I,fun x W v hx1 hx2=>?_⟩
   refine⟨by show 1<=sizeLine;decide,fun q hq=>?_⟩
   have C:zA W (upd W q (.tup [sv x])):=zA.upd1 hq
   have nx:∀b∈bk++[x],vI b/\b.length<=most/\∀c∈b,c=97\/c=98\/c=122:=fun b hb=>by
    rcases bw.mp hb with z|z
    ·exact e b z
    ·have:b=x:=by simpa using z
     rw[this];exact⟨hx1,hx2⟩
   cases bk with
   |nil=>exact .inl ⟨p,q,_,rfl,rfl,.of (C _ _ (v _ _ u)),.of zE,T _ _ ⟨q,[x],_,rfl,(t.trans v).trans C,zE,by rw[<-d];rfl,nx⟩⟩
   |cons c X=>
    refine .inr ⟨p,q,_,_,rfl,rfl,.of (C _ _ (v _ _ u)),.of zE,by simp[zF],?_,fun z=>by simp at z,fun _ r L=>T _ _ ⟨r,(c::X)++[x],_,rfl,((t.trans v).trans C).trans (zA.upd1 L),?_,by rw[au,d];rfl,nx⟩⟩
    ·have:(zF (c::X)).length=i:=by rw[<-d];simp[zF]
     rw[this,aF]
     show i+1<=_
     omega
    ·rw[zE]
     unfold zF
     rw[aQ];rfl
  ·rintro σ o ⟨p,bk,y,rfl,t,u,d,e⟩
   rw[ah,bW,g]at d
   exact⟨_,rfl,k p bk o t u (by omega) (by omega) e⟩
end
theorem zHM (a b:S):tx a++tx b=tx (a++b):=by
 apply MyS.Str_ext
 show((tx a).cps++(tx b).cps).toList=_
 simp[tx]
theorem zDs {d:bG}{A B:Prop}(hd:d.canLay0=true)(h:B):if(if true=true then !PyData.eqv d d else dX d d)=true then A else B:=by
 rw[zGH d hd];exact h
theorem zNS {t:S}(h:∀c∈t,c<=122):sP (tx t)=true:=by
 unfold sP
 rw[Array.all_eq_true']
 intro c b
 have a:c∈t:=by simpa [tx]using b
 have:=h c a
 exact decide_eq_true (by omega)
end Kn
end
section
namespace L2
open PySem PySem.Spec PyProof.Rows
theorem yA.freeze {P:aJ}{w:aY}{H:Hp}{h:bE}{a:ak}{o:Obj}{kvs:List (zJ×V)}(x:yA P w H h)(e:H a=some (.dK kvs))(f:h.get? a=some o):yA P w (upd H a (.frz o (.dK kvs))) h:=fun b u d=>by
 by_cases hb:b=a
 ·subst hb;rw[zE]at d;cases d
  exact⟨f,x b _ e⟩
 ·rw[zG hb]at d
  refine(x b u d).stay (fun c v _ q=>q) (fun c q=>?_) fun c xs q=>?_
  ·rw[zG (by rintro rfl;rw[e]at q;cases q)];exact q
  ·rw[zG (by rintro rfl;rw[e]at q;cases q)];exact q
theorem zHN {P:aJ}{w:aY}{k:zJ}{u:aj}(h:(vR P w).is k u=true):zR (kV k) u:=by
 rw[zJf]at h
 rcases jL h with⟨i,t,rfl,rfl⟩|⟨x,t,rfl,rfl⟩
 ·exact⟨_,rfl⟩
 ·exact⟨_,rfl⟩
theorem zBx {α β:Type}{F:α->β->Prop}:∀{c:List α}{d:List β}{i:Nat}{x:α},nX F c d->c[i]?=some x->∃y,d[i]?=some y/\F x y
 | [],_,i,x,_,h=>by simp at h
 |a::l,[],i,x,p,_=>by cases p
 |a::l,b::m,0,x,p,h=>by
  cases p with
  |cons e f=>cases h;exact⟨b,rfl,e⟩
 |a::l,b::m,i+1,x,p,h=>by
  cases p with
  |cons e f=>
   obtain⟨y,e1,g⟩:=zBx (i:=i) (x:=x) f (by simpa using h)
   exact⟨y,by simpa using e1,g⟩
def Itd (a:ak)(o:Obj)(kvs:List (zJ×V)):It where
 go:=fun i H=>H a=some (.frz o (.dK kvs))/\i<kvs.length
 yld:=fun i H x H'=>H'=H/\(kvs.map fun p=>kV p.1)[i]?=some x
 stop:=fun i H=>H a=some (.frz o (.dK kvs))/\kvs.length<=i
theorem zNT (a:ak)(o:Obj)(kvs:List (zJ×V)):Known (Itd a o kvs) (kvs.map fun p=>kV p.1) (fun H=>H a=some (.frz o (.dK kvs))) :=
 ⟨fun i H h hi=>⟨h,by simpa using hi⟩,fun i H x b h y=>⟨y.1,fun _=>y.2⟩,fun H h=>⟨h,by simp⟩⟩
theorem zNU {P:aJ}{w:aY}{K:ag}{tg:bJ}(a it:ak)(o:Obj)(kvs:List (zJ×V))(n ep:Nat)(hn:n=kvs.length)(x:∃J,o.data=.dict J ep):Turn P w K tg (Itd a o kvs) [it] it (fun i h=>h.IsKeyIter it a i n ep) where
 mem:=by simp
 obj:=fun i h st b hb=>by
  have e:b=it:=by simpa using hb
  subst e
  obtain⟨o,e,c,d⟩:=st
  exact⟨o,e,fun v z=>by rw[d]at z;cases z⟩
 keep:=fun i h h' st k=>st.at fun o e=>k it (by simp) o e
 item:=by
  intro X L M N hc i m s σ H E I hf st O
  subst L M N
  obtain⟨g,hi⟩:=O
  obtain⟨z,hS,vs,rel,R⟩:=uW I.hok (.inr ⟨o,g⟩)
  obtain⟨j,_⟩:=(show s.heap.get? a=some o/\_ from I.hok a _ g)
  obtain⟨r,l⟩:=R.dictAt
  have t:r=ep:=by
   obtain⟨o',J,B,_,T,_⟩:=id l
   obtain⟨es',C⟩:=x
   rw[j]at B;cases B
   rw[T]at C;injection C
  subst t
  have f:vs.length=n:=by rw[hn];exact(dj rel).symm
  rw[<-f]at st
  obtain⟨U,f1,f2,W,Y,Z⟩:=hf it (by simp)
  obtain⟨q,G⟩:∃q,vs[i]?=some q:=⟨_,aq (by omega)⟩
  obtain⟨k,v⟩:=q
  refine wpAny_pyNext_dict_item st l G fun key h' D u sb=>?_
  have I1:Inv X m σ H {s with heap:=h'}:=I.turned (t':=s.toks) (fun b o hb e=>(sb.2 b hb).trans e) U f1 W Y Z
  obtain⟨oi,e,c,d⟩:=id u
  rw[f]at u
  obtain⟨p,hp,e1,e2⟩:∃p,kvs[i]?=some p/\p.1=k/\zR p.2 v:=by
   have F:i<kvs.length:=hi
   obtain⟨y,hy,hr⟩:=zBx rel (aq F)
   rw[G]at hy;cases hy
   exact⟨_,aq F,hr.1,hr.2⟩
  refine⟨key,rfl,zAU (s:={s with heap:=h'}) e c d (by decide) ⟨kV k,H,I1,zHN D,⟨rfl,?_⟩,u,fun b hb=>(hf b hb).1⟩⟩
  rw[aw,hp,<-e1];rfl
 done:=by
  intro X L M N hc i m s σ H E I hf st O
  subst L M N
  obtain⟨g,hi⟩:=O
  obtain⟨z,hS,vs,rel,R⟩:=uW I.hok (.inr ⟨o,g⟩)
  obtain⟨j,_⟩:=(show s.heap.get? a=some o/\_ from I.hok a _ g)
  obtain⟨r,l⟩:=R.dictAt
  have t:r=ep:=by
   obtain⟨o',J,B,_,T,_⟩:=id l
   obtain⟨es',C⟩:=x
   rw[j]at B;cases B
   rw[T]at C;injection C
  subst t
  have f:vs.length=n:=by rw[hn];exact(dj rel).symm
  rw[<-f]at st
  obtain⟨U,f1,f2,W,Y,Z⟩:=hf it (by simp)
  refine wpAny_pyNext_dict_end (I.ok.hd hc) st l (by rw[eS];omega) fun h' he=>⟨rfl,?_⟩
  exact I.turned (t':=s.toks) (fun b o hb e=>he b o hb e) U f1 W Y Z
 self:=fun A i s Q E st G=>wpAny_pyIter_keyiter st G
section
variable{X:Cx}{pins:List (ak×Obj)}{σ:St}{H:Hp}{s:ao}{tg:bJ}
theorem Inv.freeze {a:ak}{o:Obj}{kvs:List (zJ×V)}(I:Inv X pins σ H s)(e:H a=some (.dK kvs))(g:s.heap.get? a=some o):Inv X pins σ (upd H a (.frz o (.dK kvs))) s:=by
 have ne:∀{b:ak} {u:Option HO},H b=u->u≠some (.dK kvs)->b≠a:=fun{b u} q n z=>n (by rw[<-q,z,e])
 refine⟨I.ok,I.os,I.bare,⟨I.base.keep,I.base.slot,fun b d q n h=>?_,I.base.there,fun b xs q=>?_,fun b d u q=>?_,fun b ps q=>?_⟩,I.loc,I.cell,?_,fun x c q=>?_,fun p q=>?_,I.hok.freeze e g,I.len⟩
 ·have:=I.base.free b d q n h
  rw[zG (ne this (by simp))];exact this
 ·have:=I.base.tups b xs q
  rw[zG (ne this (by simp))];exact this
 ·have:=I.base.frzs b d u q
  rw[zG (ne this (by simp))];exact this
 ·obtain⟨m,z⟩:=I.base.tbls b ps q
  exact⟨m,by rw[zG (ne z (by simp))];exact z⟩
 ·have:=I.free
  rw[zG (ne this (by simp))];exact this
 ·have:=I.freeC x c q
  rw[zG (ne this (by simp))];exact this
 ·obtain⟨i,f,j⟩:=I.pin p q
  exact⟨i,by rw[zG (ne f (by simp))];exact f,j⟩
def zNV (tl:TE):TI:=fun σ H R=>tl σ H fun x H1=>∃a kvs,x=.ref a/\H1 a=some (.dK kvs)/\∀o,R (Itd a o kvs) (upd H1 a (.frz o (.dK kvs)))
theorem zNW {l:bJ}{tl:TE}(hl:PE X l tl):PI X tg l (zNV tl):=by
 intro pins s σ H R I h
 refine zI (hl pins s σ H _ I h) fun v c ⟨x,m,f,n,p⟩=>?_
 obtain⟨a,kvs,e,g,q⟩:=p
 subst e
 cases n
 obtain⟨z,r,vs,rel,t⟩:=kT f.hok g
 obtain⟨ep,d⟩:=t.dictAt
 obtain⟨o,u,i,_,j,_⟩:=id d
 refine wpAny_pyIter_dict r d ?_
 have w:=(f.freeze g i).kept (t':=c.toks) (h':=c.heap.push {cls:=.type "dict_keyiterator",data:=.fields #[.ref a,.int 0 0,.int vs.length 0,.int ep 0]}) fun b o e=>ae _ e
 refine⟨c.heap.objs.size,[c.heap.objs.size],_,_,upd m a (.frz o (.dK kvs)),rfl,w,zNU a _ o kvs vs.length ep (dj rel).symm ⟨u,j⟩,⟨_,aA _ rfl,rfl,rfl⟩,fun b hb=>?_,q o⟩
 have e:b=c.heap.objs.size:=by simpa using hb
 subst e
 exact(f.freeze g i).fpOk (ay _) ((f.freeze g i).hok.fresh (ay _))
theorem yA.thaw {P:aJ}{w:aY}{H:Hp}{h:bE}{a:ak}{o:Obj}{kvs:List (zJ×V)}(x:yA P w H h)(e:H a=some (.frz o (.dK kvs))):yA P w (upd H a (.dK kvs)) h:=fun b u d=>by
 by_cases hb:b=a
 ·subst hb;rw[zE]at d;cases d
  exact(show h.get? b=some o/\yS P w H h b (.dK kvs)from x b _ e).2
 ·rw[zG hb]at d
  refine(x b u d).stay (fun c v _ q=>q) (fun c q=>?_) fun c xs q=>?_
  ·rw[zG (by rintro rfl;rw[e]at q;cases q)];exact q
  ·rw[zG (by rintro rfl;rw[e]at q;cases q)];exact q
theorem Inv.thaw {a:ak}{o:Obj}{kvs:List (zJ×V)}{pins':List (ak×Obj)}{h:St}{f:Hp}{s':ao}(I:Inv X pins σ H s)(i:Inv X pins' h f s')(j:f a=some (.dK kvs))(e:H a=some (.frz o (.dK kvs))):Inv X pins σ (upd H a (.dK kvs)) s:=by
 have ne:∀{b:ak} {u:Option HO},H b=u->u≠some (.frz o (.dK kvs))->b≠a:=fun{b u} q n z=>n (by rw[<-q,z,e])
 refine⟨I.ok,I.os,I.bare,⟨I.base.keep,I.base.slot,fun b d q n l=>?_,I.base.there,fun b xs q=>?_,fun b d u q=>?_,fun b ps q=>?_⟩,I.loc,I.cell,?_,fun x c q=>?_,fun p q=>?_,I.hok.thaw e,I.len⟩
 ·have:=I.base.free b d q n l
  rw[zG (ne this (by simp))];exact this
 ·have:=I.base.tups b xs q
  rw[zG (ne this (by simp))];exact this
 ·have:=I.base.frzs b d u q
  rw[zG (by rintro rfl;have:=i.base.frzs _ d u q;rw[j]at this;cases this)];exact this
 ·obtain⟨m,z⟩:=I.base.tbls b ps q
  exact⟨m,by rw[zG (ne z (by simp))];exact z⟩
 ·have:=I.free
  rw[zG (ne this (by simp))];exact this
 ·have:=I.freeC x c q
  rw[zG (ne this (by simp))];exact this
 ·obtain⟨r,g,t⟩:=I.pin p q
  exact⟨r,by rw[zG (ne g (by simp))];exact g,t⟩
def zNX (t:TE):TE:=fun σ H Q=>∃a kvs,H a=some (.dK kvs)/\t σ H fun y H'=>∃o,H' a=some (.frz o (.dK kvs))/\Q y (upd H' a (.dK kvs))
theorem zNY {e:bJ}{t:TE}(b:PE X e t):PE X e (zNX t):=by
 intro pins s σ H Q I h
 obtain⟨a,kvs,c,h⟩:=h
 exact zI (b pins s σ H _ I h) fun u f ⟨y,g,d,r,o,hf,q⟩=>⟨y,_,d.thaw I c hf,r,q⟩
end
theorem zNZ:entryFor table "dict_itemiterator.__iter__"=some cQ.«dict_keyiterator.__iter__» :=
 nv (id' :="dict_keyiterator.__iter__") (by kernel_rfl) rfl (by decide+kernel) (by kernel_rfl)
def Iti (a:ak)(o:Obj)(kvs:List (zJ×V)):It where
 go:=fun i H=>H a=some (.frz o (.dK kvs))/\i<kvs.length
 yld:=fun i H x H'=>∃T q,x=.ref T/\H T=none/\H'=upd H T (.tup [kV q.1,q.2])/\kvs[i]?=some q
 stop:=fun i H=>H a=some (.frz o (.dK kvs))/\kvs.length<=i
theorem zNa {P:aJ}{w:aY}{K:ag}{u:List bJ}{k:Nat}{pos:Pos}(a it:ak)(o:Obj)(kvs:List (zJ×V))(n ep:Nat)(hn:n=kvs.length)(x:∃Y,o.data=.dict Y ep) :
  Turn P w K (.Tuple u k pos) (Iti a o kvs) [it] it (fun i h=>∃ok l,IsItemIter h it a i n ep ok l) where
 mem:=by simp
 obj:=fun i h st b hb=>by
  have e:b=it:=by simpa using hb
  subst e
  obtain⟨ok,l,st⟩:=st
  exact⟨_,st,fun v z=>by
   have Z:Data.fields _=Data.cell v:=z
   cases Z⟩
 keep:=fun i h h' st kk=>let⟨ok,l,st⟩:=st;⟨ok,l,kk it (by simp) _ st⟩
 item:=by
  intro X hP hw hK hc i B s σ H E I hf st hg
  subst hP hw hK
  obtain⟨d,hi⟩:=hg
  obtain⟨ok,l,st⟩:=st
  obtain⟨z,hS,vs,rel,dd⟩:=uW I.hok (.inr ⟨o,d⟩)
  obtain⟨f,_⟩:=(show s.heap.get? a=some o/\_ from I.hok a _ d)
  obtain⟨m,j⟩:=dd.dictAt
  have r:m=ep:=by
   obtain⟨o',Y,C,_,t,_⟩:=id j
   obtain⟨es',D⟩:=x
   rw[f]at C;cases C
   rw[t]at D;injection D
  subst r
  have c:vs.length=n:=by rw[hn];exact(dj rel).symm
  rw[<-c]at st
  obtain⟨q,W⟩:∃q,vs[i]?=some q:=⟨_,aq (by omega)⟩
  obtain⟨k,v⟩:=q
  obtain⟨p,hp,e1,e2⟩:∃p,kvs[i]?=some p/\p.1=k/\zR p.2 v:=by
   have G:i<kvs.length:=hi
   obtain⟨y,hy,hr⟩:=zBx rel (aq G)
   rw[W]at hy;cases hy
   exact⟨_,aq G,hr.1,hr.2⟩
  refine wpAny_pyNext_items_item st j W fun key h' J L M hsz hk=>?_
  refine⟨_,rfl,wpAny_letOwnedTupleGo_items L fun t N O=>?_⟩
  have R:s.heap.get? s.heap.objs.size=none:=by
   cases g:s.heap.get? s.heap.objs.size with
   |none=>rfl
   |some o=>exact absurd (aE g) (bH _)
  have T:it<s.heap.objs.size:=aE st
  have aa:t.get? s.heap.objs.size=some {cls:=.type "tuple",data:=.seq #[key,v]}:=(O.2 _ (cS T)).trans M
  refine⟨.ref s.heap.objs.size,upd H s.heap.objs.size (.tup [kV p.1,p.2]),I.turnedT (fp:=[it]) (h':=t) (t':=s.toks) (fun b ob hb q=>?_) hf R ⟨by show 2<=sizeLine;decide,[key,v],.cons (by rw[e1];exact zHN J) (.cons e2 .nil),⟨_,aa,rfl,_,rfl⟩⟩,rfl,
   ⟨_,p,rfl,I.hok.free R,rfl,hp⟩,⟨_,_,by rw[c]at N;exact N⟩,fun b hb=>?_⟩
  ·have U:b≠it:=fun z=>hb (by simp[z])
   exact(O.2 b U).trans (hk b ob U q)
  ·rw[zG]
   ·exact(hf b hb).1
   ·rintro rfl
    have Z:s.heap.objs.size=it:=by simpa using hb
    exact absurd T (by rw[Z];exact bH _)
 done:=by
  intro X hP hw hK hc i B s σ H E I hf st hg
  subst hP hw hK
  obtain⟨d,hi⟩:=hg
  obtain⟨ok,l,st⟩:=st
  obtain⟨z,hS,vs,rel,dd⟩:=uW I.hok (.inr ⟨o,d⟩)
  obtain⟨f,_⟩:=(show s.heap.get? a=some o/\_ from I.hok a _ d)
  obtain⟨m,j⟩:=dd.dictAt
  have r:m=ep:=by
   obtain⟨o',Y,C,_,t,_⟩:=id j
   obtain⟨es',D⟩:=x
   rw[f]at C;cases C
   rw[t]at D;injection D
  subst r
  have c:vs.length=n:=by rw[hn];exact(dj rel).symm
  rw[<-c]at st
  obtain⟨f0,f1,f2,f3,f4,f5⟩:=hf it (by simp)
  refine wpAny_pyNext_items_end (I.ok.hd hc) st j (by rw[eS];omega) fun h' he=>⟨rfl,?_⟩
  exact I.turned (t':=s.toks) (fun b o hb e=>he b o hb e) f0 f1 f3 f4 f5
 self:=fun A i s Q E st W=>by
  obtain⟨ok,l,st⟩:=st
  have M:s.TypeIs (.ref it) "dict_itemiterator" :=⟨_,st,rfl⟩
  refine lG M jf (bT jf M zNZ ?_ (F.args_dict_itemiterator_iter_1 _))
  show wpAny _ _ (ret (.ref it)) _ _ s
  exact ar ⟨_,rfl,"dict_itemiterator",_,M,F.slot_dict_itemiterator_next.lookup,W⟩
section
variable{X:Cx}{elts:List bJ}{kk:Nat}{tpos:Pos}{tg:bJ}
def zNb (tl:TE):TI:=fun σ H R=>tl σ H fun x H1=>∃p a kvs,x=.ref p/\H1 p=some (VW p a)/\H1 a=some (.dK kvs)/\∀o,R (Iti a o kvs) (upd H1 a (.frz o (.dK kvs)))
theorem zBy {l:bJ}{tl:TE}(hl:PE X l tl):PI X (.Tuple elts kk tpos) l (zNb tl):=by
 intro d s σ H R I h
 refine zI (hl d s σ H _ I h) fun v c ⟨x,r,f,t,u⟩=>?_
 obtain⟨p,a,kvs,e,w,i,q⟩:=u
 subst e
 cases t
 obtain⟨z,C,vs,rel,y⟩:=kT f.hok i
 obtain⟨ep,g⟩:=y.dictAt
 obtain⟨o,A,j,_,m,_⟩:=id g
 have n:c.heap.get? p=some (zGT a):=(f.hok p _ w).1
 refine wpAny_pyIter_items (v:=p) ⟨_,n,rfl,rfl⟩ g ?_
 have B:=(f.freeze i j).kept (t':=c.toks) (h':=c.heap.push {cls:=.type "dict_itemiterator",data:=.fields #[.none,.bool false,.ref a,.int 0 0,.int vs.length 0,.int ep 0,.none,.none]}) fun b o e=>ae _ e
 refine⟨c.heap.objs.size,[c.heap.objs.size],_,_,upd r a (.frz o (.dK kvs)),rfl,B,zNa a _ o kvs vs.length ep (dj rel).symm ⟨A,m⟩,⟨_,_,aA _ rfl⟩,fun b hb=>?_,q o⟩
 have e:b=c.heap.objs.size:=by simpa using hb
 subst e
 exact(f.freeze i j).fpOk (ay _) ((f.freeze i j).hok.fresh (ay _))
theorem zBz {a:ak}{o:Obj}{kvs:List (zJ×V)}{g:TG}{tb:TS}{D:Ends}{σ:St}{H:Hp}(Pv:Nat->St->Hp->Prop)(t:Pv 0 σ H)(u:∀i σ H,i<=kvs.length->Pv i σ H->H a=some (.frz o (.dK kvs)))
  (d:∀(i:Nat) (q:zJ×V) (T:ak) (σ:St) (H:Hp) (h:St->Hp->Prop),(∀c b,Pv (i+1) c b->h c b)->kvs[i]?=some q->Pv i σ H->H T=none->g (.ref T) σ (upd H T (.tup [kV q.1,q.2])) fun j f=>tb {D with nx:=h,ct:=h,bk:=D.nx} j f)
  (fin:∀σ H,Pv kvs.length σ H->D.nx σ H) :
  ∃W:Nat->Nat->St->Hp->Prop,(∃m,W 0 m σ H)/\∀i m σ H,W i m σ H->
   ((Iti a o kvs).stop i H/\D.nx σ H)\/((Iti a o kvs).go i H/\∃N:St->Hp->Prop,(∀c b,N c b->∃r,r<m/\W (i+1) r c b)/\∀x b,(Iti a o kvs).yld i H x b->g x σ b fun j f=>tb {D with nx:=N,ct:=N,bk:=D.nx} j f):=by
 refine⟨fun i m σ H=>i<=kvs.length/\m=kvs.length-i/\Pv i σ H,⟨kvs.length,bp _,rfl,t⟩,?_⟩
 rintro i m σ H ⟨hi,rfl,pv⟩
 have s:=u i σ H hi pv
 by_cases e:i=kvs.length
 ·subst e
  exact .inl ⟨⟨s,ay _⟩,fin σ H pv⟩
 ·have l:i<kvs.length:=by omega
  refine .inr ⟨⟨s,l⟩,Pv (i+1),fun c b p=>⟨kvs.length- (i+1),by omega,by omega,rfl,p⟩,fun x f n=>?_⟩
  obtain⟨T,q,rfl,v,rfl,w⟩:=n
  exact d i q T σ H (Pv (i+1)) (fun _ _ p=>p) w pv v
def Itv (a:ak)(o:Obj)(kvs:List (zJ×V)):It where
 go:=fun i H=>H a=some (.frz o (.dK kvs))/\i<kvs.length
 yld:=fun i H x H'=>H'=H/\(kvs.map fun p=>p.2)[i]?=some x
 stop:=fun i H=>H a=some (.frz o (.dK kvs))/\kvs.length<=i
theorem zNc (a:ak)(o:Obj)(kvs:List (zJ×V)):Known (Itv a o kvs) (kvs.map fun p=>p.2) (fun H=>H a=some (.frz o (.dK kvs))) :=
 ⟨fun i H h hi=>⟨h,by simpa using hi⟩,fun i H x b h y=>⟨y.1,fun _=>y.2⟩,fun H h=>⟨h,by simp⟩⟩
theorem zNd {P:aJ}{w:aY}{K:ag}{tg:bJ}(a it:ak)(o:Obj)(kvs:List (zJ×V))(n ep:Nat)(Z:n=kvs.length)(x:∃G,o.data=.dict G ep):Turn P w K tg (Itv a o kvs) [it] it (fun i h=>h.IsValIter it a i n ep) where
 mem:=by simp
 obj:=fun i h st b hb=>by
  have e:b=it:=by simpa using hb
  subst e
  obtain⟨o,e,c,d⟩:=st
  exact⟨o,e,fun v z=>by rw[d]at z;cases z⟩
 keep:=fun i h h' st k=>st.at fun o e=>k it (by simp) o e
 item:=by
  intro X J L M hc i m s σ H E I hf st N
  subst J L M
  obtain⟨g,hi⟩:=N
  obtain⟨z,hS,vs,rel,O⟩:=uW I.hok (.inr ⟨o,g⟩)
  obtain⟨j,_⟩:=(show s.heap.get? a=some o/\_ from I.hok a _ g)
  obtain⟨r,l⟩:=O.dictAt
  have t:r=ep:=by
   obtain⟨o',G,B,_,R,_⟩:=id l
   obtain⟨es',C⟩:=x
   rw[j]at B;cases B
   rw[R]at C;injection C
  subst t
  have f:vs.length=n:=by rw[Z];exact(dj rel).symm
  rw[<-f]at st
  obtain⟨T,f1,f2,U,W,Y⟩:=hf it (by simp)
  obtain⟨q,F⟩:∃q,vs[i]?=some q:=⟨_,aq (by omega)⟩
  obtain⟨k,v⟩:=q
  refine wpAny_pyNext_values_item st l F fun h' u sb=>?_
  have I1:Inv X m σ H {s with heap:=h'}:=I.turned (t':=s.toks) (fun b o hb e=>(sb.2 b hb).trans e) T f1 U W Y
  obtain⟨oi,e,c,d⟩:=id u
  rw[f]at u
  obtain⟨p,hp,e1,e2⟩:∃p,kvs[i]?=some p/\p.1=k/\zR p.2 v:=by
   have D:i<kvs.length:=hi
   obtain⟨y,hy,hr⟩:=zBx rel (aq D)
   rw[F]at hy;cases hy
   exact⟨_,aq D,hr.1,hr.2⟩
  refine⟨v,rfl,zAU (s:={s with heap:=h'}) e c d (by decide) ⟨p.2,H,I1,e2,⟨rfl,?_⟩,u,fun b hb=>(hf b hb).1⟩⟩
  rw[aw,hp];rfl
 done:=by
  intro X J L M hc i m s σ H E I hf st N
  subst J L M
  obtain⟨g,hi⟩:=N
  obtain⟨z,hS,vs,rel,O⟩:=uW I.hok (.inr ⟨o,g⟩)
  obtain⟨j,_⟩:=(show s.heap.get? a=some o/\_ from I.hok a _ g)
  obtain⟨r,l⟩:=O.dictAt
  have t:r=ep:=by
   obtain⟨o',G,B,_,R,_⟩:=id l
   obtain⟨es',C⟩:=x
   rw[j]at B;cases B
   rw[R]at C;injection C
  subst t
  have f:vs.length=n:=by rw[Z];exact(dj rel).symm
  rw[<-f]at st
  obtain⟨T,f1,f2,U,W,Y⟩:=hf it (by simp)
  refine wpAny_pyNext_values_end (I.ok.hd hc) st l (by rw[eS];omega) fun h' he=>⟨rfl,?_⟩
  exact I.turned (t':=s.toks) (fun b o hb e=>he b o hb e) T f1 U W Y
 self:=fun A i s Q E st F=>wpAny_pyIter_valiter st F
def zNe (tl:TE):TI:=fun σ H R=>tl σ H fun x H1=>∃p a kvs,x=.ref p/\H1 p=some (jN p a)/\H1 a=some (.dK kvs)/\∀o,R (Itv a o kvs) (upd H1 a (.frz o (.dK kvs)))
theorem zNf {l:bJ}{tl:TE}(hl:PE X l tl):PI X tg l (zNe tl):=by
 intro d s σ H R I h
 refine zI (hl d s σ H _ I h) fun v c ⟨x,r,f,t,u⟩=>?_
 obtain⟨p,a,kvs,e,w,i,q⟩:=u
 subst e
 cases t
 obtain⟨z,C,vs,rel,y⟩:=kT f.hok i
 obtain⟨ep,g⟩:=y.dictAt
 obtain⟨o,A,j,_,m,_⟩:=id g
 have n:c.heap.get? p=some (zGW a):=(f.hok p _ w).1
 refine wpAny_pyIter_values (v:=p) ⟨_,n,rfl,rfl⟩ g ?_
 have B:=(f.freeze i j).kept (t':=c.toks) (h':=c.heap.push {cls:=.type "dict_valueiterator",data:=.fields #[.ref a,.int 0 0,.int vs.length 0,.int ep 0]}) fun b o e=>ae _ e
 refine⟨c.heap.objs.size,[c.heap.objs.size],_,_,upd r a (.frz o (.dK kvs)),rfl,B,zNd a _ o kvs vs.length ep (dj rel).symm ⟨A,m⟩,⟨_,aA _ rfl,rfl,rfl⟩,fun b hb=>?_,q o⟩
 have e:b=c.heap.objs.size:=by simpa using hb
 subst e
 exact(f.freeze i j).fpOk (ay _) ((f.freeze i j).hok.fresh (ay _))
def zNg (t:TS):TS:=fun D σ H=>∃a kvs,H a=some (.dK kvs)/\t {D with nx:=fun σ' H'=>∃o,H' a=some (.frz o (.dK kvs))/\D.nx σ' (upd H' a (.dK kvs))} σ H
theorem zBM {st:c8}{t:TS}(h:PS X st t):PS X st (zNg t):=by
 intro b s σ H D I q
 obtain⟨a,kvs,d,q⟩:=q
 refine zI (h b s σ H _ I q) fun f j c=>?_
 cases f with
 |next=>
  obtain⟨e,l,g,o,hf,i⟩:=c
  exact⟨e,_,g.thaw I d hf,i⟩
 |brk=>exact c
 |cont=>exact c
 |ret u=>exact c
theorem zA.thaw {H c:Hp}{a:ak}{o:Obj}{kvs:List (zJ×V)}(e:zA (upd H a (.frz o (.dK kvs))) c)(h:H a=some (.dK kvs)):zA H (upd c a (.dK kvs)):=fun b u q=>by
 by_cases hb:b=a
 ·subst hb;rw[zE,<-q,h]
 ·rw[zG hb];exact e b u (by rw[zG hb];exact q)
end
end L2
end
section
namespace Kn
theorem zBN (t l:S)(o:Nat):zW (zW t o++l) o=zW (t++l) o:=by
 unfold zW
 rw[au,au,bQ]
 by_cases h:t.length<=o
 ·rw[show t.length-o=0 by omega,eO,iH]
 ·rw[pH,pH,List.drop_drop,bQ]
  congr 1
  ·congr 1;omega
  ·congr 1;omega
def pp (o:Nat)(t:S):List (S×S):=(bC t.length).map fun p=>(zW (t.take p) o,(t.drop p).take 1)
theorem zBO (o:Nat)(t:S):vP o t=pp o t++[(zW t o,[])]:=by
 unfold vP pp
 rw[dO,aQ]
 simp
theorem zDt (o:Nat)(t:S)(c:Nat):pp o (t++[c])=pp o t++[(zW t o,[c])]:=by
 unfold pp
 rw[au,br,dO,aQ]
 congr 1
 ·refine dM fun p a=>?_
  have b:p<t.length:=bI.mp a
  rw[fL (by omega),List.drop_append_of_le_length (by omega)]
  congr 1
  have:1<=(t.drop p).length:=by rw[bQ];omega
  rw[fL this]
 ·simp
theorem zNh (o:Nat):pp o []=[]:=rfl
theorem zNi {o:Nat}{nm e:S}{c:Nat}(h:(e,[c])∈vP o nm):∃l,(zW (e++[c]) o,l)∈vP o nm:=by
 unfold vP at h
 obtain⟨p,b,e1⟩:=av.mp h
 have d:p<nm.length+1:=bI.mp b
 have f:zW (nm.take p) o=e:=congrArg uo e1
 have a:(nm.drop p).take 1=[c]:=congrArg qq e1
 have hl:p<nm.length:=by
  by_cases h:p<nm.length
  ·exact h
  ·rw[fS (by omega)]at a;cases a
 have g:nm.take (p+1)=nm.take p++[c]:=by
  rw[<-a,<-List.take_add]
 refine⟨(nm.drop (p+1)).take 1,?_⟩
 rw[<-f,zBN,<-g]
 exact av.mpr ⟨p+1,bI.mpr (by omega),rfl⟩
theorem zNj {o:Nat}{bk:List S}{e:S}{c:Nat}(h:(e,[c])∈zB o bk):∃l,(zW (e++[c]) o,l)∈zB o bk:=by
 obtain⟨nm,a,b⟩:=bf.mp h
 obtain⟨l,hl⟩:=zNi b
 exact⟨l,bf.mpr ⟨nm,a,hl⟩⟩
theorem zNk {o:Nat}{nm e l:S}(h:(e,l)∈vP o nm):l.length<=1:=by
 unfold vP at h
 obtain⟨p,_,e1⟩:=av.mp h
 have a:(nm.drop p).take 1=l:=congrArg qq e1
 rw[<-a,aI];omega
theorem gN {o:Nat}{bk:List S}{e l:S}(h:(e,l)∈zB o bk):l.length<=1:=by
 obtain⟨nm,b,a⟩:=bf.mp h
 exact zNk a
theorem zAG {l:S}(h:l.length<=1)(a:l≠[]):∃c,l=[c]:=by
 match l,h,a with
 | [c],_,_=>exact⟨c,rfl⟩
def mf (w l:S):Bool:=decide (l≠[])&& (decide (w=[])||decide (w=l))
def zCA (nx:S->List S)(o:Nat)(ts:List S)(w:S):List S:=ts.flatMap fun t=>((nx (zW t o)).filter (mf w)).map (t++·)
def Tx (nx:S->List S)(o:Nat)(pat:List S):List S:=pat.foldl (zCA nx o) [[]]
def yB (w:Int)(q:Int×Int):Int:=w*q.1/q.2
theorem zNl {U a:Int}{m:Nat}{q:Int×Int}(b:q.2∣U)(e:0<q.2)(ha:U^(m+1)∣a):U^m∣yB a q:=by
 obtain⟨c,rfl⟩:=ha
 obtain⟨d,hd⟩:=b
 unfold yB
 refine⟨d*c*q.1,?_⟩
 refine Int.ediv_eq_of_eq_mul_right (by omega) ?_
 rw[oS]
 conv=>lhs;rw[hd]
 conv=>rhs;rw[hd]
 grind
theorem zNm {α:Type}{a:List (S×α)}{e:S}{v:α}{k:S}(h:k∈(zP a e v).map (·.1)):k∈a.map (·.1)\/k=e:=by
 rw[zGq]at h
 split at h
 ·exact .inl h
 ·rcases bw.mp h with z|z
  ·exact .inl z
  ·exact .inr (by simpa using z)
end Kn
end
section
namespace Kn
theorem qB {α:Type} [DecidableEq α]:∀(l L:List α),l.Nodup->(∀x∈l,x∈L)->l.length<=L.length
 | [],L,_,_=>bp _
 |x::l,L,b,c=>by
  have d:=c x (az ..)
  have f:=qB l (L.erase x) (bz.mp b).2 fun y e=>by
   have a:y≠x:=fun z=>(bz.mp b).1 (by rw[<-z];exact e)
   exact(jg a).mpr (c y (aC _ e))
  rw[lK d]at f
  have g:0<L.length:=iK d
  rw[aM];omega
theorem zNn {t:S}(h:t≠[]):∃u c,t=u++[c]:=by
 rcases iR t with z|⟨u,c,z⟩
 ·exact absurd z h
 ·exact⟨u,c,by simpa using z⟩
theorem zAm (nx:S->List S)(o:Nat)(pat:List S)(w:S):Tx nx o (pat++[w])=zCA nx o (Tx nx o pat) w:=by
 unfold Tx;rw[fg];rfl
structure Lts (ps:List (S×S)) (nx:S->List S):Prop where
 nd:∀e,(nx e).Nodup
 mem:∀e l,l∈nx e↔(e,l)∈ps
def zAH (ps:List (S×S)):Prop:=∀e l,(e,l)∈ps->l.length<=1
theorem zHO {α β:Type}(g:α->List β):∀(L:List α),L.Nodup->(∀a∈L,(g a).Nodup)->(∀a∈L,∀b∈L,∀x,x∈g a->x∈g b->a=b)->(L.flatMap g).Nodup
 | [],_,_,_=>by simp
 |a::L,d,h,i=>by
  rw[fj]
  refine gi.mpr ⟨h a (az ..),zHO g L (bz.mp d).2 (fun b hb=>h b (aC _ hb)) (fun b hb c j=>i b (aC _ hb) c (aC _ j)),fun x l y m e=>?_⟩
  subst e
  obtain⟨b,hb,f⟩:=bf.mp m
  have:=i a (az ..) b (aC _ hb) x l f
  rw[this]at d
  exact(bz.mp d).1 hb
theorem zDu {u v:S}{c d:Nat}(h:u++[c]=v++[d]):u=v/\c=d:=by
 have:=List.append_inj' h rfl
 exact⟨this.1,by simpa using this.2⟩
def zHP (ps:List (S×S))(o n:Nat)(x:S):Prop:=x.length=n/\∀q∈vP o x,q∈ps
def Wt (f:S->S->Int×Int)(o:Nat)(wt:Int)(t:S):Int:=(pp o t).foldl (fun w q=>yB w (f q.1 q.2)) wt
theorem zDv {U w:Int}{m:Nat}{q:Int×Int}(a:q.2∣U)(h:U^(m+1)∣w):yB w q*q.2=w*q.1:=by
 unfold yB
 refine nL (ja (ja a ?_) (ja h (Int.dvd_mul_right ..)))
 exact⟨U^m,by rw[oS,fi]⟩
theorem zHQ {U w T:Int}{m:Nat}{q:Int×Int}(d:0<T)(g:0<=w)(c:Fq q)(j:q.2∣U)(h:U^(m+1)∣w):0<=yB w q/\low (yB w q) T=tms (low w T) q:=by
 have e:=zDv j h
 have f:=gM g d
 have cr:=zAC (u:=w) d
 have i:0<=yB w q:=pW (qt g c.up) (cZ c.dn)
 refine⟨i,?_⟩
 unfold tms
 refine zMg i d (qt f.up c.up) (lF f.dn c.dn) ?_
 generalize yB w q=a at e
 generalize low w T=b at cr
 grind
theorem zNo (ps a:List (S×S))(p:S×S):zBs ps (a++[p])=tms (zBs ps a) (zN ps p.1 p.2):=by
 unfold zBs;rw[fg];rfl
theorem zDw {ps:List (S×S)}{U T:Int}(i:0<T)(g:∀e l,(zN ps e l).2∣U):∀(d:List (S×S)) (m:Nat) (w:Int),0<=w->U^(m+d.length)∣w->0<=d.foldl (fun w q=>yB w (zN ps q.1 q.2)) w/\U^m∣d.foldl (fun w q=>yB w (zN ps q.1 q.2)) w/\
  low (d.foldl (fun w q=>yB w (zN ps q.1 q.2)) w) T=d.foldl (fun w p=>tms w (zN ps p.1 p.2)) (low w T)
 | [],m,w,h,hd=>⟨h,hd,rfl⟩
 |q::d,m,w,h,hd=>by
  have f:U^(m+d.length+1)∣w:=hd
  obtain⟨j,n⟩:=zHQ i h (zAi ps q.1 q.2) (g q.1 q.2) f
  have o:=zNl (g q.1 q.2) (zAi ps q.1 q.2).dn f
  obtain⟨a,b,c⟩:=zDw i g d m (yB w (zN ps q.1 q.2)) j o
  refine⟨a,b,?_⟩
  rw[eZ,eZ,c,n]
def Wn (ps:List (S×S))(o:Nat)(T:Int)(x:S):Int:=yB (Wt (zN ps) o T x) (zN ps (zW x o) [])
theorem zDx {ps:List (S×S)}{o:Nat}{U:Int}(f:0<U)(g:∀e l,(zN ps e l).2∣U){x:S}(j:x.length<=8):0<=Wn ps o (U^9) x/\low (Wn ps o (U^9) x) (U^9)=qI ps o x:=by
 have d:0<U^9:=gn f
 have hl:(pp o x).length=x.length:=by unfold pp;simp
 have hd:U^((8-x.length)+1+(pp o x).length)∣U^9:=by rw[hl,show(8-x.length)+1+x.length=9 by omega];exact sQ _
 obtain⟨a,b,c⟩:=zDw d g (pp o x) (8-x.length+1) (U^9) (cZ d) hd
 obtain⟨h,i⟩:=zHQ d a (zAi ps (zW x o) []) (g _ _) b
 refine⟨h,?_⟩
 show low (yB _ _) _=_
 unfold qI
 rw[zBO,zNo]
 unfold Wt
 rw[i,c,zMk d];rfl
theorem zHR {α:Type} [DecidableEq α] {l:List α}{a:α}(h:l.Nodup)(ha:a∈l):l.count a=1:=by
 have b:=List.nodup_iff_count.mp h a
 have c:=dZ.mpr ha
 omega
theorem zNp {α:Type} [DecidableEq α] {l m:List α}(b:l.Nodup)(c:m.Nodup)(h:∀x,x∈l↔x∈m):l.Perm m:=by
 refine(List.perm_iff_count).mpr fun a=>?_
 by_cases ha:a∈l
 ·rw[zHR b ha,zHR c ((h a).mp ha)]
 ·rw[jh ha,jh fun z=>ha ((h a).mpr z)]
def Cl (ps:List (S×S))(o:Nat):Nat->S->Prop
 |0,e=>(e,[])∈ps
 |k+1,e=>∃l,l≠[]/\(e,l)∈ps/\Cl ps o k (zW (e++l) o)
structure AllT (ps:List (S×S)) (o n i:Nat) (A:List S):Prop where
 ris:A.Pairwise (· < ·)
 snd:∀t∈A,t.length=i/\(∀q∈pp o t,q∈ps)/\(0<i->Cl ps o (n-i) (zW t o))
 cmp:∀t,t.length=i->(∀q∈pp o t,q∈ps)->Cl ps o (n-i) (zW t o)->t∈A
theorem zHS:∀{a b:S} (x y:S),a.length=b.length->a<b->a++x<b++y
 | [],[],x,y,_,h=>absurd h (fG _)
 |c::a,d::b,x,y,hl,h=>by
  rw[cT,cT]
  rw[List.cons_lt_cons_iff]at h⊢
  rcases h with h|⟨e,f⟩
  ·exact .inl h
  ·exact .inr ⟨e,zHS x y (by simpa using hl) f⟩
theorem AllT.made {ps:List (S×S)}{o n:Nat}{A:List S}(h:AllT ps o n n A)(i:0<n):A.Nodup/\∀x,x∈A↔zHP ps o n x:=by
 refine⟨h.ris.imp fun{a b} z e=>by rw[e]at z;exact fG _ z,fun x=>?_⟩
 unfold zHP
 rw[zBO]
 constructor
 ·intro j
  obtain⟨f,c,d⟩:=h.snd x j
  have d:=d i
  rw[gv]at d
  refine⟨f,fun q g=>?_⟩
  rcases bw.mp g with z|z
  ·exact c q z
  ·have:q=(zW x o,[]):=by simpa using z
   rw[this];exact d
 ·rintro⟨f,c⟩
  refine h.cmp x f (fun q g=>c q (cb _ g)) ?_
  rw[gv]
  exact c _ (aX _ (cU _))
end Kn
end
section
namespace Kn.Ln
open PySem L2 Kn
theorem zNq {K:ag}{x z:Str}{t:Tok}(h:aW K mainGlobals x=some (some (.str z t))):∃t,aW K mainGlobals x=some (some (.str z t)):=⟨t,h⟩
def zX (f:ak)(H H':Hp):Prop:=∀b u,b≠f->H b=some u->H' b=some u
theorem zX.refl {f:ak}(H:Hp):zX f H H:=fun b u _ h=>h
theorem zX.updf {f:ak}{H a:Hp}{u:HO}(s:zX f H a):zX f H (upd a f u):=fun b v hb e=>by rw[zG hb];exact s b v hb e
theorem zX.trans {f:ak}{H c a:Hp}(s:zX f H c)(t:zX f c a):zX f H a:=fun b v hb e=>t b v hb (s b v hb e)
theorem zX.of {f:ak}{H a:Hp}(s:zA H a):zX f H a:=fun b v _ e=>s b v e
theorem zX.seqT {K:ag}{f:ak}{H b:Hp}{a:ak}{xs:List V}(s:zX f H b)(hf:∀ys,¬Rd H f (.tup ys))(h:zY K H a xs):zY K b a xs:=by
 rcases h with h|h
 ·have hb:a≠f:=fun z=>by subst z;exact hf _ h
  rcases h with h|⟨o,h⟩
  ·exact .inl (.inl (s _ _ hb h))
  ·exact .inl (.inr ⟨o,s _ _ hb h⟩)
 ·exact .inr h
theorem zX.frA {K:ag}{f:ak}{H b:Hp}{v:V}{q:Int×Int}(s:zX f H b)(hf:∀ys,¬Rd H f (.tup ys))(h:vA K H v q):vA K b v q:=by
 obtain⟨a,rfl,h⟩:=h
 exact⟨a,rfl,s.seqT hf h⟩
theorem zHT {H:Hp}{f:ak}{kvs:List (zJ×V)}(h:H f=some (.dK kvs)):∀ys,¬Rd H f (.tup ys):=fun ys z=>by
 rcases z with z|⟨o,z⟩<;>rw[h]at z<;>cases z
abbrev zU (ps:List (S×S))(e:S):List S:=(uC ps e).map (·.1)
theorem qT (ps:List (S×S))(e l:S):l∈zU ps e↔(e,l)∈ps:=by
 constructor
 ·intro h
  obtain⟨⟨a,n⟩,b,rfl⟩:=av.mp h
  obtain⟨c,d⟩:=(zDm ps e a n).mp b
  have f:0<ps.count (e,a):=by rw[c]at d;omega
  exact dZ.mp f
 ·intro h
  exact av.mpr ⟨(l,(ps.count (e,l):Int)),(zDm ps e l _).mpr ⟨rfl,by have:=dZ.mpr h;omega⟩,rfl⟩
theorem lts (ps:List (S×S)):Lts ps (zU ps):=⟨fun e=>zAk ps e,fun e l=>qT ps e l⟩
theorem k3 (o:Nat)(bk:List S):zAH (zB o bk):=fun e l h=>gN h
theorem zDy (ps:List (S×S))(e:S):(uC ps e).length<=ps.length:=by
 have a:=qB (zU ps e) (ps.map (·.2)) (zAk _ _) fun l hl=>av.mpr ⟨_,(qT _ _ _).mp hl,rfl⟩
 rw[ah,ah]at a
 exact a
theorem zCB (x:S)(l:List S):qG (sv x) (zF l)=decide (x∈l):=by
 unfold qG zF
 rw[sR]
 induction l with
 |nil=>simp
 |cons y l ih=>
  rw[fz,ih]
  have e:jC (sv y) (sv x)=decide (x=y):=by
   show((tx y)==(tx x))=_
   by_cases z:x=y
   ·subst z;simp
   ·rw[decide_eq_false z,beq_eq_false_iff_ne]
    exact fun q=>z (jE q).symm
  show(jC (sv y) (sv x)||_)=_
  rw[e]
  by_cases z:x=y
  ·subst z;simp
  ·simp[z]
theorem zCC (l:List S):(zF l).all j3=true:=by
 unfold zF
 rw[fU]
 exact da.mpr fun _ _=>rfl
theorem zBP {ys:St}(h:ys.length=1):∃y,ys=[y]:=by
 match ys,h with
 | [y],_=>exact⟨y,rfl⟩
def k5 (K:ag)(H:Hp)(pd:ak)(ps:List (S×S))(f:S->S->Int×Int)(r:S×ak×List (S×V)):Prop :=
 r.2.1≠pd/\H r.2.1=some (.dK (z0 id r.2.2))/\r.2.2.map (·.1)=zU ps r.1/\∀q∈r.2.2,vA K H q.2 (f r.1 q.1)
def k6 (K:ag)(H:Hp)(pd:ak)(ps:List (S×S))(f:S->S->Int×Int):Prop:=∃pa:List (S×ak×List (S×V)),pa.map (·.1)=(uB ps).map (·.1)/\H pd=some (.dK (z0 (fun v:ak×List (S×V)=>V.ref v.1) pa))/\∀r∈pa,k5 K H pd ps f r
theorem k5.same {K:ag}{H a:Hp}{b:ak}{ps:List (S×S)}{f:S->S->Int×Int}{r:S×ak×List (S×V)}(h:k5 K H b ps f r)(e:zA H a):k5 K a b ps f r :=
 ⟨h.1,e _ _ h.2.1,h.2.2.1,fun q c=>(h.2.2.2 q c).same e⟩
theorem k6.same {K:ag}{H a:Hp}{b:ak}{ps:List (S×S)}{f:S->S->Int×Int}(h:k6 K H b ps f)(e:zA H a):k6 K a b ps f:=by
 obtain⟨c,d,g,i⟩:=h
 exact⟨c,d,e _ _ g,fun r j=>(i r j).same e⟩
theorem k5.sameX {K:ag}{H b:Hp}{a:ak}{ps:List (S×S)}{f:S->S->Int×Int}{r:S×ak×List (S×V)}(h:k5 K H a ps f r)(hd:∀ys,¬Rd H a (.tup ys))(e:zX a H b):k5 K b a ps f r :=
 ⟨h.1,e _ _ h.1 h.2.1,h.2.2.1,fun q c=>e.frA hd (h.2.2.2 q c)⟩
theorem zHU {ps:List (S×S)}{a:List (S×ak×List (S×Int))}(h:a.map (fun r=>(r.1,r.2.2))=uB ps){r:S×ak×List (S×Int)}(b:r∈a):r.2.2=uC ps r.1:=by
 have c:(r.1,r.2.2)∈uB ps:=by rw[<-h];exact av.mpr ⟨r,b,rfl⟩
 have d:=(vK (v4 ps).nd _ _).mp c
 unfold uC
 rw[d];rfl
theorem zNr {ps:List (S×S)}:(uB ps).length<=ps.length:=by
 have a:=qB ((uB ps).map (·.1)) (ps.map (·.1)) (v4 ps).nd fun e b=>by
  obtain⟨⟨c,row⟩,d,rfl⟩:=av.mp b
  obtain⟨l,hl⟩:=((v4 ps).has c).mp ⟨row,(vK (v4 ps).nd _ _).mp d⟩
  exact av.mpr ⟨_,hl,rfl⟩
 rw[ah,ah]at a
 exact a
theorem zNs {a:List (S×ak×List (S×Int))}{row:List (S×Int)}(h:z0 (fun v:ak×List (S×Int)=>V.ref v.1) a=yP row):a=[]:=by
 cases a with
 |nil=>rfl
 |cons r a=>
  cases row with
  |nil=>cases h
  |cons q row=>
   have b:=(ur h).1
   have c:V.ref r.2.1=V.int q.2:=(bP b).2
   cases c
theorem zHV {H:Hp}{d:ak}{a:List (S×ak×List (S×Int))}(hd:H d=some (.dK (z0 (fun v:ak×List (S×Int)=>V.ref v.1) a)))(c:∀r∈a,H r.2.1=some (.dK (yP r.2.2))):∀r∈a,r.2.1≠d:=fun r b z=>by
 have h:=c r b
 rw[z,hd]at h
 have:=zNs (HO.dK.inj (aD h))
 rw[this]at b;cases b
section
variable{P:aJ}{w:aY}{K:ag}{mg:Str->Option aj}{base:bE}
abbrev zDz:c8:=top 34
theorem zNt:FnScope ["weight","part"] ["weight","part"] (defScope zDz):=yE
def zEA (K:ag):Sp:=fun vs H Q _=>∃(x:Int) (v:V) (q:Int×Int),vs=[.int x,v]/\vA K H v q/\0<=q.1/\q.1<1000000/\0<q.2/\q.2<1000000/\Q (.int (yB x q)) H
theorem zNu {f:ak}{fd:bg}(F:Fun K "left_of" "left_of" zDz f fd):FnOk P w K mg base z7 1 f fd ["weight","part"] (zEA K):=by
 refine F.ok zNt (fun vs H Q E h=>?_) (fun b A outer s H vs Q E d h=>?_)
 ·obtain⟨x,v,q,rfl,_⟩:=h;rfl
 ·obtain⟨x,v,q,rfl,⟨a,rfl,ha⟩,e,g,c,i,k⟩:=h
  refine⟨_,zK (z6 (zS zAW (zS kP (pv 0) (yM vE (pv 1) zO (fun _ _=>rfl))) (yM vE (pv 1) zO (fun _ _=>rfl)))),?_⟩
  exact⟨_,rfl,_,rfl,a,_,0,_,rfl,rfl,ha,rfl,_,_,rfl,rfl,.inr ⟨by omega,by omega⟩,_,rfl,a,_,1,_,rfl,rfl,ha,rfl,_,_,rfl,rfl,⟨c,by omega⟩,k⟩
abbrev zEB:c8:=top 35
theorem zNv:FnScope ["letter","wanted"] ["letter","wanted"] (defScope zEB):=yE
def zHW:Sp:=fun vs H Q _=>∃(l x:S),vs=[sv l,sv x]/\∀H',zA H H'->Q (.bl (mf x l)) H'
theorem zNw {f:ak}{fd:bg}(F:Fun K "may_follow" "may_follow" zEB f fd)(a:∃t,mg "ANY"=some (.str "" t)):FnOk P w K mg base z7 1 f fd ["letter","wanted"] zHW:=by
 obtain⟨u,a⟩:=a
 refine F.ok zNv (fun vs H Q E h=>?_) (fun g A outer s H vs Q E j h=>?_)
 ·obtain⟨x,v,rfl,_⟩:=h;rfl
 ·obtain⟨l,x,rfl,k⟩:=h
  refine⟨_,zK (z6 (zAT (qO zAX (pv 0) y9 (vD _)) (gE (qO zFg (pv 1) (v9 (zC (yN (v:=.str "") (by rfl) a ⟨_,rfl⟩) (zC (pv 0) zD))) (by with_unfolding_all rfl))))),?_⟩
  refine⟨_,rfl,rfl,_,rfl,?_⟩
  by_cases hl:l=[]
  ·subst hl
   refine kU rfl ?_
   have e:mf x []=false:=by unfold mf;simp
   have:=k H (zA.refl H)
   rw[e]at this
   exact this
  ·have b:¬V.str (tx l)=V.str "" :=fun z=>hl (jE (V.str.inj z))
   refine zAl b ⟨_,rfl,_,rfl,by show 2<=sizeLine;decide,fun p i=>⟨p,zF [[],l],rfl,.inr (.of zE),rfl,zCC _,?_⟩⟩
   have e:(if false=true then !qG (sv x) (zF [[],l])else qG (sv x) (zF [[],l]))=mf x l:=by
    rw[if_neg (by simp),zCB]
    unfold mf
    rw[decide_eq_true hl,gc]
    by_cases c:x=[]
    ·subst c;simp
    ·by_cases d:x=l
     ·subst d;simp
     ·simp[c,d]
   show Q (.bl (if false=true then !qG (sv x) (zF [[],l])else qG (sv x) (zF [[],l]))) _
   rw[e]
   exact k _ (zA.upd1 i)
theorem zNx {row:List (S×Int)}{i:Nat}{x:V}(h:((yP row).map fun p=>kV p.1)[i]?=some x):∃(hi:i<row.length),x=sv row[i].1:=by
 unfold yP z0 vS at h
 rw[aw,aw,aw]at h
 cases e:row[i]? with
 |none=>rw[e]at h;cases h
 |some q=>
  rw[e]at h
  obtain⟨hi,a⟩:=ai.mp e
  refine⟨hi,?_⟩
  rw[a]
  exact(aD h).symm
theorem zNy (a:List (S×V)):vS (a.map fun q=>(tx q.1,q.2))=z0 id a:=rfl
end
end Kn.Ln
end
section
namespace L2
open PySem PySem.Spec PyProof.Rows
section
variable{X:Cx}
def zNz:V->List V->Hp->VK->Prop:=fun x vs H Q=>∃d kvs,x=.ref d/\vs=[]/\Rd H d (.dK kvs)/\∀p,H p=none->Q (.ref p) (upd H p (jN p d))
theorem zHX:MtM X "dict.values" zNz:=by
 intro c s σ H x vs v l Q I g i h
 obtain⟨d,kvs,rfl,rfl,hd,q⟩:=h
 cases g
 have a:=i.zero
 subst a
 obtain⟨z,j,ws,rel,f⟩:=uW I.hok hd
 refine iF d6 f.typeIs ky (kl _) (oG (vR X.prog X.w) d j) ⟨⟨_,f⟩,?_⟩
 refine⟨.ref s.heap.objs.size,_,I.laid (t':=s.toks) (o:=jN s.heap.objs.size d) (fun b o e=>ae _ e) (ay _) ?_,rfl,q _ (I.hok.fresh (ay _))⟩
 exact⟨aA _ rfl,⟨_,aA _ rfl⟩,fun m n e k=>k _ e⟩
theorem zHY (E:X.calm=true):uU X (.builtin "sum") (fun xs H Q=>∃(p d:ak) (a:List (zJ×Int)),xs=[.ref p]/\H p=some (jN p d)/\Rd H d (.dK (a.map fun q=>(q.1,V.int q.2)))/\Q (.int (a.map (·.2)).sum) H):=by
 intro C s σ H xs P Q I r h
 obtain⟨p,d,a,rfl,F,hd,q⟩:=h
 obtain⟨u,rfl,G⟩:=uF r
 cases G
 obtain⟨z,m,ws,rel,J⟩:=uW I.hok hd
 obtain⟨hv,_,_⟩:=I.hok p _ F
 obtain⟨ep,c⟩:=J.dictAt
 have j:ws.length=a.length:=by have:=rel.length;simpa using this.symm
 have n:∀(i:Nat) (v:aj),(∃k,ws[i]?=some (k,v))->∃t,v=Value.int ((a.map (·.2)).getD i 0) t:=fun i v ⟨k,e⟩=>by
  obtain⟨x,e1,L⟩:=KV.get rel e
  rw[aw]at e1
  cases g:a[i]? with
  |none=>rw[g]at e1;cases e1
  |some l=>
   rw[g]at e1
   have y:(l.1,V.int l.2)=(k,x):=aD e1
   have:x=V.int l.2:=(bP y).2.symm
   subst this
   obtain⟨t,rfl⟩:=L
   refine⟨t,?_⟩
   have:(a.map (·.2)).getD i 0=l.2:=by rw[bK,aw,g];rfl
   rw[this]
 have D:=PySem.W.kdl_values (knd:=vR X.prog X.w) (kvs:=ws) (ep:=ep) (r:=p) (d:=d)
 obtain⟨M,St,hit,W,st⟩:=D.iter X.A.in1 s (I.ok.hd E) ⟨⟨_,hv,rfl,rfl⟩,c⟩
 have B:=D.there s.heap ⟨⟨_,hv,rfl,rfl⟩,c⟩
 refine call_sum_walkAnyS (hit _ _ ⟨s.heap.objs.size,_,_,_,ws.length,_,_,fun i=>(a.map (·.2)).getD i 0,rfl,W.toS,st,fun b hb=>?_,n,fun s' t' m=>?_⟩)
 ·show b<(s.heap.push M).objs.size
  rw[size_push']
  rcases aG.mp hb with e|hb
  ·rw[e];exact dB _
  ·rw[aS.mp hb];exact bV B.2
 have N:∀b o,s.heap.get? b=some o->s'.heap.get? b=some o:=fun b o e=>
  m.heap b o (fun O=>absurd (aE e) (by rw[aS.mp O];exact bH _)) (ae _ e)
 rw[sd m]
 refine⟨.int (a.map (·.2)).sum,H,I.kept (h':=s'.heap) (t':=s'.toks) N,⟨t',?_⟩,q⟩
 rw[j,<-ah (f:=(·.2)) (as:=a),zGV _ _ (ay _),bo]
def zOA (r:V->List V->Hp->VK->Prop)(to:TE):TE:=fun σ H Q=>to σ H fun x H1=>∃a,x=.ref a/\IsD H1 a/\r x [] H1 Q
theorem zHZ {o:bJ}{to:TE}{name:Str}{apos b:Pos}{id:String}{r:V->List V->Hp->VK->Prop}(slot:Slot "dict" name id)(g:typeOf (.builtin id)=pure (.type "method_descriptor"))(j:gH X id r)(l:PE X o to)
  (e:attributeBase o name X.env (eval o X.env)=eval o X.env:=by rfl) (f:(apos.endLine==b.line)=true:=by rfl):PE X (.Call (.Attribute o name apos) [] [] b) (zOA r to):=by
 intro c s σ H Q I h
 refine lQ e f (zI (l c s σ H _ I h) fun v m ⟨x,n,i,p,a,ex,d,q⟩=>?_)
 subst ex
 cases p
 obtain⟨t,u,_⟩:=zFv i d
 exact⟨"dict",id,cn,slot,g,t,u,fP rfl (nI (j c m σ n (.ref a) [] _ [] Q i (show zR (.ref a) (.ref a)from rfl) .nil q))⟩
def zOB (tk tv:TE):TE:=fun σ H Q=>∀p,H p=none->tk σ (upd H p (.dK [])) fun x H1=>tv σ H1 fun y H2=>H2 p=some (.dK [])/\∃k:zJ,x=kV k/\Q (.ref p) (upd H2 p (.dK [(k,y)]))
theorem zOC {k v:bJ}{pos:Pos}{tk f:TE}(m:PE X k tk)(hv:PE X v f):PE X (.Dict [some k] [v] pos) (zOB tk f):=by
 intro b s σ H Q I q
 have n:=I.hok.fresh (ay s.heap.objs.size)
 have p:=I.laid (a:=s.heap.objs.size) (o:=.dK []) (h':=s.heap.push {cls:=.type "dict",data:=.dict #[]}) (t':=s.toks) (fun _ _ q=>ae _ q) (ay _) (zFt s.heap I.big)
 have r:PPs X pos [some k] [v] [(tk,f)]:=zLW m hv zLV
 refine wpAny_Dict_any rfl rfl (by simp) (by simp) (zI (r b _ σ _ (fun ps g=>match ps with| [(x,y)]=>g s.heap.objs.size=some (.dK [])/\∃e:zJ,x=kV e/\Q (.ref s.heap.objs.size) (upd g s.heap.objs.size (.dK [(e,y)]))|_=>False) p (q _ n)) fun ws F ⟨ps,g,i,rel,c⟩=>?_)
 match ps,rel,c with
 | [(x,y)],rel,c=>
  obtain⟨j,e,ex,c⟩:=c
  cases rel with
  | @cons _ l _ t h u=>
  cases u
  obtain⟨G,l⟩:=l
  obtain⟨h,A⟩:=h
  subst ex
  obtain⟨z,hd,vs,rel,B⟩:=kT i.hok j
  cases rel
  unfold storeAll
  rw[e7]
  refine af (af (nJ (knd:=vR X.prog X.w) (hsz:=bp _) (g6 h) B (fun h' d C=>ar ?_)))
  show wpAny _ _ (forIn [] _ _) _ _ _
  rw[fE]
  refine ar ⟨.ref s.heap.objs.size,_,?_,rfl,c⟩
  have D:∃q,h'.get? s.heap.objs.size=some q:=let⟨q,_,_,E,_⟩:=d;⟨q,E⟩
  exact zBf i (by rw[j];exact True.intro) C D (zBg (by show 1<=sizeLine;decide) hd (KV.put .nil e A) d)
end
end L2
end
section
namespace Kn.Ln
open PySem L2 Kn
def uP (row:List (S×Int))(vv:List V):List (S×V):=(row.map (·.1)).zip vv
def jF (row:List (S×Int))(vv:List V):List (Str×V):=(uP row vv).map fun q=>(tx q.1,q.2)
theorem zHa {row:List (S×Int)}{a:List V}(h:row.length=a.length):(uP row a).map (·.1)=row.map (·.1):=by
 unfold uP
 exact List.map_fst_zip (by rw[ah];omega)
theorem zOD {row:List (S×Int)}{a:List V}(h:row.length=a.length):(jF row a).map (·.1)=(row.map (·.1)).map tx:=by
 unfold jF
 rw[<-zHa h,aU,aU];rfl
theorem zHb {row:List (S×Int)}{a:List V}(h:row.length=a.length):(jF row a).length=row.length:=by
 unfold jF uP
 rw[ah,jo,ah];omega
theorem zHc {row:List (S×Int)}{b:List V}{m:Nat}{q:S×V}(h:(uP row b)[m]?=some q):∃(x:S×Int) (v:V),row[m]?=some x/\b[m]?=some v/\q=(x.1,v):=by
 unfold uP at h
 rw[ia]at h
 obtain⟨a,c⟩:=h
 rw[aw]at a
 cases e:row[m]? with
 |none=>rw[e]at a;cases a
 |some x=>
  rw[e]at a
  exact⟨x,q.2,rfl,c,eK (aD a).symm rfl⟩
theorem zOE {row:List (S×Int)}{a:List V}{m:Nat}{q:Str×V}(h:(jF row a)[m]?=some q):∃(x:S×Int) (v:V),row[m]?=some x/\a[m]?=some v/\q=(tx x.1,v):=by
 unfold jF at h
 rw[aw]at h
 cases e:(uP row a)[m]? with
 |none=>rw[e]at h;cases h
 |some r=>
  rw[e]at h
  obtain⟨x,v,b,c,rfl⟩:=zHc e
  exact⟨x,v,b,c,(aD h).symm⟩
theorem zOF {row:List (S×Int)}{a:List V}{q:S×V}(h:q∈uP row a):∃(m:Nat) (x:S×Int) (v:V),row[m]?=some x/\a[m]?=some v/\q=(x.1,v):=by
 obtain⟨m,b,e⟩:=du h
 obtain⟨x,v,c,d,f⟩:=zHc (ai.mpr ⟨b,e⟩)
 exact⟨m,x,v,c,d,f⟩
theorem zOG (row:List (S×Int))(a:List V):vS (jF row a)=vS ((uP row a).map fun q=>(tx q.1,q.2)):=rfl
section
variable{P:aJ}{w:aY}{K:ag}{mg:Str->Option aj}{base:bE}
theorem zV.imp {k:Nat}{x:Str}{ps:List Str}{sp sp':Sp}(C:zV P w K mg base k x ps sp)(h:∀{vs H Q E},sp' vs H Q E->sp vs H Q E):zV P w K mg base k x ps sp' :=
 let⟨f,fd,F,r⟩:=C;⟨f,fd,F.imp fun _ _ _ _=>h,r⟩
def zHd (K:ag):Sp:=fun vs H Q _=>∃(d:ak) (ps:List (S×S)) (e l:S),vs=[.ref d,sv l]/\Rd H d (.dK (yP (uC ps e)))/\ps.length<1000/\∀v H',zA H H'->vA K H' v (zN ps e l)->Q v H'
theorem zOH {f:ak}{fd:bg}(F:Fun K "part_in" "part_in" zDn f fd)(B:Blt mg)(C:Cst2 K mg)(r:zV P w K mg base 2 "lowest" ["up","down"] zDj):FnOk P w K mg base z7 3 f fd ["row","letter"] (zHd K):=by
 obtain⟨j,t,u⟩:=C.nought
 refine F.ok zNK (fun vs H Q E h=>?_) (fun x A outer s H vs Q E m h=>?_)
 ·obtain⟨d,ps,e,l,rfl,_⟩:=h;rfl
 ·obtain⟨d,ps,e,l,rfl,hd,hl,k⟩:=h
  have n:=zAc m
  refine⟨_,zQ (yV (zFF (zLT n (pv 1) (pv 0))) (zK (z6 (yN (v:=.ref j) (by rfl) t rfl))) yU)
   (zK (z6 (zT r m rfl (zC (zAb n (pv 0) (pv 1) (fun _ _=>rfl)) (zC (yL (zHY rfl) (by rfl) B.sum mT (zC (zHZ d6 ip zHX (pv 0)) zD)) zD))))),?_⟩
  have a:vV H d (sv l) (v3 (yP (uC ps e)) (Sum.inr (tx l))):=.inl ⟨_,Sum.inr (tx l),hd,rfl,rfl⟩
  refine⟨_,rfl,_,rfl,d,_,rfl,a,_,rfl,?_⟩
  rw[kZ,zDl]
  by_cases c:0<ps.count (e,l)
  ·rw[if_pos c]
   refine yO ?_
   rw[kZ,zDl,if_pos c]at a
   refine⟨_,rfl,_,rfl,d,.int (ps.count (e,l):Int),rfl,a,?_⟩
   refine⟨_,rfl,d,rfl,.inl ⟨_,hd⟩,d,_,rfl,rfl,hd,fun p y=>?_⟩
   have b:zA H (upd H p (jN p d)):=zA.upd1 y
   have g:Rd (upd H p (jN p d)) d (.dK (yP (uC ps e))):=by
    rcases hd with z|⟨o,z⟩
    ·exact .inl (b _ _ z)
    ·exact .inr ⟨o,b _ _ z⟩
   refine⟨p,d,(uC ps e).map (fun q=>((Sum.inr (tx q.1):zJ),q.2)),rfl,zE,?_,?_⟩
   ·have e1:((uC ps e).map (fun q=>((Sum.inr (tx q.1):zJ),q.2))).map (fun q=>(q.1,V.int q.2))=yP (uC ps e):=by
     unfold yP z0 vS
     rw[aU,aU];rfl
    rw[e1];exact g
   ·have e1:(((uC ps e).map fun q=>((Sum.inr (tx q.1):zJ),q.2)).map (·.2)).sum=(tot ps e:Int):=by
     rw[aU];exact zHC ps e
    rw[e1]
    have D:=zAh ps e l
    have G:=tot_le ps e
    refine⟨_,_,rfl,by omega,by omega,by omega,fun I i=>k _ _ (b.trans (zA.upd1 i)) ?_⟩
    have:zN ps e l=low (ps.count (e,l):Int) (tot ps e:Int):=by unfold zN;rw[if_neg (by omega)]
    rw[this]
    exact vA.new
  ·rw[if_neg c]
   refine yK ?_
   have:zN ps e l=(0,1):=by unfold zN;rw[if_pos (by omega)]
   exact k _ _ (zA.refl H) (by rw[this];exact⟨j,rfl,u _⟩)
abbrev zEC:c8:=top 33
theorem zHe:FnScope ["rows","parts","end","row"] ["rows"] (defScope zEC):=yE
theorem zOI:(["row","letter"]:List Str).Nodup:=by decide+kernel
def zHf (K:ag):Sp:=fun vs H Q _=>∃(d:ak) (ps:List (S×S)),vs=[.ref d]/\zAE H d ps/\ps.length<900/\∀pd H',zA H H'->H pd=none->k6 K H' pd ps (zN ps)->Q (.ref pd) H'
theorem zOJ {f:ak}{fd:bg}(F:Fun K "parts_by_rows" "parts_by_rows" zEC f fd)(cP:zV P w K mg base 3 "part_in" ["row","letter"] (zHd K))(hdi:mg "dict"=none):FnOk P w K mg base z7 4 f fd ["rows"] (zHf K):=by
 refine F.ok zHe (fun vs H Q E h=>?_) (fun cdv A outer s H vs Q E hr h=>?_)
 ·obtain⟨d,ps,rfl,_⟩:=h;rfl
 ·obtain⟨d,ps,rfl,⟨ra,r1,r2,r3⟩,hps,k⟩:=h
  have hu:=zAc hr
  have nd:=zHe.nd
  refine⟨_,zQ (yH (i:=1) nd rfl (Or.inl rfl) zBh)
   (zQ (zBM (uE bM rfl (zBy (zBL K rfl cn d9 fJ zBl (pv 0)))
     (kO rfl (yW (z8 (i:=2) nd rfl (Or.inl rfl)) (yW (z8 (i:=3) nd rfl (Or.inr rfl)) uS)))
     (zK (zCy hu (pv 1) (pv 2) (gY (zMN rfl) (by rfl) hdi sS (zC
      (zNY (uY (N:=["row","letter"]) (caps:=[3]) rfl (uH (by kernel_rfl)) (zNW (pv 3)) (fun cl X s H ex=>z8 (i:=1) zOI rfl (Or.inl rfl)) (fun cl X s H ex=>qP) (fun cl X s H ex=>v9 (zC (pv 1) (zC (zT cP hr rfl (zC (pv 0) (zC (pv 1) zD))) zD))))) zD)) rfl))))
   (zK (z6 (pv 1)))),?_⟩
  intro pd hpd
  have sH1:zA H (upd H pd (.dK [])):=zA.upd1 hpd
  have hd1:=sH1 _ _ r2
  have hdpd:pd≠d:=(yG r2 hpd).symm
  refine⟨d,_,hd1,?_⟩
  refine⟨_,rfl,.inr (.inr (.inl ⟨rfl,.inl ⟨_,hd1⟩⟩)),d,_,rfl,rfl,hd1,fun p hp=>?_⟩
  have hp0:H p=none:=sH1.free hp
  have hppd:p≠pd:=fun z=>by subst z;rw[zE]at hp;cases hp
  have sH2:zA (upd H pd (.dK [])) (upd (upd H pd (.dK [])) p (VW p d)):=zA.upd1 hp
  refine⟨p,d,_,rfl,zE,sH2 _ _ hd1,fun ob=>?_⟩
  generalize hkv:z0 (fun v:ak×List (S×Int)=>V.ref v.1) ra=kvs at r2 hd1
  generalize hH3:upd (upd (upd H pd (.dK [])) p (VW p d)) d (.frz ob (.dK kvs))=H3
  have s3:zA (upd H d (.frz ob (.dK kvs))) H3:=fun b u e=>by
   rw[<-hH3]
   by_cases hb:b=d
   ·subst hb;rw[zE]at e⊢;exact e
   ·rw[zG hb]at e⊢
    exact sH2 _ _ (sH1 _ _ e)
  have hpd3:H3 pd=some (.dK (z0 (fun v:ak×List (S×V)=>V.ref v.1) [])):=by
   rw[<-hH3,zG hdpd,zG hppd.symm,zE];rfl
  have hpd0:upd H d (.frz ob (.dK kvs)) pd=none:=by rw[zG hdpd];exact hpd
  have rne:=zHV (by rw[hkv];exact r2) r3
  have ral:ra.length<=ps.length:=by
   have h1:=zNr (ps:=ps)
   rw[<-r1,ah]at h1;exact h1
  refine zBz (fun i σ H'=>(∃x2 x3:Option V,σ=[some (.ref d),some (.ref pd),x2,x3])/\zA (upd H d (.frz ob (.dK kvs))) H'/\∃pa:List (S×ak×List (S×V)),H' pd=some (.dK (z0 (fun v:ak×List (S×V)=>V.ref v.1) pa))/\pa.map (·.1)=(ra.take i).map (·.1)/\∀r∈pa,k5 K H' pd ps (zN ps) r)
   ⟨⟨_,_,rfl⟩,s3,[],hpd3,rfl,fun r hr=>by cases hr⟩ (fun i σ H' _ h=>h.2.1 _ _ zE) ?_ ?_
  ·rintro i q T σ H' Nx hN hq ⟨⟨x2,x3,rfl⟩,sm,pa,hpa,hpk,hpr⟩ hT
   rw[<-hkv]at hq
   unfold z0 vS at hq
   rw[aw,aw]at hq
   cases ei:ra[i]? with
   |none=>rw[ei]at hq;cases hq
   |some r0=>
   rw[ei]at hq
   have hq2:q=(Sum.inr (tx r0.1),V.ref r0.2.1):=(aD hq).symm
   subst hq2
   have hmem:r0∈ra:=aZ ei
   have hi:i<ra.length:=(ai.mp ei).1
   have etk:ra.take (i+1)=ra.take i++[r0]:=by rw[aB hi,(ai.mp ei).2]
   have hrow:=zHU r1 hmem
   have h0r:upd H d (.frz ob (.dK kvs)) r0.2.1=some (.dK (yP r0.2.2)):=by rw[zG (rne r0 hmem)];exact r3 r0 hmem
   refine⟨T,[sv r0.1,.ref r0.2.1],rfl,.of zE,rfl,_,_,rfl,_,_,rfl,rfl,?_⟩
   generalize hH4:upd H' T (HO.tup [kV ((Sum.inr (tx r0.1):zJ),V.ref r0.2.1).1,((Sum.inr (tx r0.1):zJ),V.ref r0.2.1).2])=H4
   have s4:zA H' H4:=by rw[<-hH4];exact zA.upd1 hT
   have hr4:H4 r0.2.1=some (.dK (yP r0.2.2)):=s4 _ _ (sm _ _ h0r)
   have sm4:=sm.trans s4
   have hpa4:=s4 _ _ hpa
   have hpr4:∀r∈pa,k5 K H4 pd ps (zN ps) r:=fun r hr=>(hpr r hr).same s4
   have nrp:r0.2.1≠pd:=fun z=>by rw[z]at h0r;rw[hpd0]at h0r;cases h0r
   refine⟨r0.2.1,yP r0.2.2,hr4,_,rfl,r0.2.1,_,rfl,hr4,fun ob2=>?_⟩
   have hlen:((yP r0.2.2).map fun p=>kV p.1).length=r0.2.2.length:=by rw[ah];exact jQ _ _
   have hl2:r0.2.2.length<=ps.length:=by rw[hrow];exact zDy ps r0.1
   have nh5:∀{H5:Hp} {ys:List V},zA (upd H4 r0.2.1 (.frz ob2 (.dK (yP r0.2.2)))) H5->Rd H5 r0.2.1 (.dK (yP (uC ps r0.1))):=fun{H5 ys} sj=>.inr ⟨ob2,by rw[<-hrow];exact sj _ _ zE⟩
   refine j7 (zNT r0.2.1 ob2 (yP r0.2.2)) [some (.ref r0.2.1)] 1 (by rw[hlen];omega) (fun j acc H5=>zA (upd H4 r0.2.1 (.frz ob2 (.dK (yP r0.2.2)))) H5/\acc.length=j/\∃vv:List V,vv.length=j/\∀(m:Nat) (x:S×Int),(r0.2.2.take j)[m]?=some x->∃a v,acc[m]?=some (.ref a)/\vv[m]?=some v/\H5 a=some (.tup [sv x.1,v])/\vA K H5 v (zN ps r0.1 x.1))
    ⟨zA.refl _,rfl,[],rfl,fun m x hm=>by simp at hm⟩ (fun j acc H5 _ h=>⟨h.1 _ _ zE,fN h.2.1⟩) ?_ ?_
   ·rintro j x acc H5 ys Nx2 hN2 hx hy ⟨sj,hal,vv,hvl,hac⟩
    obtain⟨y',rfl⟩:=zBP hy
    obtain⟨hj,rfl⟩:=zNx hx
    refine⟨_,rfl,_,rfl,_,rfl,r0.2.1,ps,r0.1,r0.2.2[j].1,rfl,nh5 (ys:=[]) sj,by omega,fun v H5b s5 hv=>?_⟩
    refine⟨by show 2<=sizeLine;decide,fun t ht=>?_⟩
    have s6:zA H5b (upd H5b t (.tup [sv r0.2.2[j].1,v])):=zA.upd1 ht
    refine hN2 _ _ [some (sv r0.2.2[j].1)] rfl ⟨(sj.trans s5).trans s6,by rw[au,hal];rfl,vv++[v],by rw[au,hvl];rfl,fun m x hm=>?_⟩
    rw[aB hj]at hm
    have hjl:(r0.2.2.take j).length=j:=by rw[aI];omega
    by_cases hmj:m<j
    ·rw[aT (by omega)]at hm
     obtain⟨a,u,h1,h2,h3,h4⟩:=hac m x hm
     exact⟨a,u,by rw[aT (by omega)];exact h1,by rw[aT (by omega)];exact h2,(s5.trans s6) _ _ h3,h4.same (s5.trans s6)⟩
    ·rw[aP (by omega),hjl]at hm
     have hm0:m-j=0:=by
      have:=(ai.mp hm).1
      simp at this;omega
     rw[hm0]at hm
     have hx2:r0.2.2[j]=x:=aD hm
     subst hx2
     exact⟨t,v,by rw[aP (by omega),hal,hm0];rfl,by rw[aP (by omega),hvl,hm0];rfl,zE,hv.same s6⟩
   ·rintro acc H5 ⟨sj,hal,vv,hvl,hac⟩ D hD
    rw[hlen,bo]at hac
    rw[hlen]at hal hvl
    have tfz5:∀ys,¬Rd H5 r0.2.1 (.tup ys):=fun ys z=>by
     have:=sj _ _ zE
     rcases z with z|⟨o,z⟩<;>rw[this]at z<;>cases z
    have hfz:H5 r0.2.1=some (.frz ob2 (.dK (yP r0.2.2))):=sj _ _ zE
    have hneD:r0.2.1≠D:=yG hfz hD
    have sD:zA H5 (upd H5 D (.lst acc)):=zA.upd1 hD
    refine⟨ob2,by rw[zG hneD];exact hfz,?_⟩
    have s7:zA H4 (upd (upd H5 D (.lst acc)) r0.2.1 (.dK (yP r0.2.2))):=zA.thaw (sj.trans sD) hr4
    generalize hH7:upd (upd H5 D (.lst acc)) r0.2.1 (.dK (yP r0.2.2))=H7 at s7
    have hD7:H7 D=some (.lst acc):=by rw[<-hH7,zG hneD.symm,zE]
    have sx7:zX r0.2.1 H5 H7:=by
     rw[<-hH7]
     exact(zX.of sD).trans (zX.refl _).updf
    have hac7:zDK K H7 acc (jF r0.2.2 vv):=by
     refine⟨by rw[zHb hvl.symm];exact hal,fun m x hm=>?_⟩
     obtain⟨x0,v0,em,ev,rfl⟩:=zOE hm
     obtain⟨a,v,h1,h2,h3,h4⟩:=hac m x0 em
     rw[ev]at h2
     cases h2
     have hna:a≠r0.2.1:=fun z=>by rw[z,hfz]at h3;cases h3
     exact⟨a,h1,.of (sx7 _ _ hna h3)⟩
    have hfr7:∀q∈uP r0.2.2 vv,vA K H7 q.2 (zN ps r0.1 q.1):=fun q hq=>by
     obtain⟨m,x0,v0,em,ev,rfl⟩:=zOF hq
     obtain⟨a,v,h1,h2,h3,h4⟩:=hac m x0 em
     rw[ev]at h2
     cases h2
     exact sx7.frA tfz5 h4
    refine⟨D,acc,_,rfl,.of hD7,hac7,?_,by rw[zHb hvl.symm];omega,fun rd hrd=>?_⟩
    ·have hnd:(r0.2.2.map (·.1)).Nodup:=by rw[hrow];exact zAk ps r0.1
     have e:kr (·.1) (jF r0.2.2 vv)=(r0.2.2.map (·.1)).map tx:=zOD hvl.symm
     rw[e]
     exact oT tx (fun a b hab z=>hab (jE z)) hnd
    have s8:zA H7 (upd H7 rd (.dK (vS (jF r0.2.2 vv)))):=zA.upd1 hrd
    have hpa7:=s8 _ _ (s7 _ _ hpa4)
    refine⟨_,rfl,_,rfl,pd,_,rfl,g8.k (k:=Sum.inr (tx r0.1)) hpa7 (by rw[jQ,<-ah (f:=(·.1)),hpk,ah,aI,aF];omega),?_⟩
    have hnrd:pd≠rd:=yG (s7 _ _ hpa4) hrd
    have knd:(pa.map (·.1)).Nodup:=by
     rw[hpk,lL]
     have h:=(v4 ps).nd
     rw[<-r1,aU]at h
     exact h.sublist (iD _ _)
    have fresh:r0.1∉pa.map (·.1):=fun h1=>by
     rw[hpk]at h1
     have h:=(v4 ps).nd
     rw[<-r1,aU]at h
     have h2:((ra.take (i+1)).map (·.1)).Nodup:=by rw[lL];exact h.sublist (iD _ _)
     rw[etk,aQ]at h2
     exact(gi.mp h2).2.2 _ h1 _ (by simp) rfl
    have eput:=zBu (fun v:ak×List (S×V)=>V.ref v.1) pa r0.1 (rd,uP r0.2.2 vv) knd
    have eputA:zP pa r0.1 (rd,uP r0.2.2 vv)=pa++[(r0.1,rd,uP r0.2.2 vv)]:=zBv pa _ _ fresh
    rw[eputA]at eput
    have sx:zX pd (upd H7 rd (.dK (vS (jF r0.2.2 vv)))) (upd (upd H7 rd (.dK (vS (jF r0.2.2 vv)))) pd (.dK (uA (z0 (fun v:ak×List (S×V)=>V.ref v.1) pa) (Sum.inr (tx r0.1)) (V.ref rd)))):=(zX.refl _).updf
    refine hN _ _ ⟨⟨_,_,rfl⟩,fun b u e=>?_,pa++[(r0.1,rd,uP r0.2.2 vv)],?_,?_,fun r hr=>?_⟩
    ·have hb:b≠pd:=fun z=>by rw[z,hpd0]at e;cases e
     exact sx _ _ hb (s8 _ _ (s7 _ _ (sm4 _ _ e)))
    ·rw[zE]
     exact congrArg (fun z=>some (HO.dK z)) eput
    ·rw[aQ,hpk,etk,aQ];rfl
    ·rcases bw.mp hr with z|z
     ·exact(((hpr4 r z).same s7).same s8).sameX (zHT hpa7) sx
     ·have hr2:r=(r0.1,rd,uP r0.2.2 vv):=aS.mp z
      subst hr2
      refine⟨hnrd.symm,?_,?_,fun q hq=>?_⟩
      ·refine sx _ _ hnrd.symm ?_
       rw[zE,<-zNy,zOG]
      ·show kr (·.1) (uP r0.2.2 vv)=_
       rw[zHa hvl.symm,hrow]
      ·exact sx.frA (zHT hpa7) ((hfr7 q hq).same s8)
  ·rintro σ H' ⟨⟨x2,x3,rfl⟩,sm,pa,hpa,hpk,hpr⟩
   refine⟨ob,sm _ _ zE,_,rfl,?_⟩
   have sfin:zA H (upd H' d (.dK kvs)):=zA.thaw sm r2
   have hel:(z0 (fun v:ak×List (S×Int)=>V.ref v.1) ra).length=ra.length:=jQ _ _
   rw[<-hkv,hel,bo]at hpk
   have tfz:∀ys,¬Rd H' d (.tup ys):=fun ys z=>by
    have:=sm _ _ zE
    rcases z with z|⟨o,z⟩<;>rw[this]at z<;>cases z
   refine k pd _ sfin hpd ⟨pa,?_,?_,fun r hr=>?_⟩
   ·rw[hpk,<-r1,aU];rfl
   ·rw[zG hdpd];exact hpa
   ·obtain⟨h1,h2,h3,h4⟩:=hpr r hr
    have hrd:r.2.1≠d:=fun z=>by
     rw[z]at h2
     rw[sm _ _ zE]at h2;cases h2
    have sx:zX d H' (upd H' d (.dK kvs)):=(zX.refl _).updf
    exact⟨h1,by rw[zG hrd];exact h2,h3,fun q hq=>sx.frA tfz (h4 q hq)⟩
end
theorem tots_le (ps:List (S×S)):∀a:List S,a.Nodup->(a.map (tot ps)).sum<=ps.length:=by
 induction ps with
 |nil=>
  intro a _
  have:∀a:List S,(a.map (tot [])).sum=0:=by
   intro a
   induction a with
   |nil=>rfl
   |cons e a ih=>rw[aR,cw,ih];rfl
  rw[this];exact bp _
 |cons p ps ih=>
  intro a b
  have m:=ih a b
  have go:∀a:List S,a.Nodup->(a.map (tot (p::ps))).sum=(a.map (tot ps)).sum+(if p.1∈a then 1 else 0):=by
   intro a
   induction a with
   |nil=>intro _;rfl
   |cons e a d=>
    intro j
    obtain⟨f,g⟩:=bz.mp j
    rw[aR,cw,d g,aR,cw]
    have l:tot (p::ps) e=tot ps e+(if p.1=e then 1 else 0):=by
     unfold tot
     by_cases c:p.1=e
     ·rw[cV (by simpa using c),if_pos c,aM]
     ·rw[cX (by simpa using c),if_neg c,oP]
    rw[l]
    by_cases c:p.1=e
    ·have h:p.1∉a:=fun z=>f (c▸z)
     rw[if_pos c,if_neg h,if_pos (by rw[c];exact az ..)]
     omega
    ·rw[if_neg c]
     by_cases i:p.1∈a
     ·rw[if_pos i,if_pos (aC _ i)];omega
     ·rw[if_neg i,if_neg (fun z=>by rcases aG.mp z with z|z<;>contradiction)];omega
  rw[go a b,aM]
  split<;>omega
theorem zOK {ps:List (S×S)}{U:Int}(h:∀e,(∃l,(e,l)∈ps)->(tot ps e:Int)∣U)(e l:S):(zN ps e l).2∣U:=by
 unfold zN
 by_cases c:ps.count (e,l)=0
 ·rw[if_pos c];exact Int.one_dvd _
 ·rw[if_neg c]
  have a:(e,l)∈ps:=dZ.mp (by omega)
  refine ja ?_ (h e ⟨l,a⟩)
  show(tot ps e:Int)/yD (ps.count (e,l):Int) (tot ps e:Int)∣_
  have b:yD (ps.count (e,l):Int) (tot ps e:Int)∣ (tot ps e:Int):=fh ..
  exact⟨yD (ps.count (e,l):Int) (tot ps e:Int),(nL b).symm⟩
section
variable{P:aJ}{w:aY}{K:ag}{mg:Str->Option aj}{base:bE}
abbrev sCM:c8:=top 31
theorem zOL:FnScope ["one","other"] ["one","other"] (defScope sCM):=yE
def zHg:Sp:=fun vs H Q _=>∃u d:Int,vs=[.int u,.int d]/\0<=u/\0<d/\d<1073741824/\Q (.int (u/yD u d*d)) H
theorem zOM {f:ak}{fd:bg}(F:Fun K "common_multiple" "common_multiple" sCM f fd)(b:zV P w K mg base 1 "greatest_divisor" ["one","other"] zDh):FnOk P w K mg base z7 2 f fd ["one","other"] zHg:=by
 refine F.ok zOL (fun vs H Q E h=>?_) (fun c A outer s H vs Q E e h=>?_)
 ·obtain⟨u,d,rfl,_⟩:=h;rfl
 ·obtain⟨u,d,rfl,g,a,i,k⟩:=h
  refine⟨_,zK (z6 (zS kP (zS zAW (pv 0) (zT b e rfl (zC (pv 0) (zC (pv 1) zD)))) (pv 1))),?_⟩
  have g1:=zBK (u:=u) a
  have g2:yD u d<=d:=se a (fh ..)
  exact⟨_,rfl,_,rfl,_,rfl,u,d,rfl,g,a,i,_,_,rfl,rfl,⟨g1,by omega⟩,_,rfl,_,_,rfl,rfl,.inr ⟨by omega,by omega⟩,k⟩
theorem zON {u d:Int}(f:0<u)(hd:0<d):0<u/yD u d*d/\u∣u/yD u d*d/\d∣u/yD u d*d/\u/yD u d*d<=u*d:=by
 have g1:=zBK (u:=u) hd
 obtain⟨a,ha⟩:yD u d∣u:=ma ..
 obtain⟨b,hb⟩:yD u d∣d:=fh ..
 have e1:u/yD u d=a:=by
  have:u/yD u d=(yD u d*a)/yD u d:=by rw[<-ha]
  rw[this];exact Int.mul_ediv_cancel_left _ (by omega)
 rw[e1]
 have e:0<a:=by
  by_cases c:0<a
  ·exact c
  ·have:yD u d*a<=0:=Int.mul_nonpos_of_nonneg_of_nonpos (by omega) (by omega)
   omega
 refine⟨lF e hd,⟨b,?_⟩,⟨a,fi ..⟩,?_⟩
 ·calc a*d=a*(yD u d*b):=by rw[<-hb]
   _=(yD u d*a)*b:=by rw[<-il,fi a]
   _=u*b:=by rw[<-ha]
 ·refine dY ?_ (by omega)
  have:1*a<=yD u d*a:=dY (by omega) (by omega)
  omega
abbrev sWW:c8:=top 32
theorem zHh:FnScope ["rows","unit","row"] ["rows"] (defScope sWW):=yE
def zHi:Sp:=fun vs H Q _=>∃(d:ak) (ps:List (S×S)),vs=[.ref d]/\zAE H d ps/\ps.length<=60/\∀U H',zA H H'->0<U->(∀e l,(zN ps e l).2∣U)->U<=2^60->Q (.int (U^9)) H'
theorem zOO (t:Nat)(h:0<t):(t:Int)<=2^t:=by
 have a:t<2^t:=Nat.lt_two_pow_self
 have b:((2^t:Nat):Int)=(2:Int)^t:=by simp
 omega
theorem zOP {f:ak}{fd:bg}(F:Fun K "whole_weight" "whole_weight" sWW f fd)(B:Blt mg)(c1:zV P w K mg base 2 "common_multiple" ["one","other"] zHg):FnOk P w K mg base z7 3 f fd ["rows"] zHi:=by
 refine F.ok zHh (fun vs H Q E h=>?_) (fun al A outer s H vs Q E m h=>?_)
 ·obtain⟨d,ps,rfl,_⟩:=h;rfl
 ·obtain⟨d,ps,rfl,⟨c,R,n,r3⟩,am,k⟩:=h
  have hu:=zAc m
  have nd:=zHh.nd
  refine⟨_,zQ (yH (i:=1) nd rfl (Or.inl rfl) zO)
   (zQ (zBM (uE bM rfl (zNf (zBL K rfl cn d6 ip zLo (pv 0))) (z8 (i:=2) nd rfl (Or.inl rfl))
     (zK (yH (i:=1) nd rfl (Or.inl rfl) (zT c1 m rfl (zC (pv 1) (zC (yL (zHY rfl) (by rfl) B.sum mT (zC (zHZ d6 ip zHX (pv 2)) zD)) zD)))))))
   (zK (z6 (zS zKR (pv 1) zO)))),?_⟩
  refine⟨d,_,n,?_⟩
  refine⟨_,rfl,.inr (.inr (.inl ⟨rfl,.inl ⟨_,n⟩⟩)),d,_,rfl,rfl,n,fun p hp=>?_⟩
  have G:zA H (upd H p (jN p d)):=zA.upd1 hp
  refine⟨p,d,_,rfl,zE,G _ _ n,fun I=>?_⟩
  have W:=zHV n r3
  generalize J:z0 (fun v:ak×List (S×Int)=>V.ref v.1) c=kvs at n
  have s3:zA (upd H d (.frz I (.dK kvs))) (upd (upd H p (jN p d)) d (.frz I (.dK kvs))):=fun b u e=>by
   by_cases hb:b=d
   ·subst hb;rw[zE]at e⊢;exact e
   ·rw[zG hb]at e⊢
    exact G _ _ e
  have knd:(c.map (·.1)).Nodup:=by
   have h:=(v4 ps).nd
   rw[<-R,aU]at h
   exact h
  refine j8 (zNc d I kvs) (fun i σ o=>(∃(U:Int) (X:Option V),σ=[some (.ref d),some (.int U),X]/\0<U/\(∀r∈c.take i,(tot ps r.1:Int)∣U)/\U<=2^(((c.take i).map (·.1)).map (tot ps)).sum)/\zA (upd H d (.frz I (.dK kvs))) o)
   ⟨⟨1,_,rfl,by decide,fun r m=>(by cases m),by simp⟩,s3⟩ (fun i σ o _ h=>h.2 _ _ zE) ?_ ?_
  ·rintro i x σ o Nx hN t ⟨⟨U,X,rfl,y,j,C⟩,L⟩
   rw[<-J]at t
   unfold z0 vS at t
   rw[aw,aw,aw]at t
   cases M:c[i]? with
   |none=>rw[M]at t;cases t
   |some a=>
   rw[M]at t
   have hx2:x=V.ref a.2.1:=(aD t).symm
   subst hx2
   have g:a∈c:=aZ M
   have hi:i<c.length:=(ai.mp M).1
   have N:c.take (i+1)=c.take i++[a]:=by rw[aB hi,(ai.mp M).2]
   have O:=zHU R g
   have D:o a.2.1=some (.dK (yP a.2.2)):=L _ _ (by rw[zG (W a g)];exact r3 a g)
   refine⟨_,rfl,_,rfl,a.2.1,rfl,.inl ⟨_,.inl D⟩,a.2.1,_,rfl,rfl,.inl D,fun Y Z=>?_⟩
   have s5:zA o (upd o Y (jN Y a.2.1)):=zA.upd1 Z
   refine⟨Y,a.2.1,a.2.2.map (fun q=>((Sum.inr (tx q.1):zJ),q.2)),rfl,zE,.inl ?_,?_⟩
   ·rw[s5 _ _ D]
    unfold yP z0 vS
    rw[aU,aU];rfl
   ·have e1:((a.2.2.map fun q=>((Sum.inr (tx q.1):zJ),q.2)).map (·.2)).sum=(tot ps a.1:Int):=by
     rw[aU,O];exact zHC ps a.1
    rw[e1]
    have aa:0<tot ps a.1:=by
     obtain⟨l,hl⟩:=((v4 ps).has a.1).mp ⟨a.2.2,(vK (v4 ps).nd _ _).mp (by rw[<-R];exact av.mpr ⟨a,g,rfl⟩)⟩
     have h1:=zAh ps a.1 l
     have h2:=dZ.mpr hl
     omega
    have an:tot ps a.1<=ps.length:=bX ..
    obtain⟨q1,q2,q3,q4⟩:=zON y (d:=(tot ps a.1:Int)) (by omega)
    refine⟨U,(tot ps a.1:Int),rfl,by omega,by omega,by omega,hN _ _ ⟨⟨_,_,rfl,q1,fun r m=>?_,?_⟩,L.trans s5⟩⟩
    ·rw[N]at m
     rcases bw.mp m with z|z
     ·exact ja (j r z) q2
     ·rw[aS.mp z];exact q3
    ·rw[N,aQ,aQ,pQ,tK]
     refine Int.le_trans q4 ?_
     have h2:=zOO (tot ps a.1) aa
     have e2:(kr (tot ps) (kr (·.1) [a])).sum=tot ps a.1:=by simp
     rw[e2]
     exact qu C h2 (by omega) (Int.pow_nonneg (by decide))
  ·rintro σ o ⟨⟨U,X,rfl,y,j,C⟩,L⟩
   have ab:(kvs.map fun p=>p.2).length=c.length:=by rw[ah,<-J];exact jQ _ _
   rw[ab,bo]at j C
   have hb:U<=2^60:=by
    have h1:=tots_le ps (c.map (·.1)) knd
    have T:2^((c.map (·.1)).map (tot ps)).sum<=2^60:=ny (by decide) (by omega)
    have h4:((2^((c.map (·.1)).map (tot ps)).sum:Nat):Int)=(2:Int)^((c.map (·.1)).map (tot ps)).sum:=by simp
    have h5:((2^60:Nat):Int)=(2:Int)^60:=by simp
    have h2:(2:Int)^((c.map (·.1)).map (tot ps)).sum<=2^60:=by rw[<-h4,<-h5];exact sT.mpr T
    omega
   refine⟨I,L _ _ zE,_,rfl,_,_,rfl,rfl,⟨by decide,by decide,by omega⟩,?_⟩
   refine k U _ (zA.thaw L n) y (zOK fun e ⟨l,hl⟩=>?_) hb
   obtain⟨row,ac⟩:=((v4 ps).has e).mpr ⟨l,hl⟩
   have T:=(vK (v4 ps).nd _ _).mpr ac
   rw[<-R]at T
   obtain⟨r,hr1,hr2⟩:=av.mp T
   have he:r.1=e:=(bP hr2).1
   rw[<-he]
   exact j r hr1
end
theorem zHj {bk:List S}{o:Nat}(hb:Bk bk o):(zB o bk).length<=72:=by
 have a:((zB o bk).length:Int)<=72:=by
  rw[zBr]
  have go:∀l:List S,(∀x∈l,x.length<=8)->(l.map fun x=>(x.length:Int)+1).sum<=9*(l.length:Int):=by
   intro l
   induction l with
   |nil=>intro _;simp
   |cons x r ih=>
    intro hl
    have c:=hl x (az ..)
    have a:=ih fun y b=>hl y (aC _ b)
    rw[aR,cw,aM]
    have:((r.length+1:Nat):Int)=(r.length:Int)+1:=rfl
    omega
  have:=go bk hb.l8
  have:=hb.hi
  omega
 omega
theorem zOQ {o:Nat}{bk:List S}{e l:S}(h:(e,l)∈zB o bk):e.length<=o:=by
 obtain⟨x,_,h⟩:=bf.mp h
 obtain⟨p,_,h⟩:=av.mp h
 rw[<- (bP h).1]
 exact zMe _ _
def Smf (f:S->S->Int×Int):Prop:=∀e l,0<=(f e l).1/\(f e l).1<1000000/\0<(f e l).2/\(f e l).2<1000000
theorem k6.row {K:ag}{H:Hp}{a:ak}{ps:List (S×S)}{f:S->S->Int×Int}(h:k6 K H a ps f){e l:S}(hl:(e,l)∈ps) :
  ∃(b:ak) (c:List (S×V)),vV H a (sv e) (some (.ref b))/\b≠a/\H b=some (.dK (z0 id c))/\c.map (·.1)=zU ps e/\∀q∈c,vA K H q.2 (f e q.1):=by
 obtain⟨g,i,m,n⟩:=h
 have knd:(g.map (·.1)).Nodup:=by rw[i];exact(v4 ps).nd
 obtain⟨row,d⟩:=((v4 ps).has e).mpr ⟨l,hl⟩
 have o:e∈g.map (·.1):=by rw[i];exact av.mpr ⟨_,(vK (v4 ps).nd _ _).mpr d,rfl⟩
 obtain⟨r,j,rfl⟩:=av.mp o
 obtain⟨g1,g2,g3,p⟩:=n r j
 refine⟨r.2.1,r.2.2,?_,g1,g2,g3,p⟩
 have:=vV.k (k:=Sum.inr (tx r.1)) m
 rw[kZ,(vK knd r.1 r.2).mp j]at this
 exact this
theorem zBQ {ys:St}(h:ys.length=2):∃y z,ys=[y,z]:=by
 match ys,h with
 | [y,z],_=>exact⟨y,z,rfl⟩
theorem zOR {o:Nat}{bk:List S}(hb:Bk bk o):∃l,(([]:S),l)∈zB o bk:=by
 have a:=hb.lo
 match bk,a with
 |x::bk,_=>
  refine⟨(x.drop 0).take 1,bf.mpr ⟨x,az ..,av.mpr ⟨0,bI.mpr (by omega),?_⟩⟩⟩
  rw[nq]
  have:zW ([]:S) o=[]:=by unfold zW;simp
  rw[this]
structure FunC (K:ag) (x qual:Str) (st:c8) (f:ak) (fd:bg) (c:ak):Prop where
 ex:∃(oc:aj) (od:Option ak) (kV doc pm:aj) (an:Option ak) (ct:aj) (osl:Array (Option aj)),
  fd=dq x qual (defArgs st) (defBody st) (defScope st) .none kV doc pm an (.ref c) ct/\K.lookup f=some ⟨oc,od,.func fd,osl⟩/\eJ K (.ref c) qual=true
 kp:dy K (.ref f)=true
theorem FunC.fn {K:ag}{x a:Str}{st:c8}{f c:ak}{fd:bg}(F:FunC K x a st f fd c):Fun K x a st f fd:=by
 obtain⟨oc,od,kV,b,pm,g,ct,d,e,l,h⟩:=F.ex
 exact⟨⟨oc,od,kV,b,pm,g,.ref c,ct,d,e,l,h⟩,F.kp⟩
theorem zHk {K:ag}{x a:Str}{st:c8}{f c:ak}{oc:aj}{od e:Option ak}{d:Array (Option aj)}{kV b pm ct:aj}(l:K.lookup f=some ⟨oc,od,.func (dq x a (defArgs st) (defBody st) (defScope st) .none kV b pm e (.ref c) ct),d⟩)
  (h:eJ K (.ref c) a=true) (k:dy K (.ref f)=true):FunC K x a st f (dq x a (defArgs st) (defBody st) (defScope st) .none kV b pm e (.ref c) ct) c:=⟨⟨oc,od,kV,b,pm,e,ct,d,rfl,l,h⟩,k⟩
def v5 (K:ag)(H:Hp)(l:ak)(ps:List (Int×S)):Prop:=∃ts:List V,H l=some (.lst ts)/\ts.length=ps.length/\∀(i:Nat) (p:Int×S),ps[i]?=some p->∃a,ts[i]?=some (.ref a)/\zY K H a [.int p.1,sv p.2]
def vB (p q:Int×S):Prop:=qA (-p.1,tx p.2) (-q.1,tx q.2)=true
def zAn (ps rs:List (Int×S)):Prop:=rs.Perm ps/\rs.Pairwise vB
def jR (ps:List (Int×S)):List (Int×Str):=ps.map fun p=>(p.1,tx p.2)
theorem zOS {ps:List (Int×S)}(h:ps.Nodup):(jR ps).Nodup:=by
 unfold jR
 rw[de,bq]
 refine h.imp fun{a b} n e=>n ?_
 obtain⟨e1,c⟩:=bP e
 exact eK e1 (jE c)
theorem zOT {ps:List (Int×S)}{pm:List Nat}(a:pm.Perm (bC ps.length))(c:pm.Pairwise (fun i j=>jO (jP (jR ps)) i j=true)):zAn ps (pm.map fun i=>ps.getD i (0,[])):=by
 have d:(bC ps.length).map (fun i=>ps.getD i (0,[]))=ps:=by
  apply gx
  ·simp
  ·intro i h _
   simp at h
   simp[h]
 refine⟨by have:=a.map (fun i=>ps.getD i (0,[]));rw[d]at this;exact this,?_⟩
 rw[bq]
 have b:∀i∈pm,i<ps.length:=fun i hi=>bI.mp (a.mem_iff.mp hi)
 have key:∀i,i<ps.length->(jP (jR ps)).getD i (0,⟨#[]⟩)=(-(ps.getD i (0,[])).1,tx (ps.getD i (0,[])).2):=fun i hi=>by
  have e1:ps[i]?=some ps[i]:=aq hi
  unfold jP jR
  rw[bK,bK,aw,aw,e1]
  rfl
 refine cg ?_ c
 intro i j hi e h
 unfold jO at h
 rw[key i (b i hi),key j (b j e)]at h
 exact h
theorem zOU (xs:List V)(n:Nat):v2 xs none (some (n:Int))=xs.take n:=by
 unfold v2
 rw[HT.sIx_nat]
 show(xs.drop 0).take (min n xs.length-0)=_
 rw[eO,iH,<-mS]
theorem uJ {T:ak}{a:Pos}{q:Str}{H b:Hp}(h:gK T a q H)(e:zA H b):gK T a q b:=by
 rcases h with h|⟨c,oc,u,vs,t,d,f,g⟩
 ·exact .inl (e _ _ h)
 ·exact .inr ⟨c,oc,u,vs,t,e _ _ d,e _ _ f,g⟩
theorem kH {T:ak}{a:Pos}{q:Str}{H:Hp}(h:gK T a q H):∃ps,H T=some (.tbl ps):=by
 rcases h with h|⟨c,oc,u,vs,t,b,d,e⟩
 ·exact⟨_,h⟩
 ·exact⟨_,b⟩
theorem zAI {T:ak}{a:Pos}{q:Str}{H:Hp}(h:gK T a q H):∀ys,¬Rd H T (.tup ys):=by
 obtain⟨ps,h⟩:=kH h
 rintro ys (z|⟨o,z⟩)
 ·rw[h]at z;cases z
 ·rw[h]at z;cases z
section
variable{P:aJ}{w:aY}{K:ag}{mg:Str->Option aj}{base:bE}
theorem FunC.ok {x a:Str}{st:c8}{f c:ak}{fd:bg}{N ps:List Str}{k:Nat}{sp:Sp}(F:FunC K x a st f fd c)(S:FnScope N ps (defScope st))(len:∀vs H Q E,sp vs H Q E->vs.length=ps.length)
  (b:∀(A:bO) (outer:List Env) (s:ao) (H:Hp) (vs:List V) (Q:VK) (E:XK),Room k (A.deeper (tW a (defScope st) s.heap.objs.size f (.ref c)))->sp vs H Q E->
   ∃t,qE (gX z7 P w K mg base N a (defScope st) f (.ref c) A outer s H E).nox (defBody st) t/\t {nx:=fun _ g=>Q .non g,rt:=Q} (start N vs) H):FnOk P w K mg base z7 (k+1) f fd ps sp:=by
 obtain⟨oc,od,kV,i,pm,m,ct,j,rfl,lk,d⟩:=F.ex
 refine zFZ lk d S len fun A outer s H vs Q E l e=>?_
 obtain⟨t,h,q⟩:=b A outer s H vs Q E l e
 exact⟨t,h.nox,q⟩
abbrev sHv:c8:=top 36
theorem zOV:FnScope ["pairs","many"] ["pairs","many"] (defScope sHv):=yE
def zOW (st:c8):Pos:=match defBody st with
 | [.Return (some (.Subscript (.Call _ _ [⟨_,.Lambda _ _ _ p,_⟩] _) _ _)) _]=>p
 |_=>⟨0,0,0,0⟩
def zOX:Str:=("heaviest" : Str)++(".<locals>." : Str)++("<lambda>" : Str)
abbrev yX (T:ak)(H:Hp):Prop:=gK T (zOW sHv) zOX H
def zCD (K:ag)(T:ak):Sp:=fun vs H Q _=>∃(l:ak) (ps:List (Int×S)) (n:Nat),vs=[.ref l,.int n]/\v5 K H l ps/\ps.Nodup/\ps.length<64/\n<=1000/\yX T H/\
 ∀D H' rs,zX T H H'->yX T H'->H D=none->zAn ps rs->v5 K H' D (rs.take n)->Q (.ref D) H'
theorem zOY {f c T:ak}{fd:bg}(F:FunC K "heaviest" "heaviest" sHv f fd c)(B:Blt mg)(L:LamBase mg base c T)(r:mg "sorted"=none) :
  FnOk P w K mg base z7 1 f fd ["pairs","many"] (zCD K T):=by
 refine F.ok zOV (fun vs H Q E h=>?_) (fun A outer s H vs Q E Y h=>?_)
 ·obtain⟨l,ps,n,rfl,_⟩:=h;rfl
 ·obtain⟨l,ps,n,rfl,⟨ts,hl,Z,O⟩,nd,t,aa,tab,k⟩:=h
  refine⟨_,zK (z6 (j2 zCv (zMW (x :="pair") (c:=c) (P:=T) (by rfl) r Y.depth rfl L (zC (pv 0) zD) (by decide) (fun _ _ _ _ _=>rfl)) jB (qF (pv 1)))),?_⟩
  refine⟨_,rfl,l,ts,jR ps,rfl,.inl (.of hl),by unfold jR;rw[ah];exact Z,fun i p hi=>?_,zOS nd,by unfold jR;rw[ah];exact t,tab,fun pm D v y h2 sb tb hD ab ac=>?_⟩
  ·unfold jR at hi
   rw[aw]at hi
   cases C:ps[i]? with
   |none=>rw[C]at hi;cases hi
   |some g=>
    rw[C]at hi
    have:p=(g.1,tx g.2):=(aD hi).symm
    subst this
    exact O i g C
  have G:(jR ps).length=ps.length:=by unfold jR;rw[ah]
  rw[G]at y
  refine⟨_,rfl,n,rfl,D,_,rfl,.inl (.of zE),fun p d=>?_⟩
  have m:zA v (upd v D (.lst (pm.map fun i=>ts.getD i .non))):=zA.upd1 hD
  generalize upd v D (.lst (pm.map fun i=>ts.getD i .non))=q at d m
  have I:zA q (upd q p (.lst (v2 (pm.map fun i=>ts.getD i .non) none (some (n:Int))))):=zA.upd1 d
  have R:upd q p (.lst (v2 (pm.map fun i=>ts.getD i .non) none (some (n:Int)))) p=some (.lst ((pm.map fun i=>ts.getD i .non).take n)):=by rw[zE,zOU]
  generalize upd q p (.lst (v2 (pm.map fun i=>ts.getD i .non) none (some (n:Int))))=U at I R
  have W:zX T H U:=zX.trans (fun b u hb e=>sb b u hb e) (zX.of (m.trans I))
  have J:H p=none:=by
   cases z:H p with
   |none=>rfl
   |some u=>
    exfalso
    by_cases o:p=T
    ·obtain⟨qs,hq⟩:=kH (uJ tb m)
     rw[o,hq]at d;cases d
    ·rw[m _ _ (sb p u o z)]at d;cases d
  refine k p U _ W (uJ tb (m.trans I)) J (zOT y h2) ⟨_,R,by rw[aI,aI,ah,ah],fun i g hi=>?_⟩
  rw[List.getElem?_take]at hi⊢
  split at hi
  ·rename_i M
   rw[if_pos M]
   rw[aw]at hi⊢
   cases N:pm[i]? with
   |none=>rw[N]at hi;cases hi
   |some j=>
    rw[N]at hi
    have X:j<ps.length:=bI.mp (y.mem_iff.mp (aZ N))
    have e0:g=ps[j]:=by
     have:ps.getD j (0,[])=g:=aD hi
     rw[<-this];simp[X]
    obtain⟨a,a1,a2⟩:=O j g (by rw[e0];exact aq X)
    refine⟨a,?_,W.seqT (zAI tab) a2⟩
    show some (ts.getD j V.non)=_
    rw[bK,a1];rfl
  ·cases hi
end
end Kn.Ln
end
section
namespace L2
open PySem PySem.Spec PyProof.Rows
section
variable{X:Cx}
def zOZ:List V->Hp->VK->Prop:=fun xs H Q=>∃d kvs,xs=[.ref d]/\H d=some (.dK (vS kvs))/\∀l:ak,H l=none->Q (.ref l) (upd H l (.lst (kvs.map fun p=>V.str p.1)))
theorem zOa (E:X.calm=true):uU X (.type "list") zOZ:=by
 intro B s σ H xs U Q I F h
 obtain⟨d,kvs,rfl,hd,q⟩:=h
 obtain⟨u,rfl,G⟩:=uF F
 cases G
 obtain⟨z,J,ws,rel,L⟩:=kT I.hok hd
 have c:ws.length=kvs.length:=by have:=rel.length;simpa using this.symm
 have C:kvs.length<=sizeLine:=by simpa using z
 obtain⟨ep,m⟩:=L.dictAt
 refine PySem.W.kdl_call (PySem.W.kdl_dict (knd:=vR X.prog X.w) (kvs:=ws) (ep:=ep) J) (I.ok.hd E) m (by rw[c];exact C) fun h' tk b M N O f=>?_
 have n:b.toList.length=kvs.length:=by rw[bj];exact f.1.trans c
 have hv:zL (kvs.map fun p=>V.str p.1) b.toList:=by
  have go:∀(l:List (Str×V)) (a:List aj),a.length=l.length->(∀(i:Nat) (v:aj),a[i]?=some v->∃p,l[i]?=some p/\∃t,v=Value.str p.1 t)->zL (l.map fun p=>V.str p.1) a:=by
   intro l
   induction l with
   |nil=>intro a ha _;rw[cq.mp ha];exact .nil
   |cons p l ih=>
    intro a ha D
    cases a with
    |nil=>cases ha
    |cons v a=>
     obtain⟨Y,e,t,ev⟩:=D 0 v rfl
     cases e
     exact .cons ⟨t,ev⟩ (ih a (by simpa using ha) fun i u P=>by simpa using D (i+1) u (by simpa using P))
  refine go kvs b.toList n fun i v e=>?_
  obtain⟨k,x,e1,R⟩:=f.2 i v (by rw[<-dR];exact e)
  obtain⟨y,f1,_⟩:=KV.get rel e1
  rw[aw]at f1
  cases g:kvs[i]? with
  |none=>rw[g]at f1;cases f1
  |some p=>
   rw[g]at f1
   have:(Sum.inr p.1:zJ)=k:=(bP (aD f1)).1
   subst this
   have r:gC (Sum.inr p.1) v=true:=R
   rcases jL r with⟨j,t,A,_⟩|⟨w,t,A,T⟩
   ·cases A
   ·exact⟨p,rfl,t,by rw[T,mY A]⟩
 refine⟨.ref s.heap.objs.size,_,I.laid (t':=tk) (o:=.lst (kvs.map fun p=>V.str p.1)) N (ay _) ⟨by rw[ah];exact C,b.toList,M,hv,?_⟩,rfl,q _ (I.hok.fresh (ay _))⟩
 rw[nz];exact O
end
end L2
end
section
namespace Kn.Ln
open PySem L2 Kn
abbrev zH:=List (Int×S)
theorem zCE (p:Int×S):¬vB p p:=by unfold vB;rw[zGk];exact aV
theorem zCF {p q r:Int×S}(a:vB p q)(b:vB q r):vB p r:=zGl a b
theorem zED:∀{a b:zH},a.Perm b->a.Pairwise vB->b.Pairwise vB->a=b
 | [],b,h,_,_=>(List.nil_perm.mp h).symm
 |x::a,[],h,_,_=>absurd h.length_eq (by simp)
 |x::a,y::b,h,d,f=>by
  have e:x=y:=by
   have g:x∈y::b:=h.mem_iff.mp (az ..)
   have i:y∈x::a:=h.mem_iff.mpr (az ..)
   rcases aG.mp g with z|z
   ·exact z
   ·rcases aG.mp i with c|c
    ·exact c.symm
    ·exact absurd (zCF ((cI.mp d).1 y c) ((cI.mp f).1 x z)) (zCE x)
  subst e
  rw[zED (ua h) (cI.mp d).2 (cI.mp f).2]
open Classical in
noncomputable def vG (n:Nat) (ps:zH):zH:=if h:∃rs,zAn ps rs then(choose h).take n else []
theorem zCG {n:Nat}{ps a:zH}(h:zAn ps a):a.take n=vG n ps:=by
 have b:∃a,zAn ps a:=⟨a,h⟩
 unfold vG
 rw[dif_pos b]
 have c:=mU b
 rw[zED (h.1.trans c.1.symm) h.2 c.2]
def y8 (nx:S->List S)(f:S->S->Int×Int)(o:Nat)(x:S)(p:S×zH):List (S×zH):=((nx p.1).filter (mf x)).map fun l=>(zW (p.1++l) o,p.2.map fun q=>(yB q.1 (f p.1 l),q.2++l))
def yZ (acc:List (S×zH))(r:S×zH):List (S×zH):=zP acc r.1 ((zM acc r.1).getD []++r.2)
def vC (L:List (S×zH)):List (S×zH):=L.foldl yZ []
theorem zHl:∀(L c:List (S×zH)),(c.map (·.1)).Nodup->((L.foldl yZ c).map (·.1)).Nodup/\∀k∈(L.foldl yZ c).map (·.1),k∈c.map (·.1)\/k∈L.map (·.1)
 | [],c,h=>⟨h,fun k d=>.inl d⟩
 |p::L,c,h=>by
  obtain⟨a,b⟩:=zHl L (yZ c p) (gL h)
  refine⟨a,fun k d=>?_⟩
  rcases b k d with z|z
  ·rcases zNm z with y|y
   ·exact .inl y
   ·exact .inr (by rw[aR,y];exact az ..)
  ·exact .inr (by rw[aR];exact aC _ z)
theorem zAo (L:List (S×zH)):((vC L).map (·.1)).Nodup/\∀k∈(vC L).map (·.1),k∈L.map (·.1):=by
 obtain⟨a,b⟩:=zHl L [] (by simp)
 exact⟨a,fun k c=>(b k c).elim (fun z=>by cases z) id⟩
theorem v5.same {K:ag}{H b:Hp}{l:ak}{ps:zH}(h:v5 K H l ps)(e:zA H b):v5 K b l ps:=by
 obtain⟨ts,c,d,f⟩:=h
 exact⟨ts,e _ _ c,d,fun i p hi=>let⟨a,g,j⟩:=f i p hi;⟨a,g,e.seqT j⟩⟩
theorem v5.sameX {K:ag}{H b:Hp}{l d:ak}{ps:zH}(h:v5 K H l ps)(e:zX d H b)(hd:∀ys,¬Rd H d (.tup ys))(hl:l≠d):v5 K b l ps:=by
 obtain⟨ts,c,f,g⟩:=h
 exact⟨ts,e _ _ hl c,f,fun i p hi=>let⟨a,j,m⟩:=g i p hi;⟨a,j,e.seqT hd m⟩⟩
structure FA (K:ag) (H0 H:Hp) (d:ak) (g:List (S×zH)) (fa:List (S×ak×zH)):Prop where
 rows:fa.map (fun r=>(r.1,r.2.2))=g
 top:H d=some (.dK (z0 (fun v:ak×zH=>V.ref v.1) fa))
 row:∀r∈fa,v5 K H r.2.1 r.2.2
 new:∀r∈fa,H0 r.2.1=none/\r.2.1≠d
 nda:(fa.map fun r=>r.2.1).Nodup
theorem FA.same {K:ag}{a H b:Hp}{d:ak}{g:List (S×zH)}{c:List (S×ak×zH)}(h:FA K a H d g c)(e:zA H b):FA K a b d g c :=
 ⟨h.rows,e _ _ h.top,fun r f=>(h.row r f).same e,h.new,h.nda⟩
theorem FA.keys {K:ag}{b H:Hp}{d:ak}{g:List (S×zH)}{a:List (S×ak×zH)}(h:FA K b H d g a):a.map (·.1)=g.map (·.1):=by
 rw[<-h.rows,aU];rfl
theorem FA.get {K:ag}{b H:Hp}{d:ak}{g:List (S×zH)}{a:List (S×ak×zH)}(h:FA K b H d g a)(e:S):zM g e=(zM a e).map (·.2):=by
 rw[<-h.rows]
 clear h
 induction a with
 |nil=>rfl
 |cons r a ih=>
  rw[aR]
  unfold zM
  split
  ·rfl
  ·exact ih
theorem zDg {α:Type}(f:α->V){l a:List (S×α)}(h:l.map (fun p=>(p.1,f p.2))=a.map fun p=>(p.1,f p.2)):z0 f l=z0 f a:=by
 have b:=congrArg (kr fun p:S×V=>(tx p.1,p.2)) h
 rw[aU,aU]at b
 unfold z0
 exact congrArg vS b
theorem FA.ext {K:ag}{D H t:Hp}{d c:ak}{g:List (S×zH)}{b:List (S×ak×zH)}{e:S}{l a:zH}(h:FA K D H d g b)(nd:(g.map (·.1)).Nodup)(E:zM b e=some (c,l))(F:zX c H t)(J:v5 K t c a) :
  FA K D t d (zP g e a) (zP b e (c,a)):=by
 have n:(b.map (·.1)).Nodup:=by rw[h.keys];exact nd
 have f:(e,c,l)∈b:=(vK n _ _).mpr E
 have u:∀ys,¬Rd H c (.tup ys):=by
  obtain⟨ts,G,_⟩:=h.row _ f
  rintro ys (z|⟨o,z⟩)
  ·rw[G]at z;cases z
  ·rw[G]at z;cases z
 have I:(zP b e (c,a)).map (fun p=>(p.1,p.2.1))=b.map fun p=>(p.1,p.2.1):=zDc (fun v:ak×zH=>v.1) b e (c,a) (c,l) E rfl
 have q:(zP b e (c,a)).map (fun r=>r.2.1)=b.map fun r=>r.2.1:=by
  have:=congrArg (kr fun p:S×ak=>p.2) I
  rw[aU,aU]at this
  exact this
 refine⟨?_,?_,fun r w=>?_,fun r w=>?_,by rw[q];exact h.nda⟩
 ·rw[zDb (fun v:ak×zH=>v.2),h.rows]
 ·have e1:z0 (fun v:ak×zH=>V.ref v.1) (zP b e (c,a))=z0 (fun v:ak×zH=>V.ref v.1) b:=by
   refine zDg _ ?_
   have:=congrArg (kr fun p:S×ak=>(p.1,V.ref p.2)) I
   rw[aU,aU]at this
   exact this
  rw[e1]
  exact F _ _ (h.new _ f).2.symm h.top
 ·rcases kB w with z|⟨z,L⟩
  ·rw[z];exact J
  ·have x:r.1≠e:=L (.inr n)
   refine(h.row r z).sameX F u fun y=>x ?_
   have hi:=h.nda
   obtain⟨i,A,s⟩:=du z
   obtain⟨j,B,m⟩:=du f
   have:i=j:=by
    have e1:(b.map fun r=>r.2.1)[i]'(by simpa using A)=(b.map fun r=>r.2.1)[j]'(by simpa using B):=by
     rw[fI,fI,s,m];exact y
    exact(dU hi).mp e1
   subst this
   rw[s]at m
   rw[m]
 ·have:r.2.1∈(zP b e (c,a)).map fun r=>r.2.1:=av.mpr ⟨r,w,rfl⟩
  rw[q]at this
  obtain⟨M,C,N⟩:=av.mp this
  rw[<-N];exact h.new M C
theorem FA.put {K:ag}{q H s:Hp}{d c:ak}{g:List (S×zH)}{f:List (S×ak×zH)}{e:S}{a:zH}(h:FA K q H d g f)(nd:(g.map (·.1)).Nodup)(B:v5 K H c a)(C:q c=none)(t:∀r∈f,r.2.1≠c)(i:c≠d)
  (A:zX d H s) (D:s d=some (.dK (uA (z0 (fun v:ak×zH=>V.ref v.1) f) (Sum.inr (tx e)) (.ref c)))):FA K q s d (zP g e a) (zP f e (c,a)):=by
 have u:(f.map (·.1)).Nodup:=by rw[h.keys];exact nd
 have j:∀ys,¬Rd H d (.tup ys):=by
  rintro ys (z|⟨o,z⟩)
  ·rw[h.top]at z;cases z
  ·rw[h.top]at z;cases z
 refine⟨?_,?_,fun r w=>?_,fun r w=>?_,?_⟩
 ·rw[zDb (fun v:ak×zH=>v.2),h.rows]
 ·rw[D];exact congrArg (fun z=>some (HO.dK z)) (zBu (fun v:ak×zH=>V.ref v.1) f e (c,a) u)
 ·rcases kB w with z|⟨z,_⟩
  ·rw[z];exact B.sameX A j i
  ·exact(h.row r z).sameX A j (h.new r z).2
 ·rcases kB w with z|⟨z,_⟩
  ·rw[z];exact⟨C,i⟩
  ·exact h.new r z
 ·have go:∀l:List (S×ak×zH),(l.map fun r=>r.2.1).Nodup->(∀r∈l,r.2.1≠c)->((zP l e (c,a)).map fun r=>r.2.1).Nodup:=by
   intro l
   induction l with
   |nil=>intro _ _;simp[zP]
   |cons r l ih=>
    intro p x
    rw[aR,bz]at p
    unfold zP
    split
    ·rw[aR,bz]
     refine⟨fun z=>?_,p.2⟩
     obtain⟨m,b,n⟩:=av.mp z
     exact x m (aC _ b) n
    ·rw[aR,bz]
     refine⟨fun z=>?_,ih p.2 fun m b=>x m (aC _ b)⟩
     obtain⟨m,b,n⟩:=av.mp z
     rcases kB b with y|⟨y,_⟩
     ·rw[y]at n
      exact x r (az ..) n.symm
     ·exact p.1 (av.mpr ⟨m,y,n⟩)
  exact go f h.nda t
def zBR (K:ag)(H:Hp)(d:ak)(ly:List (S×zH)):Prop:=∃fa:List (S×ak×zH),fa.map (fun r=>(r.1,r.2.2))=ly/\H d=some (.dK (z0 (fun v:ak×zH=>V.ref v.1) fa))/\∀r∈fa,r.2.1≠d/\v5 K H r.2.1 r.2.2
theorem zAJ {H:Hp}{a:ak}{kvs:List (zJ×V)}(h:H a=some (.dK kvs)):∀ys,¬Rd H a (.tup ys):=by
 rintro ys (z|⟨o,z⟩)
 ·rw[h]at z;cases z
 ·rw[h]at z;cases z
theorem zEE {H:Hp}{a:ak}{o:Obj}{kvs:List (zJ×V)}(h:H a=some (.frz o (.dK kvs))):∀ys,¬Rd H a (.tup ys):=by
 rintro ys (z|⟨b,z⟩)
 ·rw[h]at z;cases z
 ·rw[h]at z;cases z
theorem uQ {H:Hp}{a:ak}{u:HO}:zX a H (upd H a u):=fun b v hb e=>by rw[zG hb];exact e
theorem FA.other {K:ag}{b H c:Hp}{d a:ak}{g:List (S×zH)}{e:List (S×ak×zH)}(h:FA K b H d g e)(f:zX a H c)(ha:∀ys,¬Rd H a (.tup ys))(hd:d≠a)(j:b a≠none):FA K b c d g e :=
 ⟨h.rows,f _ _ hd h.top,fun r i=>(h.row r i).sameX f ha fun z=>j (by rw[<-z];exact(h.new r i).1),h.new,h.nda⟩
structure PartsT (K:ag) (T:ak) (H:Hp) (pd ld:ak) (ps:List (S×S)) (f:S->S->Int×Int):Prop where
 ex:∃Hb,k6 K Hb pd ps f/\zX T Hb H/\yX T Hb/\Hb ld=none
theorem PartsT.row {K:ag}{T:ak}{H:Hp}{a ld:ak}{ps:List (S×S)}{f:S->S->Int×Int}(h:PartsT K T H a ld ps f){e l:S}(hl:(e,l)∈ps) :
  ∃(c:ak) (d:List (S×V)) (kvs:List (zJ×V)),Rd H a (.dK kvs)/\v3 kvs (Sum.inr (tx e))=some (.ref c)/\c≠a/\H c=some (.dK (z0 id d))/\d.map (·.1)=zU ps e/\(∀q∈d,vA K H q.2 (f e q.1))/\c≠ld/\a≠ld/\H a≠none:=by
 obtain⟨E,w,m,tb,p⟩:=h.ex
 obtain⟨F,r⟩:=kH tb
 obtain⟨c,d,g1,g2,g3,x,A⟩:=w.row hl
 have s:c≠T:=fun z=>by rw[z,r]at g3;cases g3
 have t:c≠ld:=fun z=>by rw[z,p]at g3;cases g3
 rcases g1 with⟨kvs,u,e1,n,B⟩|⟨kvs,u,b,e1,n,_⟩
 ·have C:(Sum.inr (tx e):zJ)=u:=by
   cases u with
   |inl i=>cases n
   |inr y=>
    have:V.str (tx e)=V.str y:=n
    rw[V.str.inj this]
  subst C
  have g:a≠T:=fun z=>by
   rcases e1 with e1|⟨o,e1⟩
   ·rw[z,r]at e1;cases e1
   ·rw[z,r]at e1;cases e1
  have v:a≠ld:=fun z=>by
   rcases e1 with e1|⟨o,e1⟩
   ·rw[z,p]at e1;cases e1
   ·rw[z,p]at e1;cases e1
  have j:Rd H a (.dK kvs):=by
   rcases e1 with e1|⟨o,e1⟩
   ·exact .inl (m _ _ g e1)
   ·exact .inr ⟨o,m _ _ g e1⟩
  refine⟨c,d,kvs,j,B.symm,g2,m _ _ s g3,x,fun q D=>m.frA (zAI tb) (A q D),t,v,?_⟩
  rcases j with z|⟨o,z⟩<;>rw[z]<;>simp
 ·cases n
theorem zEF {t u:TS}{D:Ends}{σ:St}{H:Hp}(R:St->Hp->Prop)(c:∀a b,R a b->u D a b)(d:∀N:St->Hp->Prop,(∀a b,R a b->N a b)->t {D with nx:=N} σ H):zBa t u D σ H:=d (u D) c
theorem zHm (L:List (S×zH))(r:S×zH):vC (L++[r])=zP (vC L) r.1 ((zM (vC L) r.1).getD []++r.2):=by
 unfold vC
 rw[fg];rfl
theorem zOb {β:Type}(l:List (S×β))(e:S)(u v:β):zP (zP l e u) e v=zP l e v:=by
 induction l with
 |nil=>simp[zP]
 |cons p r ih=>
  obtain⟨a,b⟩:=p
  by_cases c:a=e
  ·simp[zP,c]
  ·simp[zP,c,ih]
theorem zHn:∀(L a:List (S×zH)),(L.foldl yZ a).length<=a.length+L.length
 | [],a=>by simp
 |r::L,a=>by
  have b:=zHn L (yZ a r)
  have c:(yZ a r).length<=a.length+1:=zDa _ _ _
  rw[eZ,aM];omega
theorem zHo (L:List (S×zH)):(vC L).length<=L.length:=by
 have:=zHn L []
 unfold vC
 simpa using this
theorem zHp (m:Nat):∀(L a:List (S×zH)) (k:Nat),(a.map (·.1)).Nodup->(∀r∈L,r.2.length<=m)->(∀r∈a,r.2.length<=m*k)->∀r∈L.foldl yZ a,r.2.length<=m*(k+L.length)
 | [],a,k,_,_,h,r,b=>by simpa using h r b
 |p::L,a,k,nd,c,h,r,b=>by
  have:=zHp m L (yZ a p) (k+1) (gL nd) (fun r b=>c r (aC _ b)) (fun q d=>?_) r b
  ·rw[aM,show k+(L.length+1)=k+1+L.length by omega];exact this
  ·have f:=c p (az ..)
   rcases kB d with z|⟨z,_⟩
   ·rw[z]
    show((zM a p.1).getD []++p.2).length<=_
    rw[au,oU]
    cases e:zM a p.1 with
    |none=>simp;omega
    |some u=>
     have:=h _ ((vK nd _ _).mpr e)
     have g:u.length<=m*k:=this
     simp;omega
   ·have:=h q z
    rw[oU];omega
theorem zOc {m:Nat}{L:List (S×zH)}(h:∀r∈L,r.2.length<=m):∀r∈vC L,r.2.length<=m*L.length:=fun r a=>by
 have:=zHp m L [] 0 (by simp) h (by simp) r a
 simpa using this
theorem zHq {nx:S->List S}{f:S->S->Int×Int}{o:Nat}{x:S}{p:S×zH}{m:Nat}(h:(nx p.1).length<=m):(y8 nx f o x p).length<=m:=by
 unfold y8
 rw[ah]
 exact bR (bX ..) h
theorem zOd {nx:S->List S}{f:S->S->Int×Int}{o:Nat}{x:S}{p:S×zH}{m:Nat}(h:p.2.length<=m):∀r∈y8 nx f o x p,r.2.length<=m:=fun r a=>by
 obtain⟨l,_,rfl⟩:=av.mp a
 rw[ah];exact h
theorem zAp {α β:Type}(g:α->List β)(m:Nat):∀l:List α,(∀a∈l,(g a).length<=m)->(l.flatMap g).length<=l.length*m
 | [],_=>by simp
 |a::l,h=>by
  have:=zAp g m l fun b hb=>h b (aC _ hb)
  have:=h a (az ..)
  rw[fj,au,aM,mw];omega
theorem zEG {ps:List (S×S)}(e:S):(zU ps e).length<=ps.length:=by
 have a:=zDy ps e
 unfold zU
 first
  |(rw[ah];exact a)
  |omega
theorem zHr {β:Type}:∀(c:List (S×β)) (e:S) (v d:β) (f:List (S×β)),e∉c.map (·.1)->zP (c++(e,v)::f) e d=c++(e,d)::f
 | [],e,v,d,f,_=>by simp[zP]
 |(a,b)::c,e,v,d,f,h=>by
  have ha:a≠e:=fun z=>h (by rw[z];exact az ..)
  have g:e∉c.map (·.1):=fun z=>h (aC _ z)
  have:=zHr c e v d f g
  simp[zP,ha,this]
def k7 (f:S->S->Int×Int)(e l:S)(ps:zH):zH:=ps.map fun q=>(yB q.1 (f e l),q.2++l)
section
variable{P:aJ}{w:aY}{K:ag}{mg:Str->Option aj}{base:bE}
abbrev zEH:c8:=top 37
theorem zHs:FnScope ["parts","order","layer","wanted","many","found","end","pairs","letter","part","longer"] ["parts","order","layer","wanted","many"] (defScope zEH):=yE
theorem zHt:(["letter","part","weight","text"]:List Str).Nodup:=by decide+kernel
noncomputable def zAK (ps:List (S×S)) (f:S->S->Int×Int) (o n:Nat) (ly:List (S×zH)) (x:S):List (S×zH):=(vC (ly.flatMap (y8 (zU ps) f o x))).map fun r=>(r.1,vG n r.2)
def zHu (K:ag)(T:ak):Sp:=fun vs H Q _=>∃(pd ld:ak) (o n:Nat) (bk:List S) (f:S->S->Int×Int) (ly:List (S×zH)) (x:S),vs=[.ref pd,.int o,.ref ld,sv x,.int n]/\Bk bk o/\PartsT K T H pd ld (zB o bk) f/\Smf f/\zBR K H ld ly/\ly.length<=72/\
 (∀r∈ly,(∃l,(r.1,l)∈zB o bk)/\r.2.length<=900/\∀q∈r.2,q.2.length<=60)/\n<=1000/\yX T H/\(∀r∈vC (ly.flatMap (y8 (zU (zB o bk)) f o x)),r.2.Nodup/\r.2.length<64)/\
 ∀fo H',zX T H H'->yX T H'->H fo=none->zBR K H' fo (zAK (zB o bk) f o n ly x)->Q (.ref fo) H'
theorem zOe {f T:ak}{fd:bg}(F:Fun K "next_heaviest" "next_heaviest" zEH f fd)(hli:mg "list"=none)(cF:zV P w K mg base 1 "may_follow" ["letter","wanted"] zHW)(cEnd:zV P w K mg base 1 "end_of" ["text","order"] zDM)(cL:zV P w K mg base 1 "left_of" ["weight","part"] (zEA K))
  (cH:zV P w K mg base 1 "heaviest" ["pairs","many"] (zCD K T)):FnOk P w K mg base z7 2 f fd ["parts","order","layer","wanted","many"] (zHu K T):=by
 refine F.ok zHs (fun vs H Q E h=>?_) (fun cdv A outer s H vs Q E hr h=>?_)
 ·obtain⟨pd,ld,o,n,bk,f,ly,x,rfl,_⟩:=h;rfl
 ·obtain⟨pd,ld,o,n,bk,ff,ly,x,rfl,hb,hP,hS,⟨la,l1,l2,l3⟩,hl72,hly,hn,tab,hgo,k⟩:=h
  have hu:=zAc hr
  have nd:=zHs.nd
  refine⟨_,zQ (yH (i:=5) nd rfl (Or.inl rfl) zBh)
   (zQ (zBM (uE bM rfl (zBy (zBL K rfl cn d9 fJ zBl (pv 2)))
     (kO rfl (yW (z8 (i:=6) nd rfl (Or.inl rfl)) (yW (z8 (i:=7) nd rfl (Or.inl rfl)) uS)))
     (zK (zBM (uE bM rfl (zBy (zBL K rfl cn d9 fJ zBl (zAb hu (pv 0) (pv 6) (fun _ _=>rfl))))
      (kO rfl (yW (z8 (i:=8) nd rfl (Or.inr rfl)) (yW (z8 (i:=9) nd rfl (Or.inr rfl)) uS)))
      (zK (yV (vX (zT cF hr rfl (zC (pv 8) (zC (pv 3) zD))))
       (zQ (yH (i:=10) nd rfl (Or.inl rfl) (jM cn fZ jn zGY (pv 5) (zC (zT cEnd hr rfl (zC (zS zCs (pv 6) (pv 8)) (zC (pv 1) zD))) (zC (uG zD) zD))))
       (zK (q8 (jM ee fB fC zBc (pv 10) (zC
        (uY (N:=["letter","part","weight","text"]) (caps:=[8,9]) rfl (uH (by kernel_rfl)) (jA (pv 7))
         (fun cl X s H ex=>zAF K 2 rfl rfl (yW (z8 (i:=2) zHt rfl (Or.inl rfl)) (yW (z8 (i:=3) zHt rfl (Or.inl rfl)) uS)) rfl rfl) (fun cl X s H ex=>qP)
         (fun cl X s H ex=>v9 (zC (zT cL hr rfl (zC (pv 2) (zC (pv 1) zD))) (zC (zS zCs (pv 3) (pv 0)) zD)))) zD)))))
       yU)))))))
   (zQ (uE bM rfl (jA (gY (zOa rfl) (by rfl) hli fV (zC (pv 5) zD))) (z8 (i:=6) nd rfl (Or.inl rfl))
     (zK (zCy hu (pv 5) (pv 6) (zT cH hr rfl (zC (zAb hu (pv 5) (pv 6) (fun _ _=>rfl)) (zC (pv 4) zD))) rfl)))
   (zK (z6 (pv 5))))),?_⟩
  intro fo hfo
  have sH1:zA H (upd H fo (.dK [])):=zA.upd1 hfo
  have hd1:=sH1 _ _ l2
  have hlfo:fo≠ld:=(yG l2 hfo).symm
  refine⟨ld,_,hd1,?_⟩
  refine⟨_,rfl,.inr (.inr (.inl ⟨rfl,.inl ⟨_,hd1⟩⟩)),ld,_,rfl,rfl,hd1,fun p hp=>?_⟩
  have hpfo:p≠fo:=fun z=>by subst z;rw[zE]at hp;cases hp
  have sH2:zA (upd H fo (.dK [])) (upd (upd H fo (.dK [])) p (VW p ld)):=zA.upd1 hp
  refine⟨p,ld,_,rfl,zE,sH2 _ _ hd1,fun ob=>?_⟩
  have lal:la.length<=72:=by rw[<-l1,ah]at hl72;exact hl72
  have l2':=l2
  generalize hkv:z0 (fun v:ak×zH=>V.ref v.1) la=kvs at l2 hd1
  generalize hH3:upd (upd (upd H fo (.dK [])) p (VW p ld)) ld (.frz ob (.dK kvs))=H3
  generalize hHA:upd H ld (.frz ob (.dK kvs))=HA
  have hAld:HA ld=some (.frz ob (.dK kvs)):=by rw[<-hHA,zE]
  have hAx:zX ld H HA:=by rw[<-hHA];exact uQ
  have s3:zA HA H3:=fun b u e=>by
   rw[<-hH3]
   by_cases hb':b=ld
   ·subst hb';rw[hAld]at e;rw[zE];exact e
   ·rw[<-hHA,zG hb']at e
    rw[zG hb']
    exact sH2 _ _ (sH1 _ _ e)
  have hfo3:H3 fo=some (.dK (z0 (fun v:ak×zH=>V.ref v.1) [])):=by
   rw[<-hH3,zG hlfo,zG hpfo.symm,zE];rfl
  have h72:=zHj hb
  refine zBz (fun i σ H'=>(∃x6 x7 x8 x9 x10:Option V,σ=[some (.ref pd),some (.int o),some (.ref ld),some (sv x),some (.int n),some (.ref fo),x6,x7,x8,x9,x10])/\zA HA H'/\∃fa,FA K H H' fo (vC ((ly.take i).flatMap (y8 (zU (zB o bk)) ff o x))) fa)
   ⟨⟨_,_,_,_,_,rfl⟩,s3,[],⟨rfl,hfo3,by simp,by simp,by simp⟩⟩ (fun i σ H' _ h=>h.2.1 _ _ hAld) ?_ ?_
  ·rintro i q T0 σ H' Nx hN hq ⟨⟨x6,x7,x8,x9,x10,rfl⟩,sm,fa,FH⟩ hT0
   rw[<-hkv]at hq
   unfold z0 vS at hq
   rw[aw,aw]at hq
   cases ei:la[i]? with
   |none=>rw[ei]at hq;cases hq
   |some r0=>
   rw[ei]at hq
   have hq2:q=(Sum.inr (tx r0.1),V.ref r0.2.1):=(aD hq).symm
   subst hq2
   have hmem:r0∈la:=aZ ei
   have eli:ly[i]?=some (r0.1,r0.2.2):=by rw[<-l1,aw,ei];rfl
   have hi:i<ly.length:=(ai.mp eli).1
   have hlym:(r0.1,r0.2.2)∈ly:=aZ eli
   obtain⟨⟨l0,hl0⟩,hl900,hl60⟩:=hly _ hlym
   have hl900:r0.2.2.length<=900:=hl900
   have hl60:∀q∈r0.2.2,q.2.length<=60:=hl60
   have etk:(ly.take (i+1)).flatMap (y8 (zU (zB o bk)) ff o x)=(ly.take i).flatMap (y8 (zU (zB o bk)) ff o x)++y8 (zU (zB o bk)) ff o x (r0.1,r0.2.2):=by
    rw[aB hi,(ai.mp eli).2,eC];simp
   have hC0:((ly.take i).flatMap (y8 (zU (zB o bk)) ff o x)).length<=5184:=by
    have h1:=zAp (y8 (zU (zB o bk)) ff o x) 72 (ly.take i) fun a _=>zHq (bR (zEG a.1) h72)
    have h2:(ly.take i).length<=72:=by rw[aI];omega
    omega
   have hC9:∀r∈(ly.take i).flatMap (y8 (zU (zB o bk)) ff o x),r.2.length<=900:=fun r hr=>by
    obtain⟨a,ha,hr⟩:=bf.mp hr
    exact zOd (hly a (cf ha)).2.1 r hr
   generalize(ly.take i).flatMap (y8 (zU (zB o bk)) ff o x)=C0 at FH etk hC0 hC9
   have hel:r0.1.length<=3:=by
    have h1:r0.1.length<=o:=zOQ hl0
    have:=hb.o3
    omega
   obtain⟨ra,kv,kvs2,e1,e2,g2,g3,g4,g5,rne,pdl,pdn⟩:=hP.row hl0
   refine⟨T0,[sv r0.1,.ref r0.2.1],rfl,.of zE,rfl,_,_,rfl,_,_,rfl,rfl,?_⟩
   generalize hH4:upd H' T0 (HO.tup [kV ((Sum.inr (tx r0.1):zJ),V.ref r0.2.1).1,((Sum.inr (tx r0.1):zJ),V.ref r0.2.1).2])=H4
   have s4:zA H' H4:=by rw[<-hH4];exact zA.upd1 hT0
   have sm4:=sm.trans s4
   have F4:=FH.same s4
   have hAra:HA ra=some (.dK (z0 id kv)):=hAx _ _ rne g3
   have hra4:=sm4 _ _ hAra
   have e14:Rd H4 pd (.dK kvs2):=by
    rcases e1 with e1|⟨o',e1⟩
    ·exact .inl (sm4 _ _ (hAx _ _ pdl e1))
    ·exact .inr ⟨o',sm4 _ _ (hAx _ _ pdl e1)⟩
   have dg4:vV H4 pd (sv r0.1) (some (.ref ra)):=.inl ⟨kvs2,Sum.inr (tx r0.1),e14,rfl,e2.symm⟩
   refine⟨ra,_,hra4,?_⟩
   refine⟨_,rfl,_,rfl,pd,.ref ra,rfl,dg4,.inr (.inr (.inl ⟨rfl,.inl ⟨_,hra4⟩⟩)),ra,_,rfl,rfl,hra4,fun p2 hp2=>?_⟩
   have s5:zA H4 (upd H4 p2 (VW p2 ra)):=zA.upd1 hp2
   refine⟨p2,ra,_,rfl,zE,s5 _ _ hra4,fun ob2=>?_⟩
   have rafo:fo≠ra:=fun z=>by rw[<-z,hfo]at g3;cases g3
   have hra0:H ra≠none:=by rw[g3];simp
   have F5:FA K H (upd (upd H4 p2 (VW p2 ra)) ra (.frz ob2 (.dK (z0 id kv)))) fo (vC C0) fa:=(F4.same s5).other uQ (zAJ (s5 _ _ hra4)) rafo hra0
   generalize hHB:upd HA ra (.frz ob2 (.dK (z0 id kv)))=HB
   have hBra:HB ra=some (.frz ob2 (.dK (z0 id kv))):=by rw[<-hHB,zE]
   have hBx:zX ra HA HB:=by rw[<-hHB];exact uQ
   have s5B:zA HB (upd (upd H4 p2 (VW p2 ra)) ra (.frz ob2 (.dK (z0 id kv)))):=fun b u e=>by
    by_cases hb':b=ra
    ·subst hb';rw[hBra]at e;rw[zE];exact e
    ·rw[<-hHB,zG hb']at e
     rw[zG hb']
     exact s5 _ _ (sm4 _ _ e)
   generalize upd (upd H4 p2 (VW p2 ra)) ra (.frz ob2 (.dK (z0 id kv)))=H5 at F5 s5B
   have hkl:kv.length<=(zB o bk).length:=by
    have h1:=zDy (zB o bk) r0.1
    have h2:(kv.map (·.1)).length=((uC (zB o bk) r0.1).map (·.1)).length:=by rw[g4]
    rw[ah,ah]at h2
    omega
   have prB:v5 K HB r0.2.1 r0.2.2:=((l3 r0 hmem).2.sameX hAx (zAJ l2) (l3 r0 hmem).1).sameX hBx (zAJ hAra) fun z=>by
    obtain⟨ts,h1,_⟩:=(l3 r0 hmem).2
    rw[z,g3]at h1;cases h1
   have frB:∀q∈kv,vA K HB q.2 (ff r0.1 q.1):=fun q hq=>hBx.frA (zAJ hAra) (hAx.frA (zAJ l2) (g5 q hq))
   refine zBz (fun j σ H6=>(∃x8 x9 x10:Option V,σ=[some (.ref pd),some (.int o),some (.ref ld),some (sv x),some (.int n),some (.ref fo),some (sv r0.1),some (.ref r0.2.1),x8,x9,x10])/\zA HB H6/\
     ∃fa,FA K H H6 fo (vC (C0++(((zU (zB o bk) r0.1).take j).filter (mf x)).map fun l=>(zW (r0.1++l) o,k7 ff r0.1 l r0.2.2))) fa)
    ⟨⟨_,_,_,rfl⟩,s5B,fa,by simpa using F5⟩ (fun j σ H6 _ h=>h.2.1 _ _ hBra) ?_ ?_
   ·rintro j q T2 σ H6 Nx2 hN2 hq ⟨⟨x8,x9,x10,rfl⟩,sm6,fa6,FA6⟩ hT2
    unfold z0 vS at hq
    rw[aw,aw]at hq
    cases el:kv[j]? with
    |none=>rw[el]at hq;cases hq
    |some q0=>
    rw[el]at hq
    have hq2:q=(Sum.inr (tx q0.1),q0.2):=(aD hq).symm
    subst hq2
    have hqm:q0∈kv:=aZ el
    have hnx:(zU (zB o bk) r0.1)[j]?=some q0.1:=by rw[<-g4,aw,el];rfl
    have hj:j<(zU (zB o bk) r0.1).length:=(ai.mp hnx).1
    have hlm:q0.1∈zU (zB o bk) r0.1:=aZ hnx
    have hl1:q0.1.length<=1:=gN ((qT _ _ _).mp hlm)
    have etk2:(zU (zB o bk) r0.1).take (j+1)=(zU (zB o bk) r0.1).take j++[q0.1]:=by
     rw[aB hj,(ai.mp hnx).2]
    refine⟨T2,[sv q0.1,q0.2],rfl,.of zE,rfl,_,_,rfl,_,_,rfl,rfl,?_⟩
    generalize hH7:upd H6 T2 (HO.tup [kV ((Sum.inr (tx q0.1):zJ),q0.2).1,((Sum.inr (tx q0.1):zJ),q0.2).2])=H7
    have s7:zA H6 H7:=by rw[<-hH7];exact zA.upd1 hT2
    refine⟨_,rfl,_,rfl,q0.1,x,rfl,fun H8 s8=>⟨mf x q0.1,rfl,?_⟩⟩
    have s78:=s7.trans s8
    have FA8:=FA6.same s78
    have sm8:=sm6.trans s78
    refine zFy (fun hm=>?_) (fun hm=>?_)
    ·generalize hLL:C0++(((zU (zB o bk) r0.1).take j).filter (mf x)).map (fun l=>(zW (r0.1++l) o,k7 ff r0.1 l r0.2.2))=LL at FA8
     have etk3:C0++(((zU (zB o bk) r0.1).take (j+1)).filter (mf x)).map (fun l=>(zW (r0.1++l) o,k7 ff r0.1 l r0.2.2))=LL++[(zW (r0.1++q0.1) o,k7 ff r0.1 q0.1 r0.2.2)]:=by
      rw[etk2,c6,aQ,<-dG,hLL]
      simp[hm]
     have hLn:LL.length<=5256:=by
      rw[<-hLL,au,ah]
      have h1:=bX (mf x) ((zU (zB o bk) r0.1).take j)
      have h2:=zEG (ps:=zB o bk) r0.1
      rw[aI]at h1
      omega
     have hL9:∀r∈LL,r.2.length<=900:=fun r hr=>by
      rw[<-hLL]at hr
      rcases bw.mp hr with z|z
      ·exact hC9 r z
      ·obtain⟨l,_,rfl⟩:=av.mp z
       show(k7 ff r0.1 l r0.2.2).length<=900
       unfold k7;rw[ah];exact hl900
     have ndL:=(zAo LL).1
     generalize he:zW (r0.1++q0.1) o=e at etk3
     generalize hqs:k7 ff r0.1 q0.1 r0.2.2=qs at etk3
     have hBn:∀b,H b=none->HB b=none:=fun b hb0=>by
      rw[<-hHB,zG (fun z=>by rw[z]at hb0;exact hra0 hb0),<-hHA,zG (fun z=>by rw[z,l2]at hb0;cases hb0)];exact hb0
     refine zEF (fun σ' H9=>∃(la2:ak) (prs:zH) (g:List (S×zH)) (fa9:List (S×ak×zH)),σ'=[some (.ref pd),some (.int o),some (.ref ld),some (sv x),some (.int n),some (.ref fo),some (sv r0.1),some (.ref r0.2.1),some (sv q0.1),some q0.2,some (.ref la2)]/\zA HB H9/\FA K H H9 fo g fa9/\(g.map (·.1)).Nodup/\zM fa9 e=some (la2,prs)/\prs.length<=900*5256/\vC (LL++[(e,qs)])=zP g e (prs++qs)) ?_ ?_
     ·rintro σ' H9 ⟨la2,prs,g,fa9,rfl,sm9,F9,nd9,hg9,hpl,hag⟩
      have ndf:(fa9.map (·.1)).Nodup:=by rw[F9.keys];exact nd9
      have hmm:(e,la2,prs)∈fa9:=(vK ndf _ _).mpr hg9
      obtain⟨ts,t1,t2,t3⟩:=F9.row _ hmm
      have t2:ts.length=prs.length:=t2
      obtain⟨tl,p1,p2,p3⟩:=prB.same sm9
      refine⟨_,rfl,.inl ⟨rfl,_,.of t1⟩,_,rfl,r0.2.1,rfl,⟨_,.of p1⟩,?_⟩
      refine j7 (jD K r0.2.1 tl) [some (sv q0.1),some q0.2] 2 (by rw[p2];omega) (fun m acc H10=>zA H9 H10/\acc.length=m/\∀(m':Nat) (p:Int×S),m'<m->qs[m']?=some p->∃a,acc[m']?=some (.ref a)/\zY K H10 a [.int p.1,sv p.2])
       ⟨zA.refl _,rfl,fun m' p h=>absurd h (mN _)⟩ (fun m acc H10 _ h=>⟨.of (h.1 _ _ p1),by rw[h.2.1];exact ay _⟩) ?_ ?_
      ·rintro m y acc H10 ys Nx3 hN3 hy hys ⟨s10,al,hacc⟩
       obtain⟨y1,y2,rfl⟩:=zBQ hys
       have hm1:m<r0.2.2.length:=by rw[<-p2];exact(ai.mp hy).1
       obtain⟨a,a1,a2⟩:=p3 m r0.2.2[m] (aq hm1)
       rw[hy]at a1
       cases a1
       generalize hpm:r0.2.2[m]=pm at a2
       have hpl60:pm.2.length<=60:=by rw[<-hpm];exact hl60 _ (c9 hm1)
       have hqm2:qs[m]?=some (yB pm.1 (ff r0.1 q0.1),pm.2++q0.1):=by
        rw[<-hqs];unfold k7
        rw[aw,aq hm1,hpm];rfl
       obtain⟨b1,b2,b3,b4⟩:=hS r0.1 q0.1
       have fr10:vA K H10 q0.2 (ff r0.1 q0.1):=((frB q0 hqm).same sm9).same s10
       refine⟨a,[.int pm.1,sv pm.2],rfl,s10.seqT a2,rfl,_,_,rfl,_,_,rfl,rfl,?_⟩
       refine⟨_,rfl,_,rfl,pm.1,q0.2,ff r0.1 q0.1,rfl,fr10,b1,b2,b3,b4,?_⟩
       refine⟨_,rfl,_,rfl,tx pm.2,tx q0.1,rfl,rfl,by rw[z9,z9,aF];omega,?_⟩
       refine⟨by show 2<=_;rw[aF];omega,fun a9 ha9=>hN3 _ _ [some (.int pm.1),some (sv pm.2)] rfl ⟨s10.trans (zA.upd1 ha9),by rw[au,al];rfl,fun m' p hm' hp'=>?_⟩⟩
       by_cases hmm2:m'=m
       ·subst hmm2
        rw[hqm2]at hp'
        cases hp'
        refine⟨a9,by rw[aP (by omega),al,gv];rfl,.inl (.of ?_)⟩
        rw[zE,zHM]
       ·obtain⟨a',z1,z2⟩:=hacc m' p (by omega) hp'
        exact⟨a',by rw[aT (by omega)];exact z1,(zA.upd1 ha9).seqT z2⟩
      ·rintro acc H10 ⟨s10,al,hacc⟩ D hD
       have sD:zA H10 (upd H10 D (.lst acc)):=zA.upd1 hD
       have hqn:qs.length=r0.2.2.length:=by rw[<-hqs];unfold k7;rw[ah]
       have s11:=s10.trans sD
       refine⟨la2,D,ts,acc,rfl,rfl,s11 _ _ t1,zE,by rw[t2,al,p2,aF];omega,hN2 _ _ ⟨⟨_,_,_,rfl⟩,(sm9.trans s11).upd_new (hBn _ (F9.new _ hmm).1),zP fa9 e (la2,prs++qs),?_⟩⟩
       rw[etk3,hag]
       refine(F9.same s11).ext nd9 hg9 uQ ⟨ts++acc,zE,by rw[au,au,t2,al,p2,hqn],fun i' p hi'=>?_⟩
       have nt:∀ys,¬Rd (upd H10 D (.lst acc)) la2 (.tup ys):=by
        have h1:=s11 _ _ t1
        rintro ys (z|⟨o',z⟩)
        ·rw[h1]at z;cases z
        ·rw[h1]at z;cases z
       by_cases hlt:i'<prs.length
       ·rw[aT hlt]at hi'
        obtain⟨a,z1,z2⟩:=t3 i' p hi'
        exact⟨a,by rw[aT (by omega)];exact z1,(uQ (u:=.lst (ts++acc))).seqT nt (s11.seqT z2)⟩
       ·rw[aP (by omega)]at hi'
        have hb2:=(ai.mp hi').1
        obtain⟨a,z1,z2⟩:=hacc (i'-prs.length) p (by omega) hi'
        exact⟨a,by rw[aP (by omega),t2];exact z1,(uQ (u:=.lst (ts++acc))).seqT nt (sD.seqT z2)⟩
     ·intro N hN'
      have hcl:(tx r0.1).length+(tx q0.1).length<=sizeLine:=by rw[z9,z9,aF];omega
      have hll:(r0.1++q0.1).length<=64:=by rw[au];omega
      have hfl:fa6.length<=5256:=by
       have h1:=zHo LL
       rw[<-FA8.rows,ah]at h1;omega
      refine⟨_,rfl,.inr (.inr (.inl ⟨rfl,.inl ⟨_,FA8.top⟩⟩)),_,rfl,_,rfl,tx r0.1,tx q0.1,rfl,rfl,hcl,_,rfl,r0.1++q0.1,o,by rw[zHM];rfl,hb.o1,hll,bp _,fun l9 hl9=>?_⟩
      have s9:zA H8 (upd H8 l9 (.lst [])):=zA.upd1 hl9
      have hl9s:upd H8 l9 (.lst []) l9=some (.lst []):=zE
      generalize upd H8 l9 (.lst [])=H9 at s9 hl9s
      have F9:=FA8.same s9
      have hval:v3 (z0 (fun v:ak×zH=>V.ref v.1) fa6) (Sum.inr (tx e))=(zM fa6 e).map fun v=>V.ref v.1:=kZ _ _ _
      rw[he]
      refine⟨fo,_,Sum.inr (tx e),_,rfl,rfl,F9.top,by rw[jQ,aF];omega,fun yv hyv=>?_,fun hnv=>?_⟩
      ·rw[hval]at hyv
       cases hg:zM fa6 e with
       |none=>rw[hg]at hyv;cases hyv
       |some u=>
        rw[hg]at hyv
        have:yv=.ref u.1:=(aD hyv).symm
        subst this
        have hgg:zM (vC LL) e=some u.2:=by rw[F9.get,hg];rfl
        refine hN' _ _ ⟨u.1,u.2,_,fa6,rfl,sm8.trans s9,F9,ndL,hg,?_,by rw[zHm,hgg];rfl⟩
        have h1:=zOc hL9 _ ((vK ndL _ _).mpr hgg)
        exact bR h1 (nM _ hLn)
      ·rw[hval]at hnv
       have hg:zM fa6 e=none:=by
        cases hg:zM fa6 e with
        |none=>rfl
        |some u=>rw[hg]at hnv;cases hnv
       have hgg:zM (vC LL) e=none:=by rw[F9.get,hg];rfl
       have hl9H:H l9=none:=by
        cases z:H l9 with
        |none=>rfl
        |some u=>
         exfalso
         have:HB l9≠none:=by
          rw[<-hHB,<-hHA]
          by_cases y1:l9=ra
          ·rw[y1,zE];simp
          ·rw[zG y1]
           by_cases y2:l9=ld
           ·rw[y2,zE];simp
           ·rw[zG y2,z];simp
         cases y:HB l9 with
         |none=>exact this y
         |some u'=>rw[sm8 _ _ y]at hl9;cases hl9
       have hl9f:l9≠fo:=fun z=>by rw[z,FA8.top]at hl9;cases hl9
       refine hN' _ _ ⟨l9,[],zP (vC LL) e [],zP fa6 e (l9,[]),rfl,(sm8.trans s9).upd_new (hBn _ hfo),F9.put ndL ⟨[],hl9s,rfl,fun i' p hi'=>by cases hi'⟩ hl9H (fun r hr z=>?_) hl9f uQ zE,gL ndL,by rw[zAg,if_pos rfl],by simp,by rw[zHm,hgg,zOb];rfl⟩
       obtain⟨ts,t1,_⟩:=FA8.row r hr
       rw[z,hl9]at t1;cases t1
    ·have hm':mf x q0.1=false:=by simpa using hm
     refine hN2 _ _ ⟨⟨_,_,_,rfl⟩,sm8,fa6,?_⟩
     rw[etk2,c6]
     simpa [hm']using FA8
   ·rintro σ H6 ⟨⟨x8,x9,x10,rfl⟩,sm6,fa6,FA6⟩
    refine⟨ob2,sm6 _ _ hBra,hN _ _ ⟨⟨_,_,_,_,_,rfl⟩,zA.thaw (by rw[hHB];exact sm6) hAra,fa6,?_⟩⟩
    have e1:(z0 id kv).length=(zU (zB o bk) r0.1).length:=by
     rw[jQ,<-g4,ah]
    rw[e1,bo]at FA6
    rw[etk]
    exact FA6.other uQ (zEE (sm6 _ _ hBra)) rafo hra0
  ·rintro σ H' ⟨⟨x6,x7,x8,x9,x10,rfl⟩,sm,fa,FH⟩
   refine⟨ob,sm _ _ hAld,?_⟩
   have ekl:kvs.length=ly.length:=by rw[<-hkv,jQ,<-l1,ah]
   rw[ekl,bo]at FH
   have hgo':=hgo
   have ndg:=(zAo (ly.flatMap (y8 (zU (zB o bk)) ff o x))).1
   have hgl:(vC (ly.flatMap (y8 (zU (zB o bk)) ff o x))).length<=5184:=by
    have h1:=zHo (ly.flatMap (y8 (zU (zB o bk)) ff o x))
    have h2:=zAp (y8 (zU (zB o bk)) ff o x) 72 ly fun a _=>zHq (bR (zEG a.1) h72)
    omega
   have k':∀fo H',zX T H H'->yX T H'->H fo=none->zBR K H' fo ((vC (ly.flatMap (y8 (zU (zB o bk)) ff o x))).map fun r=>(r.1,vG n r.2))->Q (.ref fo) H':=k
   generalize vC (ly.flatMap (y8 (zU (zB o bk)) ff o x))=g at FH hgo' k' ndg hgl
   have hld0:H ld≠none:=by rw[l2];simp
   have F1:FA K H (upd H' ld (.dK kvs)) fo g fa:=FH.other uQ (zEE (sm _ _ hAld)) hlfo hld0
   have s1:zA H (upd H' ld (.dK kvs)):=zA.thaw (by rw[hHA];exact sm) l2
   generalize upd H' ld (.dK kvs)=H1 at F1 s1
   have efa:fa.map (fun p:S×ak×zH=>V.str (tx p.1))=(g.map (·.1)).map sv:=by
    rw[<-F1.rows,aU,aU];rfl
   obtain⟨qs,hT⟩:=kH tab
   have hT0:H T≠none:=by rw[hT];simp
   have hTfo:fo≠T:=(yG hT hfo).symm
   refine⟨_,rfl,fo,fa.map (fun p:S×ak×zH=>(tx p.1,V.ref p.2.1)),rfl,F1.top,fun L hL=>?_⟩
   refine⟨L,rfl,⟨_,.of zE⟩,?_⟩
   have eL:(fa.map (fun p:S×ak×zH=>(tx p.1,V.ref p.2.1))).map (fun p:Str×V=>V.str p.1)=(g.map (·.1)).map sv:=by rw[aU];exact efa
   rw[eL]
   have s2:zA H1 (upd H1 L (.lst ((g.map (·.1)).map sv))):=zA.upd1 hL
   have hLs:upd H1 L (.lst ((g.map (·.1)).map sv)) L=some (.lst ((g.map (·.1)).map sv)):=zE
   have hLH:H L=none:=s1.free hL
   have hLT:L≠T:=fun z=>by rw[z,hT]at hLH;cases hLH
   have hLf:L≠fo:=fun z=>by rw[z,F1.top]at hL;cases hL
   generalize upd H1 L (.lst ((g.map (·.1)).map sv))=H2 at s2 hLs
   have F2:=F1.same s2
   refine j8 (jD K L ((g.map (·.1)).map sv)) (fun i σ H3=>(∃x6 x7 x8 x9 x10:Option V,σ=[some (.ref pd),some (.int o),some (.ref ld),some (sv x),some (.int n),some (.ref fo),x6,x7,x8,x9,x10])/\zX T H H3/\yX T H3/\H3 L=some (.lst ((g.map (·.1)).map sv))/\
     ∃fa,FA K H H3 fo ((g.take i).map (fun r=>(r.1,vG n r.2))++g.drop i) fa)
    ⟨⟨_,_,_,_,_,rfl⟩,zX.of (s1.trans s2),uJ tab (s1.trans s2),hLs,fa,by simpa using F2⟩ (fun i σ H3 _ h=>.of h.2.2.2.1) ?_ ?_
   ·rintro i y σ H3 Nx hNx hy ⟨⟨x6,x7,x8,x9,x10,rfl⟩,sx,tb,hL3,fa3,F3⟩
    rw[aw,aw]at hy
    cases ei:g[i]? with
    |none=>rw[ei]at hy;cases hy
    |some r0=>
    rw[ei]at hy
    have hy2:y=sv r0.1:=(aD hy).symm
    subst hy2
    have hi:i<g.length:=(ai.mp ei).1
    have er:g[i]=r0:=(ai.mp ei).2
    have hdr:g.drop i=r0::g.drop (i+1):=by rw[lg hi,er]
    have hkeys:((g.take i).map (fun r=>(r.1,vG n r.2))++g.drop i).map (·.1)=g.map (·.1):=by
     rw[aQ,aU]
     show(g.take i).map (·.1)++(g.drop i).map (·.1)=_
     rw[<-aQ,eT]
    have nd3:(((g.take i).map (fun r=>(r.1,vG n r.2))++g.drop i).map (·.1)).Nodup:=by rw[hkeys];exact ndg
    have hnot:r0.1∉((g.take i).map (fun r=>(r.1,vG n r.2))).map (·.1):=by
     rw[hdr,aQ,aR]at nd3
     exact fun z=>(gi.mp nd3).2.2 _ z _ (az ..) rfl
    have hm3:(r0.1,r0.2)∈(g.take i).map (fun r=>(r.1,vG n r.2))++g.drop i:=by
     rw[hdr];exact aX _ (az ..)
    have hget:(zM fa3 r0.1).map (·.2)=some r0.2:=by rw[<-F3.get];exact(vK nd3 _ _).mp hm3
    cases hg:zM fa3 r0.1 with
    |none=>rw[hg]at hget;cases hget
    |some u=>
    rw[hg]at hget
    have hu2:u.2=r0.2:=aD hget
    have ndf:(fa3.map (·.1)).Nodup:=by rw[F3.keys];exact nd3
    have hmm:(r0.1,u.1,u.2)∈fa3:=(vK ndf _ _).mpr hg
    have hpa:=F3.row _ hmm
    have hpa':v5 K H3 u.1 r0.2:=by rw[<-hu2];exact hpa
    obtain⟨hnd,h64⟩:=hgo' r0 (aZ ei)
    have dg:vV H3 fo (sv r0.1) (some (.ref u.1)):=by
     have:=vV.k (k:=Sum.inr (tx r0.1)) F3.top
     rw[kZ,hg]at this
     exact this
    refine⟨_,rfl,_,rfl,fo,.ref u.1,rfl,dg,_,rfl,u.1,r0.2,n,rfl,hpa',hnd,h64,hn,tb,fun D H4 rs sx4 tb4 hD4 srt pa4=>?_⟩
    rw[zCG srt]at pa4
    have F4:FA K H H4 fo ((g.take i).map (fun r=>(r.1,vG n r.2))++g.drop i) fa3:=F3.other sx4 (zAI tb) hTfo hT0
    have hDH:H D=none:=by
     cases z:H D with
     |none=>rfl
     |some v=>
      exfalso
      by_cases hDT:D=T
      ·obtain⟨qs',hT'⟩:=kH tb
       rw[hDT,hT']at hD4;cases hD4
      ·rw[sx _ _ hDT z]at hD4;cases hD4
    have hDf:D≠fo:=fun z=>by rw[z,F3.top]at hD4;cases hD4
    have hDL:D≠L:=fun z=>by rw[z,hL3]at hD4;cases hD4
    have hfl:fa3.length<=5184:=by
     have h1:=congrArg eE F3.keys
     rw[hkeys,ah,ah]at h1;omega
    refine⟨_,rfl,_,rfl,fo,_,rfl,g8.k (k:=Sum.inr (tx r0.1)) F4.top (by rw[jQ,aF];omega),hNx _ _ ⟨⟨_,_,_,_,_,rfl⟩,?_,?_,?_,zP fa3 r0.1 (D,vG n r0.2),?_⟩⟩
    ·intro b v hb' e
     rw[zG (yG e hfo)]
     exact sx4 _ _ hb' (sx _ _ hb' e)
    ·rcases tb4 with z|⟨c',oc,u',vs',t',z1,z2,z3⟩
     ·exact .inl (by rw[zG hTfo.symm];exact z)
     ·refine .inr ⟨c',oc,u',vs',t',by rw[zG hTfo.symm];exact z1,?_,z3⟩
      rw[zG (fun y=>by rw[y,F4.top]at z2;cases z2)];exact z2
    ·rw[zG hLf];exact sx4 _ _ hLT hL3
    ·have e3:(g.take (i+1)).map (fun r=>(r.1,vG n r.2))++g.drop (i+1)=zP ((g.take i).map (fun r=>(r.1,vG n r.2))++g.drop i) r0.1 (vG n r0.2):=by
      rw[hdr,show r0=(r0.1,r0.2)from rfl,zHr _ _ _ _ _ hnot,aB hi,er,aQ,dG];rfl
     rw[e3]
     refine F4.put nd3 pa4 hDH (fun r hr z=>?_) hDf uQ zE
     obtain⟨ts,t1,_⟩:=F3.row r hr
     rw[z,hD4]at t1;cases t1
   ·rintro σ H3 ⟨⟨x6,x7,x8,x9,x10,rfl⟩,sx,tb,hL3,fa3,F3⟩
    rw[ah,ah,bo,List.drop_length,eY]at F3
    exact⟨_,rfl,k' fo H3 sx tb hfo ⟨fa3,F3.rows,F3.top,fun r hr=>⟨(F3.new r hr).2,F3.row r hr⟩⟩⟩
end
theorem zOf (n:Nat)(ps:zH):(vG n ps).length<=n:=by
 unfold vG
 split
 ·rw[aI];omega
 ·simp
theorem zOg {n:Nat}{ps:zH}{q:Int×S}(h:q∈vG n ps):q∈ps:=by
 unfold vG at h
 split at h
 ·rename_i a
  exact(mU a).1.mem_iff.mp (cf h)
 ·cases h
theorem zHv:∀(L a:List (S×zH)),(a.map (·.1)).Nodup->∀r∈L.foldl yZ a,∀q∈r.2,(∃s∈a,s.1=r.1/\q∈s.2)\/∃s∈L,s.1=r.1/\q∈s.2
 | [],a,_,r,c,q,d=>.inl ⟨r,c,rfl,d⟩
 |p::L,a,nd,r,c,q,d=>by
  rcases zHv L (yZ a p) (gL nd) r c q d with⟨s,e,e1,b⟩|⟨s,e,e1,b⟩
  ·rcases kB e with z|⟨z,_⟩
   ·rw[z]at e1 b
    rcases bw.mp b with y|y
    ·cases f:zM a p.1 with
     |none=>rw[f]at y;cases y
     |some u=>
      rw[f]at y
      exact .inl ⟨(p.1,u),(vK nd _ _).mpr f,e1,y⟩
    ·exact .inr ⟨p,az ..,e1,y⟩
   ·exact .inl ⟨s,z,e1,b⟩
  ·exact .inr ⟨s,aC _ e,e1,b⟩
theorem zOh {L:List (S×zH)}{r:S×zH}(a:r∈vC L){q:Int×S}(b:q∈r.2):∃s∈L,s.1=r.1/\q∈s.2:=by
 rcases zHv L [] (by simp) r a q b with⟨s,c,_⟩|h
 ·cases c
 ·exact h
theorem zOi {o:Nat}{bk:List S}{f:S->S->Int×Int}{x:S}{p q:S×zH}(d:q∈y8 (zU (zB o bk)) f o x p):∃l,(q.1,l)∈zB o bk:=by
 obtain⟨l,hl,rfl⟩:=av.mp d
 obtain⟨e,a⟩:=aL.mp hl
 have b:=(qT _ _ _).mp e
 have g:l≠[]:=fun z=>by
  unfold mf at a
  rw[z]at a;simp at a
 obtain⟨c,rfl⟩:=zAG (gN b) g
 exact zNj b
theorem zEI (ps:List (S×S))(e:S):(zU ps e).Nodup:=zAk ps e
structure LyOk (ps:List (S×S)) (i:Nat) (ly:List (S×zH)):Prop where
 nd:(ly.map (·.1)).Nodup
 row:∀r∈ly,(∃l,(r.1,l)∈ps)/\r.2.length<=900/\∀q∈r.2,q.2.length<=i
theorem LyOk.len {ps:List (S×S)}{i:Nat}{a:List (S×zH)}(h:LyOk ps i a):a.length<=ps.length:=by
 have b:=qB (a.map (·.1)) (ps.map (·.1)) h.nd fun e c=>by
  obtain⟨p,d,rfl⟩:=av.mp c
  obtain⟨⟨l,hl⟩,_⟩:=h.row p d
  exact av.mpr ⟨_,hl,rfl⟩
 rw[ah,ah]at b
 exact b
theorem LyOk.step {o n i:Nat}{bk:List S}{f:S->S->Int×Int}{c:List (S×zH)}{x:S}(h:LyOk (zB o bk) i c)(t:n<=900):LyOk (zB o bk) (i+1) (zAK (zB o bk) f o n c x):=by
 have g:=zAo (c.flatMap (y8 (zU (zB o bk)) f o x))
 refine⟨?_,fun r u=>?_⟩
 ·unfold zAK
  rw[aU]
  exact g.1
 ·obtain⟨j,b,rfl⟩:=av.mp u
  refine⟨?_,bR (zOf _ _) t,fun q v=>?_⟩
  ·obtain⟨s,a,e⟩:=av.mp (g.2 j.1 (av.mpr ⟨j,b,rfl⟩))
   obtain⟨p,_,a⟩:=bf.mp a
   obtain⟨l,hl⟩:=zOi a
   exact⟨l,by rw[<-e];exact hl⟩
  ·obtain⟨s,a,_,hq2⟩:=zOh b (zOg v)
   obtain⟨p,w,a⟩:=bf.mp a
   obtain⟨l,hl,rfl⟩:=av.mp a
   obtain⟨m,d,rfl⟩:=av.mp hq2
   have y:=(h.row p w).2.2 m d
   have z:=gN ((qT _ _ _).mp (aL.mp hl).1)
   show(m.2++l).length<=i+1
   rw[au];omega
noncomputable def qJ (ps:List (S×S)) (f:S->S->Int×Int) (o n:Nat) (wt:Int) (pat:List S):List (S×zH):=pat.foldl (fun ly x=>zAK ps f o n ly x) [([],[(wt,[])])]
theorem zEJ (ps:List (S×S))(f:S->S->Int×Int)(o n:Nat)(a:Int)(pat:List S)(x:S):qJ ps f o n a (pat++[x])=zAK ps f o n (qJ ps f o n a pat) x:=by
 unfold qJ;rw[fg];rfl
def jS (ps:List (S×S))(f:S->S->Int×Int)(r:S×zH):zH:=if(r.1,[])∈ps then r.2.map fun q=>(yB q.1 (f r.1 []),q.2)else []
def vZ (ps:List (S×S))(f:S->S->Int×Int)(ly:List (S×zH)):zH:=ly.flatMap (jS ps f)
structure HvOk (ps:List (S×S)) (f:S->S->Int×Int) (o n:Nat) (wt:Int) (pat:List S):Prop where
 step:∀i,i<pat.length->∀r∈vC ((qJ ps f o n wt (pat.take i)).flatMap (y8 (zU ps) f o (pat.getD i []))),r.2.Nodup/\r.2.length<64
 fin:(vZ ps f (qJ ps f o n wt pat)).Nodup/\(vZ ps f (qJ ps f o n wt pat)).length<64
section
variable{P:aJ}{w:aY}{K:ag}{mg:Str->Option aj}{base:bE}
abbrev sHA:c8:=top 38
theorem zHw:FnScope ["parts","order","weight","pattern","many","layer","wanted","ended","end","pairs"] ["parts","order","weight","pattern","many"] (defScope sHA):=yE
theorem zHx:(["end","parts","heavy","text"]:List Str).Nodup:=by decide+kernel
def zHy (K:ag)(T:ak):Sp:=fun vs H Q _=>∃(pd pl:ak) (o n:Nat) (bk:List S) (f:S->S->Int×Int) (wt:Int) (pat:List S),vs=[.ref pd,.int o,.int wt,.ref pl,.int n]/\Bk bk o/\k6 K H pd (zB o bk) f/\Smf f/\H pl=some (.lst (pat.map sv))/\pat.length<=50/\n<=900/\yX T H/\
 HvOk (zB o bk) f o n wt pat/\∀D H',zX T H H'->yX T H'->H D=none->v5 K H' D (vG n (vZ (zB o bk) f (qJ (zB o bk) f o n wt pat)))->Q (.ref D) H'
theorem zOj {f T:ak}{fd:bg}(F:Fun K "heaviest_along" "heaviest_along" sHA f fd)(cN:zV P w K mg base 2 "next_heaviest" ["parts","order","layer","wanted","many"] (zHu K T))(cL:zV P w K mg base 1 "left_of" ["weight","part"] (zEA K))
  (cH:zV P w K mg base 1 "heaviest" ["pairs","many"] (zCD K T)):FnOk P w K mg base z7 3 f fd ["parts","order","weight","pattern","many"] (zHy K T):=by
 refine F.ok zHw (fun vs H Q E h=>?_) (fun cdv A outer s H vs Q E hr h=>?_)
 ·obtain⟨pd,pl,o,n,bk,f,wt,pat,rfl,_⟩:=h;rfl
 ·obtain⟨pd,pl,o,n,bk,ff,wt,pat,rfl,hb,hP,hS,hpl,hpn,hn,tab,hv,k⟩:=h
  have hu:=zAc hr
  have nd:=zHw.nd
  have r1:=hr.mono (j:=1) (by decide)
  refine⟨_,zQ (yH (i:=5) nd rfl (Or.inl rfl) (zOC y9 (uG (zC (v9 (zC (pv 2) (zC y9 zD))) zD))))
   (zQ (uE bM rfl (jA (pv 3)) (z8 (i:=6) nd rfl (Or.inl rfl))
     (zK (yH (i:=5) nd rfl (Or.inl rfl) (zT cN hr rfl (zC (pv 0) (zC (pv 1) (zC (pv 5) (zC (pv 6) (zC (pv 4) zD)))))))))
   (zQ (yH (i:=7) nd rfl (Or.inl rfl) (uG zD))
   (zQ (zBM (uE bM rfl (zBy (zBL K rfl cn d9 fJ zBl (pv 5)))
     (kO rfl (yW (z8 (i:=8) nd rfl (Or.inr rfl)) (yW (z8 (i:=9) nd rfl (Or.inl rfl)) uS)))
     (zK (yV (zFF (zLS hu y9 (zAb hu (pv 0) (pv 8) (fun _ _=>rfl))))
      (zK (q8 (jM ee fB fC zBc (pv 7) (zC
       (uY (N:=["end","parts","heavy","text"]) (caps:=[8,0]) rfl (uH (by kernel_rfl)) (jA (pv 9))
        (fun cl X s H ex=>zAF K 2 rfl rfl (yW (z8 (i:=2) zHx rfl (Or.inl rfl)) (yW (z8 (i:=3) zHx rfl (Or.inl rfl)) uS)) rfl rfl) (fun cl X s H ex=>qP)
        (fun cl X s H ex=>v9 (zC (zT cL r1 rfl (zC (pv 2) (zC (zAb hu (zAb hu (pv 1) (pv 0) (fun _ _=>rfl)) y9 (fun _ _=>rfl)) zD))) (zC (pv 3) zD)))) zD))))
      yU))))
   (zK (z6 (zT cH r1 rfl (zC (pv 7) (zC (pv 4) zD)))))))),?_⟩
  obtain⟨qs0,hT⟩:=kH tab
  have hT0:H T≠none:=by rw[hT];simp
  have fresh:∀{H':Hp} {b:ak},zX T H H'->yX T H'->H' b=none->H b=none:=fun{H' b} sx tb hb0=>by
   cases z:H b with
   |none=>rfl
   |some u=>
    exfalso
    by_cases hbT:b=T
    ·obtain⟨qs',hT'⟩:=kH tb
     rw[hbT,hT']at hb0;cases hb0
    ·rw[sx _ _ hbT z]at hb0;cases hb0
  have hplT:pl≠T:=fun z=>by rw[z,hT]at hpl;cases hpl
  have h72:=zHj hb
  intro ld0 hld0
  refine⟨_,rfl,by show 2<=_;rw[aF];omega,fun ta hta=>⟨by show 1<=_;rw[aF];omega,fun la0 hla0=>⟨?_,Sum.inr (tx []),rfl,?_⟩⟩⟩
  ·rw[zG (fun z=>by subst z;rw[zG (fun y=>by subst y;rw[zE]at hta;cases hta),zE]at hla0;cases hla0),zG (fun y=>by subst y;rw[zE]at hta;cases hta),zE]
  have sa:zA H (upd H ld0 (.dK [])):=zA.upd1 hld0
  have ltne:ld0≠ta:=fun y=>by rw[<-y,zE]at hta;cases hta
  have sb:zA (upd H ld0 (.dK [])) (upd (upd H ld0 (.dK [])) ta (.tup [.int wt,.str ""])):=zA.upd1 hta
  have hta1:upd (upd H ld0 (.dK [])) ta (.tup [.int wt,.str ""]) ta=some (.tup [.int wt,.str ""]):=zE
  have hld1:upd (upd H ld0 (.dK [])) ta (.tup [.int wt,.str ""]) ld0=some (.dK []):=sb _ _ zE
  generalize upd (upd H ld0 (.dK [])) ta (.tup [.int wt,.str ""])=Ht at hla0 sb hta1 hld1
  have lne:ld0≠la0:=fun z=>by rw[<-z,hld1]at hla0;cases hla0
  have hldH:H ld0=none:=hld0
  have s1:zA H (upd (upd Ht la0 (.lst [.ref ta])) ld0 (.dK [((Sum.inr (tx []):zJ),V.ref la0)])):=fun b u e=>by
   rw[zG (yG e hld0),zG (yG (sb _ _ (sa _ _ e)) hla0)];exact sb _ _ (sa _ _ e)
  have ly1:zBR K (upd (upd Ht la0 (.lst [.ref ta])) ld0 (.dK [((Sum.inr (tx []):zJ),V.ref la0)])) ld0 [([],[(wt,[])])]:=by
   refine⟨[([],la0,[(wt,[])])],rfl,zE,fun r hr=>?_⟩
   rw[aS.mp hr]
   refine⟨lne.symm,[.ref ta],by rw[zG lne.symm,zE],rfl,fun i p hi=>?_⟩
   cases i with
   |succ i=>cases hi
   |zero=>
    cases hi
    refine⟨ta,rfl,.inl (.of ?_)⟩
    rw[zG ltne.symm,zG (yG hta1 hla0)];exact hta1
  generalize upd (upd Ht la0 (.lst [.ref ta])) ld0 (.dK [((Sum.inr (tx []):zJ),V.ref la0)])=H1 at s1 ly1
  refine⟨_,rfl,pl,rfl,⟨_,.of (s1 _ _ hpl)⟩,?_⟩
  refine j8 (jD K pl (pat.map sv)) (fun i σ H'=>∃(ld:ak) (x6 x7 x8 x9:Option V),σ=[some (.ref pd),some (.int o),some (.int wt),some (.ref pl),some (.int n),some (.ref ld),x6,x7,x8,x9]/\zX T H H'/\yX T H'/\H ld=none/\zBR K H' ld (qJ (zB o bk) ff o n wt (pat.take i))/\LyOk (zB o bk) i (qJ (zB o bk) ff o n wt (pat.take i)))
   ⟨ld0,_,_,_,_,rfl,zX.of s1,uJ tab s1,hld0,ly1,⟨by simp[qJ],fun r hr=>?_⟩⟩ (fun i σ H' _ h=>.of (h.choose_spec.choose_spec.choose_spec.choose_spec.choose_spec.2.1 _ _ hplT hpl)) ?_ ?_
  ·have hr':r∈[(([]:S),[(wt,([]:S))])]:=hr
   rw[aS.mp hr']
   refine⟨zOR hb,by simp,fun q hq=>?_⟩
   rw[aS.mp hq];simp
  ·rintro i y σ H' Nx hNx hy ⟨ld,x6,x7,x8,x9,rfl,sx,tb,hldn,hla,hok⟩
   rw[aw]at hy
   cases ei:pat[i]? with
   |none=>rw[ei]at hy;cases hy
   |some wd=>
   rw[ei]at hy
   have hy2:y=sv wd:=(aD hy).symm
   subst hy2
   have hi:i<pat.length:=(ai.mp ei).1
   have etk:pat.take (i+1)=pat.take i++[wd]:=by rw[aB hi,(ai.mp ei).2]
   have hst:=hv.step i hi
   have egd:pat.getD i []=wd:=by rw[bK,ei];rfl
   rw[egd]at hst
   refine⟨_,rfl,_,rfl,_,rfl,_,rfl,_,rfl,pd,ld,o,n,bk,ff,_,wd,rfl,hb,⟨H,hP,sx,tab,hldn⟩,hS,hla,bR hok.len h72,fun r hr=>?_,by omega,tb,hst,fun fo H2 sx2 tb2 hfo l2=>hNx _ _ ⟨fo,_,_,_,_,rfl,sx.trans sx2,tb2,fresh sx tb hfo,?_,?_⟩⟩
   ·obtain⟨a1,a2,a3⟩:=hok.row r hr
    exact⟨a1,a2,fun q hq=>bR (a3 q hq) (by omega)⟩
   ·rw[etk,zEJ];exact l2
   ·rw[etk,zEJ];exact hok.step hn
  ·rintro σ Hm ⟨ld,x6,x7,x8,x9,rfl,sx,tb,hldn,⟨la,l1,l2,l3⟩,hok⟩
   rw[ah,bo]at l1 hok
   have hv2:=hv.fin
   have k':=k
   generalize qJ (zB o bk) ff o n wt pat=ly at l1 hok hv2 k'
   have hPt:PartsT K T Hm pd ld (zB o bk) ff:=⟨H,hP,sx,tab,hldn⟩
   refine⟨bp _,fun ea hea=>?_⟩
   have sE:zA Hm (upd Hm ea (.lst [])):=zA.upd1 hea
   have hE1:upd Hm ea (.lst []) ea=some (.lst []):=zE
   generalize upd Hm ea (.lst [])=H2 at sE hE1
   have hd1:=sE _ _ l2
   refine⟨ld,_,hd1,?_⟩
   refine⟨_,rfl,.inr (.inr (.inl ⟨rfl,.inl ⟨_,hd1⟩⟩)),ld,_,rfl,rfl,hd1,fun p hp=>?_⟩
   have sH2:zA H2 (upd H2 p (VW p ld)):=zA.upd1 hp
   refine⟨p,ld,_,rfl,zE,sH2 _ _ hd1,fun ob=>?_⟩
   have lel:ea≠ld:=(yG l2 hea).symm
   generalize hkv:z0 (fun v:ak×zH=>V.ref v.1) la=kvs at l2 hd1
   generalize hH3:upd (upd H2 p (VW p ld)) ld (.frz ob (.dK kvs))=H3
   generalize hHA:upd Hm ld (.frz ob (.dK kvs))=HA
   have hAld:HA ld=some (.frz ob (.dK kvs)):=by rw[<-hHA,zE]
   have hAx:zX ld Hm HA:=by rw[<-hHA];exact uQ
   have hAea:HA ea=none:=by rw[<-hHA,zG lel];exact hea
   have s3:zA HA H3:=fun b u e=>by
    rw[<-hH3]
    by_cases hb':b=ld
    ·subst hb';rw[hAld]at e;rw[zE];exact e
    ·rw[<-hHA,zG hb']at e
     rw[zG hb']
     exact sH2 _ _ (sE _ _ e)
   have hea3:H3 ea=some (.lst []):=by rw[<-hH3,zG lel];exact sH2 _ _ hE1
   refine zBz (fun i σ H'=>(∃x8 x9:Option V,σ=[some (.ref pd),some (.int o),some (.int wt),some (.ref pl),some (.int n),some (.ref ld),x6,some (.ref ea),x8,x9])/\zA HA H'/\v5 K H' ea (vZ (zB o bk) ff (ly.take i)))
    ⟨⟨_,_,rfl⟩,s3,[],hea3,rfl,fun i p hi=>by cases hi⟩ (fun i σ H' _ h=>h.2.1 _ _ hAld) ?_ ?_
   ·rintro i q T0 σ H' Nx hN hq ⟨⟨x8',x9',rfl⟩,sm,hpe⟩ hT0'
    rw[<-hkv]at hq
    unfold z0 vS at hq
    rw[aw,aw]at hq
    cases ei:la[i]? with
    |none=>rw[ei]at hq;cases hq
    |some r0=>
    rw[ei]at hq
    have hq2:q=(Sum.inr (tx r0.1),V.ref r0.2.1):=(aD hq).symm
    subst hq2
    have hmem:r0∈la:=aZ ei
    have eli:ly[i]?=some (r0.1,r0.2.2):=by rw[<-l1,aw,ei];rfl
    have hi:i<ly.length:=(ai.mp eli).1
    obtain⟨⟨l0,hl0⟩,hl900,hl60⟩:=hok.row _ (aZ eli)
    have hl0:(r0.1,l0)∈zB o bk:=hl0
    have hl900:r0.2.2.length<=900:=hl900
    have etk:vZ (zB o bk) ff (ly.take (i+1))=vZ (zB o bk) ff (ly.take i)++jS (zB o bk) ff (r0.1,r0.2.2):=by
     unfold vZ
     rw[aB hi,(ai.mp eli).2,eC];simp
    have hel:(vZ (zB o bk) ff (ly.take i)).length<=900*72:=by
     have h1:=zAp (jS (zB o bk) ff) 900 (ly.take i) fun a ha=>by
      have h2:=(hok.row a (cf ha)).2.1
      unfold jS
      split
      ·rw[ah];exact h2
      ·simp
     have h2:=hok.len
     have h3:(ly.take i).length<=72:=by rw[aI];omega
     unfold vZ
     exact bR h1 (by rw[sI];exact nM _ h3)
    obtain⟨ra,kv,kvs2,e1,e2,g2,g3,g4,g5,rne,pdl,pdn⟩:=hPt.row hl0
    refine⟨T0,[sv r0.1,.ref r0.2.1],rfl,.of zE,rfl,_,_,rfl,_,_,rfl,rfl,?_⟩
    generalize hH4:upd H' T0 (HO.tup [kV ((Sum.inr (tx r0.1):zJ),V.ref r0.2.1).1,((Sum.inr (tx r0.1):zJ),V.ref r0.2.1).2])=H4
    have s4:zA H' H4:=by rw[<-hH4];exact zA.upd1 hT0'
    have sm4:=sm.trans s4
    have pe4:=hpe.same s4
    have hAra:HA ra=some (.dK (z0 id kv)):=hAx _ _ rne g3
    have rdA:Rd HA pd (.dK kvs2):=by
     rcases e1 with e1|⟨o',e1⟩
     ·exact .inl (hAx _ _ pdl e1)
     ·exact .inr ⟨o',hAx _ _ pdl e1⟩
    have dg:∀{G:Hp},zA HA G->vV G pd (sv r0.1) (some (.ref ra)):=fun{G} sG=>.inl ⟨kvs2,Sum.inr (tx r0.1),(by
     rcases rdA with z|⟨o',z⟩
     ·exact .inl (sG _ _ z)
     ·exact .inr ⟨o',sG _ _ z⟩),rfl,e2.symm⟩
    have ndk:(kv.map (·.1)).Nodup:=by
     rw[g4]
     exact zEI _ _
    have dgv:∀{G:Hp},zA HA G->vV G ra (sv []) (zM kv []):=fun{G} sG=>by
     have:=vV.k (k:=Sum.inr (tx [])) (sG _ _ hAra)
     rw[kZ,Option.map_id]at this
     exact this
    have hin:(zM kv []).isSome=true↔(r0.1,([]:S))∈zB o bk:=by
     rw[<-qT,<-g4]
     constructor
     ·intro h
      obtain⟨v,hv'⟩:=ij.mp h
      exact av.mpr ⟨_,(vK ndk _ _).mpr hv',rfl⟩
     ·intro h
      obtain⟨q',hq',e'⟩:=av.mp h
      have:(([]:S),q'.2)∈kv:=by rw[<-e'];exact hq'
      rw[(vK ndk _ _).mp this];rfl
    refine⟨_,rfl,_,rfl,pd,.ref ra,rfl,dg sm4,ra,_,rfl,dgv sm4,_,rfl,?_⟩
    refine zFy (fun hm=>?_) (fun hm=>?_)
    ·have hyes:(r0.1,([]:S))∈zB o bk:=hin.mp hm
     obtain⟨v,hgv⟩:=ij.mp (hin.mpr hyes)
     have hvm:(([]:S),v)∈kv:=(vK ndk _ _).mpr hgv
     have frA0:vA K HA v (ff r0.1 []):=hAx.frA (zAJ l2) (g5 _ hvm)
     have e0:jS (zB o bk) ff (r0.1,r0.2.2)=r0.2.2.map fun q=>(yB q.1 (ff r0.1 []),q.2):=by unfold jS;rw[if_pos hyes]
     generalize hqs:r0.2.2.map (fun q=>(yB q.1 (ff r0.1 []),q.2))=qs at e0
     obtain⟨ts,t1,t2,t3⟩:=pe4
     have prA:v5 K HA r0.2.1 r0.2.2:=(l3 r0 hmem).2.sameX hAx (zAJ l2) (l3 r0 hmem).1
     obtain⟨tl,p1,p2,p3⟩:=prA.same sm4
     refine⟨_,rfl,.inl ⟨rfl,_,.of t1⟩,_,rfl,r0.2.1,rfl,⟨_,.of p1⟩,?_⟩
     refine j7 (jD K r0.2.1 tl) [some (sv r0.1),some (.ref pd)] 2 (by rw[p2];omega) (fun m acc H10=>zA H4 H10/\acc.length=m/\∀(m':Nat) (p:Int×S),m'<m->qs[m']?=some p->∃a,acc[m']?=some (.ref a)/\zY K H10 a [.int p.1,sv p.2])
      ⟨zA.refl _,rfl,fun m' p h=>absurd h (mN _)⟩ (fun m acc H10 _ h=>⟨.of (h.1 _ _ p1),by rw[h.2.1];exact ay _⟩) ?_ ?_
     ·rintro m y acc H10 ys Nx3 hN3 hy hys ⟨s10,al,hacc⟩
      obtain⟨y1,y2,rfl⟩:=zBQ hys
      have hm1:m<r0.2.2.length:=by rw[<-p2];exact(ai.mp hy).1
      obtain⟨a,a1,a2⟩:=p3 m r0.2.2[m] (aq hm1)
      rw[hy]at a1
      cases a1
      generalize hpm:r0.2.2[m]=pm at a2
      have hqm2:qs[m]?=some (yB pm.1 (ff r0.1 []),pm.2):=by
       rw[<-hqs,aw,aq hm1,hpm];rfl
      obtain⟨b1,b2,b3,b4⟩:=hS r0.1 []
      have s10A:=sm4.trans s10
      refine⟨a,[.int pm.1,sv pm.2],rfl,s10.seqT a2,rfl,_,_,rfl,_,_,rfl,rfl,?_⟩
      refine⟨_,rfl,_,rfl,_,rfl,pd,.ref ra,rfl,dg s10A,ra,v,rfl,by have:=dgv s10A;rw[hgv]at this;exact this,pm.1,v,ff r0.1 [],rfl,frA0.same s10A,b1,b2,b3,b4,?_⟩
      refine⟨_,rfl,by show 2<=_;rw[aF];omega,fun a9 ha9=>hN3 _ _ [some (.int pm.1),some (sv pm.2)] rfl ⟨s10.trans (zA.upd1 ha9),by rw[au,al];rfl,fun m' p hm' hp'=>?_⟩⟩
      by_cases hmm2:m'=m
      ·subst hmm2
       rw[hqm2]at hp'
       cases hp'
       refine⟨a9,by rw[aP (by omega),al,gv];rfl,.inl (.of ?_)⟩
       rw[zE]
      ·obtain⟨a',z1,z2⟩:=hacc m' p (by omega) hp'
       exact⟨a',by rw[aT (by omega)];exact z1,(zA.upd1 ha9).seqT z2⟩
     ·rintro acc H10 ⟨s10,al,hacc⟩ D hD
      have sD:zA H10 (upd H10 D (.lst acc)):=zA.upd1 hD
      have hqn:qs.length=r0.2.2.length:=by rw[<-hqs,ah]
      have s11:=s10.trans sD
      refine⟨ea,D,ts,acc,rfl,rfl,s11 _ _ t1,zE,by rw[t2,al,p2,aF];omega,hN _ _ ⟨⟨_,_,rfl⟩,(sm4.trans s11).upd_new hAea,?_⟩⟩
      rw[etk,e0]
      refine⟨ts++acc,zE,by rw[au,au,t2,al,p2,hqn],fun i' p hi'=>?_⟩
      have nt:∀ys,¬Rd (upd H10 D (.lst acc)) ea (.tup ys):=by
       have h1:=s11 _ _ t1
       rintro ys (z|⟨o',z⟩)
       ·rw[h1]at z;cases z
       ·rw[h1]at z;cases z
      by_cases hlt:i'<(vZ (zB o bk) ff (ly.take i)).length
      ·rw[aT hlt]at hi'
       obtain⟨a,z1,z2⟩:=t3 i' p hi'
       exact⟨a,by rw[aT (by omega)];exact z1,(uQ (u:=.lst (ts++acc))).seqT nt (s11.seqT z2)⟩
      ·rw[aP (by omega)]at hi'
       have hb2:=(ai.mp hi').1
       obtain⟨a,z1,z2⟩:=hacc (i'- (vZ (zB o bk) ff (ly.take i)).length) p (by omega) hi'
       exact⟨a,by rw[aP (by omega),t2];exact z1,(uQ (u:=.lst (ts++acc))).seqT nt (sD.seqT z2)⟩
    ·have hno:(r0.1,([]:S))∉zB o bk:=fun z=>hm (hin.mpr z)
     refine hN _ _ ⟨⟨_,_,rfl⟩,sm4,?_⟩
     have e0:jS (zB o bk) ff (r0.1,r0.2.2)=[]:=by unfold jS;rw[if_neg hno]
     rw[etk,e0,eY]
     exact pe4
   ·rintro σ H' ⟨⟨x8',x9',rfl⟩,sm,hpe⟩
    refine⟨ob,sm _ _ hAld,?_⟩
    have ekl:kvs.length=ly.length:=by rw[<-hkv,jQ,<-l1,ah]
    rw[ekl,bo]at hpe
    have s5:zA Hm (upd H' ld (.dK kvs)):=zA.thaw (by rw[hHA];exact sm) l2
    have pe5:v5 K (upd H' ld (.dK kvs)) ea (vZ (zB o bk) ff ly):=hpe.sameX uQ (zEE (sm _ _ hAld)) lel
    generalize upd H' ld (.dK kvs)=H5 at s5 pe5
    refine⟨_,rfl,_,rfl,ea,_,n,rfl,pe5,hv2.1,hv2.2,by omega,uJ tb s5,fun D H6 rs sx6 tb6 hD srt pa=>?_⟩
    rw[zCG srt]at pa
    exact k' D H6 ((sx.trans (zX.of s5)).trans sx6) tb6 (fresh (sx.trans (zX.of s5)) (uJ tb s5) hD) pa
end
theorem zOk {p q:Int×S}(h:p≠q):vB p q\/vB q p:=by
 refine zGm fun z=>h ?_
 obtain⟨e1,a⟩:=bP z
 exact eK (by omega) (jE a)
theorem zHz:∀(c:zH) (x:Int×S),c.Pairwise vB->x∉c->∃a:zH,a.Perm (x::c)/\a.Pairwise vB
 | [],x,_,_=>⟨[x],dz _,by simp⟩
 |r::c,x,h,e=>by
  obtain⟨f,g⟩:=cI.mp h
  have d:x≠r:=fun z=>e (by rw[z];exact az ..)
  rcases zOk d with z|z
  ·refine⟨x::r::c,dz _,cI.mpr ⟨fun y b=>?_,h⟩⟩
   rcases aG.mp b with rfl|b
   ·exact z
   ·exact zCF z (f y b)
  ·obtain⟨a,p,s⟩:=zHz c x g fun z=>e (aC _ z)
   refine⟨r::a,(p.cons r).trans (List.Perm.swap ..),cI.mpr ⟨fun y b=>?_,s⟩⟩
   rcases aG.mp (p.mem_iff.mp b)with rfl|b
   ·exact z
   ·exact f y b
theorem zIA:∀(ps:zH),ps.Nodup->∃a,zAn ps a
 | [],_=>⟨[],dz _,by simp⟩
 |x::ps,h=>by
  obtain⟨c,d⟩:=bz.mp h
  obtain⟨a,p,s⟩:=zIA ps d
  obtain⟨b,e,s'⟩:=zHz a x s fun z=>c (p.mem_iff.mp z)
  exact⟨b,e.trans (p.cons x),s'⟩
structure TopN (n:Nat) (A B:zH):Prop where
 srt:B.Pairwise vB
 len:B.length<=n
 sub:∀q∈B,q∈A
 cmp:∀a∈A,a∈B\/(n<=B.length/\∀b∈B,vB b a)
theorem k8 {B:zH}(h:B.Pairwise vB):B.Nodup:=h.imp fun{a b} z e=>by rw[e]at z;exact zCE _ z
theorem top_best {n:Nat}{ps:zH}(h:ps.Nodup):TopN n ps (vG n ps):=by
 obtain⟨f,d⟩:=zIA ps h
 rw[<-zCG d]
 refine⟨d.2.sublist (iD _ _),by rw[aI];omega,fun q i=>d.1.mem_iff.mp (cf i),fun a ha=>?_⟩
 have e:=d.1.mem_iff.mpr ha
 rw[<-eT n f]at e
 rcases bw.mp e with z|z
 ·exact .inl z
 ·right
  have hl:n<=f.length:=by
   by_cases c:n<=f.length
   ·exact c
   ·rw[fS (by omega)]at z;cases z
  have g:=d.2
  rw[<-eT n f,ji]at g
  exact⟨by rw[aI];omega,fun b hb=>g.2.2 b hb a z⟩
theorem zOl {n:Nat}{G B L:zH}{x:Int×S}(T:TopN n G B)(nd:L.Nodup)(hl:n<=L.length)(e:∀l∈L,l∈G/\vB l x):n<=B.length/\∀b∈B,vB b x:=by
 by_cases c:∀l∈L,l∈B
 ·have f:=qB L B nd c
  refine⟨by omega,fun b hb=>?_⟩
  by_cases a:b∈L
  ·exact(e b a).2
  ·exfalso
   have d:=qB L (B.erase b) nd fun l h=>(jg (fun z=>a (by rw[<-z];exact h))).mpr (c l h)
   rw[lK hb]at d
   have m:0<B.length:=iK hb
   have o:=T.len
   omega
 ·obtain⟨l,hl1,hl2⟩:∃l∈L,l∉B:=by
   apply lh
   intro g
   exact c fun l h=>lh fun z=>g ⟨l,h,z⟩
  obtain⟨f,d⟩:=e l hl1
  rcases T.cmp l f with z|⟨i,j⟩
  ·exact absurd z hl2
  ·exact⟨i,fun b hb=>zCF (j b hb) d⟩
theorem top_of {n:Nat}{A G:zH}(nd:G.Nodup)(b:∀q∈G,q∈A)(c:∀a∈A,a∈G\/∃L:zH,L.Nodup/\n<=L.length/\∀l∈L,l∈G/\vB l a):TopN n A (vG n G):=by
 have T:=top_best (n:=n) nd
 refine⟨T.srt,T.len,fun q d=>b q (T.sub q d),fun a ha=>?_⟩
 rcases c a ha with z|⟨L,e,f,g⟩
 ·exact T.cmp a z
 ·exact .inr (zOl T e f g)
theorem TopN.unique {n:Nat}{A B C:zH}(l:A.Nodup)(h:TopN n A B)(a:TopN n A C):B=C:=by
 have key:∀{B C:zH},TopN n A B->TopN n A C->∀x∈B,x∈C:=by
  intro B C h a x d
  rcases a.cmp x (h.sub x d)with z|⟨m,f⟩
  ·exact z
  ·exfalso
   have g:=fun c (b:c∈C)=>h.cmp c (a.sub c b)
   have i:∀c∈C,c∈B:=fun c b=>by
    rcases g c b with y|⟨_,y⟩
    ·exact y
    ·exact absurd (zCF (y x d) (f c b)) (zCE x)
   have e:x∉C:=fun y=>zCE x (f x y)
   have j:=qB (x::C) B (bz.mpr ⟨e,k8 a.srt⟩) fun c b=>by
    rcases aG.mp b with rfl|b
    ·exact d
    ·exact i c b
   rw[aM]at j
   have:=h.len
   omega
 exact zED (zNp (k8 h.srt) (k8 a.srt) fun x=>⟨key h a x,key a h x⟩) h.srt a.srt
theorem zEK:∀(L a:List (S×zH)),(a.map (·.1)).Nodup->∀k:S,zM (L.foldl yZ a) k=if(∃s∈L,s.1=k)then some ((zM a k).getD []++(L.filter fun s=>decide (s.1=k)).flatMap (·.2))else zM a k
 | [],a,_,k=>by rw[if_neg (by rintro⟨s,b,_⟩;cases b)];rfl
 |p::L,a,nd,k=>by
  rw[eZ,zEK L (yZ a p) (gL nd) k]
  have e:zM (yZ a p) k=if p.1=k then some ((zM a p.1).getD []++p.2)else zM a k:=by
   unfold yZ
   rw[zAg]
  rw[e]
  by_cases c:p.1=k
  ·rw[if_pos c,if_pos (⟨p,az ..,c⟩:∃s∈p::L,s.1=k),cV (by simpa using c),fj,<-dG,c]
   split
   ·rfl
   ·rename_i g
    have:L.filter (fun s=>decide (s.1=k))=[]:=List.filter_eq_nil_iff.mpr fun s b z=>g ⟨s,b,of_decide_eq_true z⟩
    rw[this];simp
  ·rw[if_neg c,cX (by simpa using c)]
   by_cases f:∃s∈L,s.1=k
   ·obtain⟨s,b,d⟩:=f
    rw[if_pos ⟨s,b,d⟩,if_pos ⟨s,aC _ b,d⟩]
   ·rw[if_neg f,if_neg]
    rintro⟨s,b,d⟩
    rcases aG.mp b with rfl|b
    ·exact c d
    ·exact f ⟨s,b,d⟩
theorem zCH {L:List (S×zH)}{r:S×zH}(b:r∈vC L):r.2=(L.filter fun s=>decide (s.1=r.1)).flatMap (·.2):=by
 have nd:=(zAo L).1
 have a:=(vK nd r.1 r.2).mp b
 unfold vC at a
 rw[zEK L [] (by simp)]at a
 split at a
 ·have:=aD a
  rw[<-this];rfl
 ·cases a
theorem zOm {L:List (S×zH)}{s:S×zH}(a:s∈L):∃r∈vC L,r.1=s.1:=by
 have nd:=(zAo L).1
 have h:=zEK L [] (by simp) s.1
 rw[if_pos ⟨s,a,rfl⟩]at h
 exact⟨_,(vK nd _ _).mpr h,rfl⟩
def yF:List S->S->Bool
 | [],[]=>true
 |w::p,c::t=>(decide (w=[])||decide (w=[c]))&&yF p t
 |_,_=>false
theorem jG:∀{p:List S}{t:S},yF p t=true->t.length=p.length
 | [],[],_=>rfl
 |w::p,c::t,h=>by
  unfold yF at h
  rw[aO]at h
  rw[aM,aM,jG h.2]
 | [],c::t,h=>by cases h
 |w::p,[],h=>by cases h
theorem zEL:∀(p:List S) (t:S) (w:S) (c:Nat),yF (p++[w]) (t++[c])=(yF p t&& (decide (w=[])||decide (w=[c])))
 | [],[],w,c=>by unfold yF;simp[yF]
 |v::p,d::t,w,c=>by
  rw[cT,cT]
  unfold yF
  rw[zEL p t w c,Bool.and_assoc]
 | [],d::t,w,c=>by
  have:yF [] (d::t)=false:=rfl
  rw[this,c7]
  cases h:yF ([]++[w]) (d::t++[c])with
  |false=>rfl
  |true=>
   have:=jG h
   simp at this
 |v::p,[],w,c=>by
  have:yF (v::p) []=false:=rfl
  rw[this,c7]
  cases h:yF (v::p++[w]) ([]++[c])with
  |false=>rfl
  |true=>
   have:=jG h
   simp at this
theorem zIB (w:S)(c:Nat):mf w [c]=(decide (w=[])||decide (w=[c])):=by unfold mf;simp
theorem zCI {ps:List (S×S)}{nx:S->List S}(N:Lts ps nx)(i:zAH ps)(o:Nat):∀(pat:List S) (t:S),t∈Tx nx o pat↔yF pat t=true/\∀q∈pp o t,q∈ps:=by
 intro pat
 induction e:pat.length generalizing pat with
 |zero=>
  intro t
  have:pat=[]:=cq.mp e
  subst this
  show t∈[[]]↔_
  cases t with
  |nil=>simp[yF,zNh]
  |cons c t=>simp[yF]
 |succ n ih=>
  intro t
  obtain⟨p,w,rfl⟩:∃p w,pat=p++[w]:=by
   rcases iR pat with z|⟨u,c,z⟩
   ·rw[z]at e;cases e
   ·exact⟨u,c,by simpa using z⟩
  have g:p.length=n:=by simpa using e
  rw[zAm]
  unfold zCA
  rw[bf]
  constructor
  ·rintro⟨u,j,m⟩
   obtain⟨l,hl,rfl⟩:=av.mp m
   obtain⟨hl1,hl2⟩:=aL.mp hl
   have h:=(N.mem _ _).mp hl1
   have a:l≠[]:=fun z=>by rw[z]at hl2;simp[mf]at hl2
   obtain⟨c,rfl⟩:=zAG (i _ _ h) a
   obtain⟨b,d⟩:=(ih p g u).mp j
   rw[zIB]at hl2
   refine⟨by rw[zEL,b,hl2];rfl,fun q f=>?_⟩
   rw[zDt]at f
   rcases bw.mp f with z|z
   ·exact d q z
   ·rw[aS.mp z];exact h
  ·rintro⟨b,d⟩
   have a:t≠[]:=fun z=>by
    have:=jG b
    rw[z]at this;simp at this
   obtain⟨u,c,rfl⟩:=zNn a
   rw[zEL,aO]at b
   rw[zDt]at d
   refine⟨u,(ih p g u).mpr ⟨b.1,fun q f=>d q (cb _ f)⟩,av.mpr ⟨[c],aL.mpr ⟨(N.mem _ _).mpr (d _ (aX _ (by simp))),?_⟩,rfl⟩⟩
   rw[zIB];exact b.2
theorem zIC {ps:List (S×S)}{nx:S->List S}(N:Lts ps nx)(i:zAH ps)(o:Nat):∀(pat:List S),(Tx nx o pat).Nodup:=by
 intro pat
 induction d:pat.length generalizing pat with
 |zero=>
  have:pat=[]:=cq.mp d
  subst this
  show([[]]:List S).Nodup
  simp
 |succ n ih=>
  obtain⟨p,w,rfl⟩:∃p w,pat=p++[w]:=by
   rcases iR pat with z|⟨u,c,z⟩
   ·rw[z]at d;cases d
   ·exact⟨u,c,by simpa using z⟩
  have j:p.length=n:=by simpa using d
  rw[zAm]
  unfold zCA
  have one:∀u l,l∈(nx (zW u o)).filter (mf w)->∃c,l=[c]:=fun u l hl=>by
   obtain⟨hl1,hl2⟩:=aL.mp hl
   have f:l≠[]:=fun z=>by rw[z]at hl2;simp[mf]at hl2
   exact zAG (i _ _ ((N.mem _ _).mp hl1)) f
  refine zHO _ _ (ih p j) (fun u _=>?_) fun u _ v _ x m q=>?_
  ·refine oT _ (fun a b g z=>g (List.append_cancel_left z)) ((N.nd _).filter _)
  ·obtain⟨l,hl,rfl⟩:=av.mp m
   obtain⟨r,h,e⟩:=av.mp q
   obtain⟨c,rfl⟩:=one _ _ hl
   obtain⟨s,rfl⟩:=one _ _ h
   exact(zDu e).1.symm
theorem zEM (f:S->S->Int×Int)(o:Nat)(a:Int)(t:S)(c:Nat):Wt f o a (t++[c])=yB (Wt f o a t) (f (zW t o) [c]):=by
 unfold Wt;rw[zDt,fg];rfl
theorem zCJ {ps:List (S×S)}{o:Nat}{U:Int}(c:0<U)(d:∀e l,(zN ps e l).2∣U){t:S}{m:Nat}(h:m+t.length=9):0<=Wt (zN ps) o (U^9) t/\U^m∣Wt (zN ps) o (U^9) t:=by
 have hl:(pp o t).length=t.length:=by unfold pp;simp
 obtain⟨a,b,_⟩:=zDw (T:=1) (by decide) d (pp o t) m (U^9) (cZ (gn c)) (by rw[hl,h];exact sQ _)
 exact⟨a,b⟩
theorem zOn {U w1 w2:Int}{m:Nat}{q:Int×Int}(a:q.2∣U)(c:0<q.2)(d:0<q.1)(e:U^(m+1)∣w1)(f:U^(m+1)∣w2)(h:w1<w2):yB w1 q<yB w2 q:=by
 have e1:=zDv a e
 have g:=zDv a f
 have b:w1*q.1<w2*q.1:=gj h d
 rw[<-e1,<-g]at b
 exact gp b (cZ c)
theorem zID {U w1 w2:Int}{m:Nat}{q:Int×Int}{a b:S}(d:q.2∣U)(f:0<q.2)(g:0<q.1)(i:U^(m+1)∣w1)(j:U^(m+1)∣w2)(hl:a.length=b.length)(l:S)(h:vB (w1,a) (w2,b)):vB (yB w1 q,a++l) (yB w2 q,b++l):=by
 unfold vB qA at h⊢
 dsimp only at h⊢
 by_cases e:-w1=-w2
 ·rw[if_pos e]at h
  have n:w1=w2:=by omega
  subst n
  rw[if_pos rfl]
  have c:=of_decide_eq_true h
  exact decide_eq_true (zHS l l hl c)
 ·rw[if_neg e]at h
  have c:=of_decide_eq_true h
  have o:=zOn d f g j i (by omega:w2<w1)
  rw[if_neg (by omega)]
  exact decide_eq_true (by omega)
theorem zOo {U w1 w2:Int}{m:Nat}{q:Int×Int}{a b:S}(c:q.2∣U)(d:0<q.2)(e:0<q.1)(f:U^(m+1)∣w1)(g:U^(m+1)∣w2)(hl:a.length=b.length)(h:vB (w1,a) (w2,b)):vB (yB w1 q,a) (yB w2 q,b):=by
 have:=zID c d e f g hl [] h
 rw[eY,eY]at this
 exact this
def zAL (ps:List (S×S))(o:Nat)(U:Int)(Tt:List S)(e:S):zH:=(Tt.filter fun t=>decide (zW t o=e)).map fun t=>(Wt (zN ps) o (U^9) t,t)
theorem uK {ps:List (S×S)}{o:Nat}{U:Int}{Tt:List S}{e:S}{q:Int×S}:q∈zAL ps o U Tt e↔q.2∈Tt/\zW q.2 o=e/\q.1=Wt (zN ps) o (U^9) q.2:=by
 unfold zAL
 rw[av]
 constructor
 ·rintro⟨t,c,rfl⟩
  obtain⟨a,b⟩:=aL.mp c
  exact⟨a,of_decide_eq_true b,rfl⟩
 ·rintro⟨a,b,d⟩
  exact⟨q.2,aL.mpr ⟨a,decide_eq_true b⟩,eK d.symm rfl⟩
structure LInv (ps:List (S×S)) (o n:Nat) (U:Int) (Tt:List S) (ly:List (S×zH)):Prop where
 nd:(ly.map (·.1)).Nodup
 top:∀r∈ly,TopN n (zAL ps o U Tt r.1) r.2
 has:∀t∈Tt,∃r∈ly,r.1=zW t o
 key:∀r∈ly,∃t∈Tt,r.1=zW t o
theorem zOp {U:Int}{ps:List (S×S)}{o n:Nat}{Tt:List S}{e:S}{B:zH}(T:TopN n (zAL ps o U Tt e) B){a b:Int×S}(ha:a∈B)(hb:b∈B)(h:a.2=b.2):a=b:=by
 obtain⟨_,_,c⟩:=uK.mp (T.sub a ha)
 obtain⟨_,_,d⟩:=uK.mp (T.sub b hb)
 exact eK (by rw[c,d,h]) h
theorem zCK {U:Int}{ps:List (S×S)}{o n:Nat}{Tt:List S}{e:S}{B:zH}(T:TopN n (zAL ps o U Tt e) B)(g:Int->Int)(l:S):(B.map fun q=>(g q.1,q.2++l)).Nodup:=by
 rw[de,bq]
 refine cg ?_ (k8 T.srt)
 intro a b ha hb c z
 exact c (zOp T ha hb (List.append_cancel_right (bP z).2))
section
variable{o n:Nat}{bk:List S}{U:Int}{ly:List (S×zH)}{pat:List S}{w:S}
theorem zCL {s:S×zH}(a:s∈ly.flatMap (y8 (zU (zB o bk)) (zN (zB o bk)) o w)):∃r∈ly,∃c,(r.1,[c])∈zB o bk/\mf w [c]=true/\s=(zW (r.1++[c]) o,r.2.map fun q=>(yB q.1 (zN (zB o bk) r.1 [c]),q.2++[c])):=by
 obtain⟨r,e,a⟩:=bf.mp a
 obtain⟨l,hl,rfl⟩:=av.mp a
 obtain⟨f,b⟩:=aL.mp hl
 have d:=(qT _ _ _).mp f
 have g:l≠[]:=fun z=>by rw[z]at b;simp[mf]at b
 obtain⟨c,rfl⟩:=zAG (gN d) g
 exact⟨r,e,c,d,b,rfl⟩
theorem zIE {r:S×zH}{c:Nat}(a:r∈ly)(b:(r.1,[c])∈zB o bk)(hf:mf w [c]=true):(zW (r.1++[c]) o,r.2.map fun q=>(yB q.1 (zN (zB o bk) r.1 [c]),q.2++[c]))∈ly.flatMap (y8 (zU (zB o bk)) (zN (zB o bk)) o w) :=
 bf.mpr ⟨r,a,av.mpr ⟨[c],aL.mpr ⟨(qT _ _ _).mpr b,hf⟩,rfl⟩⟩
theorem zOq (h:LInv (zB o bk) o n U (Tx (zU (zB o bk)) o pat) ly):(ly.flatMap (y8 (zU (zB o bk)) (zN (zB o bk)) o w)).Pairwise fun a b=>∀x∈a.2,∀y∈b.2,x≠y:=by
 rw[dS]
 have one:∀{e l},l∈(zU (zB o bk) e).filter (mf w)->∃c,l=[c]:=fun{e l} hl=>by
  obtain⟨g,t⟩:=aL.mp hl
  have A:l≠[]:=fun z=>by rw[z]at t;simp[mf]at t
  exact zAG (gN ((qT _ _ _).mp g)) A
 refine⟨fun r u=>?_,?_⟩
 ·unfold y8
  rw[bq]
  refine cg ?_ ((zEI _ r.1).filter (mf w))
  intro a b ha hb f x i y j z
  obtain⟨c,rfl⟩:=one ha
  obtain⟨d,rfl⟩:=one hb
  obtain⟨q,_,rfl⟩:=av.mp i
  obtain⟨v,_,rfl⟩:=av.mp j
  have:=(zDu (bP z).2).2
  exact f (by rw[this])
 ·have g:=h.nd
  rw[de,bq]at g
  refine cg ?_ g
  intro r B u m f a ha b hb x i y j z
  obtain⟨l,hl,rfl⟩:=av.mp ha
  obtain⟨E,p,rfl⟩:=av.mp hb
  obtain⟨c,rfl⟩:=one hl
  obtain⟨d,rfl⟩:=one p
  obtain⟨q,C,rfl⟩:=av.mp i
  obtain⟨v,s,rfl⟩:=av.mp j
  have e:=(zDu (bP z).2).1
  have e1:=(uK.mp ((h.top r u).sub q C)).2.1
  have D:=(uK.mp ((h.top B m).sub v s)).2.1
  exact f (by rw[<-e1,<-D,e])
theorem zEN (h:LInv (zB o bk) o n U (Tx (zU (zB o bk)) o pat) ly){r:S×zH}(b:r∈vC (ly.flatMap (y8 (zU (zB o bk)) (zN (zB o bk)) o w))):r.2.Nodup:=by
 rw[zCH b,de,dS]
 refine⟨fun s d=>?_,(zOq h).sublist nN⟩
 obtain⟨a,hr0,c,e,f,rfl⟩:=zCL (aL.mp d).1
 exact zCK (h.top a hr0) (fun x=>yB x (zN (zB o bk) a.1 [c])) [c]
theorem zIF {ps:List (S×S)}{e l:S}(h:(e,l)∈ps):0<(zN ps e l).1:=by
 have b:=dZ.mpr h
 have c:=zAh ps e l
 unfold zN
 rw[if_neg (by omega)]
 have f:=gM (u:=(ps.count (e,l):Int)) (d:=(tot ps e:Int)) (by omega) (by omega)
 have cr:=zAC (u:=(ps.count (e,l):Int)) (d:=(tot ps e:Int)) (by omega)
 show 0<(low (ps.count (e,l):Int) (tot ps e:Int)).1
 have a:0<(ps.count (e,l):Int)*(low (ps.count (e,l):Int) (tot ps e:Int)).2:=lF (by omega) f.dn
 rw[<-cr]at a
 exact Int.pos_of_mul_pos_left a (by omega)
theorem LInv.step (D:0<U)(I:∀e l,(zN (zB o bk) e l).2∣U)(h:LInv (zB o bk) o n U (Tx (zU (zB o bk)) o pat) ly)(hp:pat.length<=8):LInv (zB o bk) o n U (Tx (zU (zB o bk)) o (pat++[w])) (zAK (zB o bk) (zN (zB o bk)) o n ly w):=by
 have P:=zAo (ly.flatMap (y8 (zU (zB o bk)) (zN (zB o bk)) o w))
 have tl:∀t∈Tx (zU (zB o bk)) o pat,t.length=pat.length:=fun t i=>jG ((zCI (lts _) (k3 o bk) o pat t).mp i).1
 have snoc:∀{t:S} {c:Nat},t∈Tx (zU (zB o bk)) o pat->(zW t o,[c])∈zB o bk->mf w [c]=true->t++[c]∈Tx (zU (zB o bk)) o (pat++[w]):=fun{t c} i u hf=>by
  rw[zAm]
  exact bf.mpr ⟨t,i,av.mpr ⟨[c],aL.mpr ⟨(qT _ _ _).mpr u,hf⟩,rfl⟩⟩
 have j:∀{t':S},t'∈Tx (zU (zB o bk)) o (pat++[w])->∃t c,t'=t++[c]/\t∈Tx (zU (zB o bk)) o pat/\(zW t o,[c])∈zB o bk/\mf w [c]=true:=fun{t'} i=>by
  rw[zAm]at i
  obtain⟨t,J,v⟩:=bf.mp i
  obtain⟨l,hl,rfl⟩:=av.mp v
  obtain⟨A,v⟩:=aL.mp hl
  have u:=(qT _ _ _).mp A
  have T:l≠[]:=fun z=>by rw[z]at v;simp[mf]at v
  obtain⟨c,rfl⟩:=zAG (gN u) T
  exact⟨t,c,rfl,J,u,v⟩
 refine⟨?_,fun r L=>?_,fun t' M=>?_,fun r L=>?_⟩
 ·unfold zAK
  rw[aU]
  exact P.1
 ·obtain⟨p,d,rfl⟩:=av.mp L
  show TopN n (zAL _ o U _ p.1) (vG n p.2)
  have E:∀{b:S×zH} {c:Nat} {q:Int×S},b∈ly->(b.1,[c])∈zB o bk->mf w [c]=true->zW (b.1++[c]) o=p.1->q∈b.2->(yB q.1 (zN (zB o bk) b.1 [c]),q.2++[c])∈p.2:=fun{b c q} A v W X Y=>by
   rw[zCH d]
   exact bf.mpr ⟨_,aL.mpr ⟨zIE A v W,decide_eq_true X⟩,av.mpr ⟨q,Y,rfl⟩⟩
  refine top_of (zEN h d) (fun q y=>?_) fun a ha=>?_
  ·rw[zCH d]at y
   obtain⟨s,N,y⟩:=bf.mp y
   obtain⟨O,B⟩:=aL.mp N
   obtain⟨b,hr0,c,A,v,rfl⟩:=zCL O
   have B:zW (b.1++[c]) o=p.1:=of_decide_eq_true B
   obtain⟨G,hq0,rfl⟩:=av.mp y
   obtain⟨e1,C,H⟩:=uK.mp ((h.top b hr0).sub G hq0)
   refine uK.mpr ⟨snoc e1 (by rw[C];exact A) v,?_,?_⟩
   ·show zW (G.2++[c]) o=p.1
    rw[<-zBN,C,B]
   ·show yB G.1 _=Wt _ _ _ (G.2++[c])
    rw[zEM,C,H]
  ·obtain⟨Z,a2⟩:=a
   obtain⟨e1,C,H⟩:=uK.mp ha
   dsimp only at e1 C H
   obtain⟨t,c,rfl,i,u,hf⟩:=j e1
   obtain⟨b,hr0,g⟩:=h.has t i
   rw[<-g]at u
   have F:zW (b.1++[c]) o=p.1:=by rw[g,zBN,C]
   have Q:Z=yB (Wt (zN (zB o bk)) o (U^9) t) (zN (zB o bk) b.1 [c]):=by rw[H,zEM,g]
   rcases(h.top b hr0).cmp (Wt (zN (zB o bk)) o (U^9) t,t) (uK.mpr ⟨i,g.symm,rfl⟩)with z|⟨z1,z2⟩
   ·left
    rw[Q]
    exact E hr0 u hf F z
   ·right
    refine⟨b.2.map fun q=>(yB q.1 (zN (zB o bk) b.1 [c]),q.2++[c]),zCK (h.top b hr0) (fun x=>yB x (zN (zB o bk) b.1 [c])) [c],by rw[ah];exact z1,fun l hl=>?_⟩
    obtain⟨q,y,rfl⟩:=av.mp hl
    refine⟨E hr0 u hf F y,?_⟩
    rw[Q]
    obtain⟨b1,b2,b3⟩:=uK.mp ((h.top b hr0).sub q y)
    have l1:=tl q.2 b1
    have l2:=tl t i
    have f:=zAi (zB o bk) b.1 [c]
    refine zID (m:=8-pat.length) (I _ _) f.dn (zIF u) ?_ ?_ (by rw[l1,l2]) [c] (z2 q y)
    ·rw[b3];exact(zCJ D I (by omega)).2
    ·exact(zCJ D I (by omega)).2
 ·obtain⟨t,c,rfl,i,u,hf⟩:=j M
  obtain⟨b,hr0,g⟩:=h.has t i
  rw[<-g]at u
  obtain⟨p,d,e⟩:=zOm (zIE hr0 u hf)
  refine⟨_,av.mpr ⟨p,d,rfl⟩,?_⟩
  show p.1=_
  rw[e]
  show zW (b.1++[c]) o=_
  rw[g,zBN]
 ·obtain⟨p,d,rfl⟩:=av.mp L
  obtain⟨s,N,e⟩:=av.mp (P.2 p.1 (av.mpr ⟨p,d,rfl⟩))
  obtain⟨b,hr0,c,A,v,rfl⟩:=zCL N
  obtain⟨t,i,R⟩:=h.key b hr0
  refine⟨t++[c],snoc i (by rw[<-R];exact A) v,?_⟩
  show p.1=_
  rw[<-e]
  show zW (b.1++[c]) o=_
  rw[R,zBN]
theorem LInv.start (g:1<=n):LInv (zB o bk) o n U (Tx (zU (zB o bk)) o []) [([],[(U^9,[])])]:=by
 have c:zW ([]:S) o=[]:=by unfold zW;simp
 refine⟨by simp,fun r d=>?_,fun t e=>?_,fun r d=>?_⟩
 ·rw[aS.mp d]
  have ha:∀q:Int×S,q∈zAL (zB o bk) o U (Tx (zU (zB o bk)) o []) []↔q=(U^9,[]):=fun q=>by
   rw[uK]
   constructor
   ·rintro⟨b,j,f⟩
    have b:q.2∈[([]:S)]:=b
    have b:=aS.mp b
    rw[b]at f
    exact eK f b
   ·rintro rfl
    exact⟨cU _,c,rfl⟩
  exact⟨by simp,g,fun q i=>(ha q).mpr (aS.mp i),fun a h=>.inl (by rw[(ha a).mp h];exact cU _)⟩
 ·have e:t∈[([]:S)]:=e
  rw[aS.mp e]
  exact⟨_,cU _,c.symm⟩
 ·rw[aS.mp d]
  exact⟨[],cU _,c.symm⟩
theorem zCM (a:0<U)(b:∀e l,(zN (zB o bk) e l).2∣U)(c:1<=n)(pat:List S):∀i,i<=pat.length->i<=9->LInv (zB o bk) o n U (Tx (zU (zB o bk)) o (pat.take i)) (qJ (zB o bk) (zN (zB o bk)) o n (U^9) (pat.take i))
 |0,_,_=>by rw[nq];exact LInv.start c
 |i+1,d,f=>by
  have ih:=zCM a b c pat i (by omega) (by omega)
  rw[aB (by omega),zEJ]
  exact ih.step a b (by rw[aI];omega)
def zEO (ps:List (S×S))(o:Nat)(U:Int)(Tt:List S):zH:=(Tt.filter fun t=>decide ((zW t o,[])∈ps)).map fun t=>(Wn ps o (U^9) t,t)
theorem zIG {ps:List (S×S)}{o:Nat}{U:Int}{Tt:List S}{q:Int×S}:q∈zEO ps o U Tt↔q.2∈Tt/\(zW q.2 o,[])∈ps/\q.1=Wn ps o (U^9) q.2:=by
 unfold zEO
 rw[av]
 constructor
 ·rintro⟨t,c,rfl⟩
  obtain⟨a,b⟩:=aL.mp c
  exact⟨a,of_decide_eq_true b,rfl⟩
 ·rintro⟨a,b,d⟩
  exact⟨q.2,aL.mpr ⟨a,decide_eq_true b⟩,eK d.symm rfl⟩
theorem zCN {f:S->S->Int×Int}{ps:List (S×S)}{q:Int×S}:q∈vZ ps f ly↔∃r∈ly,(r.1,[])∈ps/\∃p∈r.2,q=(yB p.1 (f r.1 []),p.2):=by
 unfold vZ jS
 rw[bf]
 constructor
 ·rintro⟨r,a,h⟩
  split at h
  ·rename_i b
   obtain⟨p,c,rfl⟩:=av.mp h
   exact⟨r,a,b,p,c,rfl⟩
  ·cases h
 ·rintro⟨r,a,b,p,c,rfl⟩
  refine⟨r,a,?_⟩
  rw[if_pos b]
  exact av.mpr ⟨p,c,rfl⟩
theorem zEP (h:LInv (zB o bk) o n U (Tx (zU (zB o bk)) o pat) ly):(vZ (zB o bk) (zN (zB o bk)) ly).Nodup:=by
 unfold vZ
 rw[de,dS]
 refine⟨fun r c=>?_,?_⟩
 ·unfold jS
  split
  ·have:=zCK (h.top r c) (fun x=>yB x (zN (zB o bk) r.1 [])) []
   simp only[eY]at this
   exact this
  ·simp
 ·have i:=h.nd
  rw[de,bq]at i
  refine cg ?_ i
  intro r j c d f x a y b z
  unfold jS at a b
  split at a
  ·split at b
   ·obtain⟨q,l,rfl⟩:=av.mp a
    obtain⟨m,g,rfl⟩:=av.mp b
    have e:=(bP z).2
    have e1:=(uK.mp ((h.top r c).sub q l)).2.1
    have p:=(uK.mp ((h.top j d).sub m g)).2.1
    exact f (by rw[<-e1,<-p,e])
   ·cases b
  ·cases a
theorem LInv.fin (i:0<U)(u:∀e l,(zN (zB o bk) e l).2∣U)(h:LInv (zB o bk) o n U (Tx (zU (zB o bk)) o pat) ly)(v:pat.length<=8):TopN n (zEO (zB o bk) o U (Tx (zU (zB o bk)) o pat)) (vG n (vZ (zB o bk) (zN (zB o bk)) ly)):=by
 have tl:∀t∈Tx (zU (zB o bk)) o pat,t.length=pat.length:=fun t g=>jG ((zCI (lts _) (k3 o bk) o pat t).mp g).1
 refine top_of (zEP h) (fun q j=>?_) fun a ha=>?_
 ·obtain⟨r,B,c,p,v,rfl⟩:=zCN.mp j
  obtain⟨e1,y,s⟩:=uK.mp ((h.top r B).sub p v)
  refine zIG.mpr ⟨e1,by show(zW p.2 o,[])∈_;rw[y];exact c,?_⟩
  show yB p.1 _=Wn _ _ _ p.2
  unfold Wn
  rw[y,s]
 ·obtain⟨C,t⟩:=a
  obtain⟨g,c,s⟩:=zIG.mp ha
  dsimp only at g c s
  obtain⟨b,hr0,d⟩:=h.has t g
  rw[<-d]at c
  have A:C=yB (Wt (zN (zB o bk)) o (U^9) t) (zN (zB o bk) b.1 []):=by rw[s,d];rfl
  rcases(h.top b hr0).cmp (Wt (zN (zB o bk)) o (U^9) t,t) (uK.mpr ⟨g,d.symm,rfl⟩)with z|⟨D,E⟩
  ·left
   rw[A]
   exact zCN.mpr ⟨b,hr0,c,_,z,rfl⟩
  ·right
   refine⟨b.2.map fun q=>(yB q.1 (zN (zB o bk) b.1 []),q.2),by simpa using zCK (h.top b hr0) (fun x=>yB x (zN (zB o bk) b.1 [])) [],by rw[ah];exact D,fun l hl=>?_⟩
   obtain⟨q,j,rfl⟩:=av.mp hl
   refine⟨zCN.mpr ⟨b,hr0,c,q,j,rfl⟩,?_⟩
   rw[A]
   obtain⟨F,J,G⟩:=uK.mp ((h.top b hr0).sub q j)
   have H:=tl q.2 F
   have I:=tl t g
   have f:=zAi (zB o bk) b.1 []
   refine zOo (m:=8-pat.length) (u _ _) f.dn (zIF c) ?_ ?_ (by rw[H,I]) (E q j)
   ·rw[G];exact(zCJ i u (by omega)).2
   ·exact(zCJ i u (by omega)).2
def Abc (bk:List S):Prop:=∀nm∈bk,∀c∈nm,c=97\/c=98\/c=122
end
end Kn.Ln
end
section
namespace Kn
open PySem L2
mutual
def vH (H:Hp):bG->V->Prop
 | .none,v=>v=.non
 | .bool b,v=>v=.bl b
 | .int i,v=>v=.int i
 | .str x,v=>v=.str x
 | .list ds,v=>∃a xs,v=.ref a/\H a=some (.lst xs)/\Thgs H ds xs
 | .tuple ds,v=>∃a xs,v=.ref a/\H a=some (.tup xs)/\Thgs H ds xs
 | .dict _,_=>False
def Thgs (H:Hp):List bG->List V->Prop
 | [],xs=>xs=[]
 |d::ds,xs=>∃y ys,xs=y::ys/\vH H d y/\Thgs H ds ys
end
mutual
theorem vH.same {H l:Hp}(e:zA H l):∀(d:bG) (v:V),vH H d v->vH l d v
 | .none,v,h=>h
 | .bool b,v,h=>h
 | .int i,v,h=>h
 | .str x,v,h=>h
 | .list c,v,h=>by
  obtain⟨a,xs,f,g,j⟩:=h
  exact⟨a,xs,f,e _ _ g,Thgs.same e c xs j⟩
 | .tuple c,v,h=>by
  obtain⟨a,xs,f,g,j⟩:=h
  exact⟨a,xs,f,e _ _ g,Thgs.same e c xs j⟩
 | .dict _,v,h=>h
theorem Thgs.same {H b:Hp}(e:zA H b):∀(a:List bG) (xs:List V),Thgs H a xs->Thgs b a xs
 | [],xs,h=>h
 |d::a,xs,h=>by
  obtain⟨y,ys,c,f,g⟩:=h
  exact⟨y,ys,c,vH.same e d y f,Thgs.same e a ys g⟩
end
mutual
theorem vH.rep {K:ag}{H:Hp}:∀(d:bG) (v:V),vH H d v->vN K H d v
 | .none,v,h=>h
 | .bool b,v,h=>h
 | .int i,v,h=>h
 | .str x,v,h=>h
 | .list c,v,h=>by
  obtain⟨a,xs,e,f,g⟩:=h
  exact⟨a,xs,e,.of f,Thgs.reps c xs g⟩
 | .tuple c,v,h=>by
  obtain⟨a,xs,e,f,g⟩:=h
  exact⟨a,xs,e,.of f,Thgs.reps c xs g⟩
 | .dict _,v,h=>h
theorem Thgs.reps {K:ag}{H:Hp}:∀(a:List bG) (xs:List V),Thgs H a xs->Reps K H a xs
 | [],xs,h=>h
 |d::a,xs,h=>by
  obtain⟨y,ys,b,c,e⟩:=h
  exact⟨y,ys,b,vH.rep d y c,Thgs.reps a ys e⟩
end
theorem Thgs.length {H:Hp}:∀{a:List bG}{xs:List V},Thgs H a xs->a.length=xs.length
 | [],xs,h=>by rw[show xs=[]from h];rfl
 |d::a,xs,h=>by
  obtain⟨y,ys,b,_,c⟩:=h
  rw[b,aM,aM,Thgs.length c]
theorem Thgs.get {H:Hp}:∀{a:List bG}{xs:List V}{i:Nat}{y:V},Thgs H a xs->xs[i]?=some y->∃d,a[i]?=some d/\vH H d y
 | [],xs,i,y,h,e=>by rw[show xs=[]from h]at e;simp at e
 |d::a,xs,i,y,h,e=>by
  obtain⟨z,j,b,c,f⟩:=h
  subst b
  cases i with
  |zero=>
   have:z=y:=by simpa using e
   subst this
   exact⟨d,rfl,c⟩
  |succ i=>
   obtain⟨d',e1,g⟩:=Thgs.get (i:=i) f (by simpa using e)
   exact⟨d',by simpa using e1,g⟩
theorem Thgs.strs {H:Hp}:∀(l:List S),Thgs H (l.map fun x=>PyData.str (tx x)) (l.map sv)
 | []=>rfl
 |x::l=>⟨_,_,rfl,rfl,Thgs.strs l⟩
mutual
def sml:bG->Bool
 | .str x=>decide (x.length<=900)&&x.cps.toList.all fun c=>decide (c<128)
 | .list ds=>decide (ds.length<=900)&&smls ds
 | .tuple ds=>decide (ds.length<=900)&&smls ds
 | .dict _=>false
 |_=>true
def smls:List bG->Bool
 | []=>true
 |d::ds=>sml d&&smls ds
end
theorem zCO:∀{a:List bG}{d:bG},smls a=true->d∈a->sml d=true
 |e::a,d,h,b=>by
  have h':sml e=true/\smls a=true:=by simpa [smls]using h
  rcases aG.mp b with z|z
  ·rw[z];exact h'.1
  ·exact zCO h'.2 z
def zAM (c:Nat):Bool:=decide (97<=c)&&decide (c<=122)
def vL:bG->Bool
 | .str x=>(decide (1<=x.length)&&decide (x.length<=8))&&x.cps.toList.all zAM
 |_=>false
def kI:bG->Bool
 | .tuple ds=>(decide (1<=ds.length)&&decide (ds.length<=8))&&ds.all vL
 |_=>false
def zCP:bG->Bool
 | .int i=>decide (1<=i)&&decide (i<=3)
 |_=>false
theorem zOr {d:bG}(h:vL d=true):∃x:S,d=.str (tx x)/\vI x:=by
 cases d with
 |str x=>
  simp only[vL,aO,decide_eq_true_eq,da,zAM]at h
  refine⟨x.cps.toList,by rw[zHD],?_,?_,h.2⟩
  ·have:=h.1.1;simpa [iV]using this
  ·have:=h.1.2;simpa [iV]using this
 |none=>cases h
 |bool b=>cases h
 |int i=>cases h
 |list a=>cases h
 |tuple a=>cases h
 |dict _=>cases h
theorem zCQ {x:S}(h:vI x):vL (.str (tx x))=true:=by
 simp only[vL,aO,decide_eq_true_eq,da,zAM,z9,vW]
 exact⟨⟨h.1,h.2.1⟩,h.2.2⟩
theorem zOs {bk:List S}(h:isBk bk):kI (.tuple (bk.map fun x=>PyData.str (tx x)))=true:=by
 simp only[kI,aO,decide_eq_true_eq,da,ah]
 refine⟨⟨h.lo,h.hi⟩,fun d hd=>?_⟩
 obtain⟨x,a,rfl⟩:=av.mp hd
 exact zCQ (h.nm x a)
theorem Thgs.strs_inv {H:Hp}:∀{l:List S}{xs:List V},Thgs H (l.map fun x=>PyData.str (tx x)) xs->xs=l.map sv
 | [],xs,h=>h
 |x::l,xs,h=>by
  obtain⟨y,ys,b,c,d⟩:=h
  have a:y=sv x:=c
  rw[b,a,Thgs.strs_inv d];rfl
structure KitF (K:ag):Prop where
 ns:bx K (.type "NoneType") (.type "str")=some false
 bs:bx K (.type "bool") (.type "str")=some false
 is:bx K (.type "int") (.type "str")=some false
 ls:bx K (.type "list") (.type "str")=some false
 ts:bx K (.type "tuple") (.type "str")=some false
 nt:bx K (.type "NoneType") (.type "tuple")=some false
 bt:bx K (.type "bool") (.type "tuple")=some false
 it:bx K (.type "int") (.type "tuple")=some false
 lt:bx K (.type "list") (.type "tuple")=some false
 st:bx K (.type "str") (.type "tuple")=some false
 ni:bx K (.type "NoneType") (.type "int")=some false
 bi:bx K (.type "bool") (.type "int")=some true
 li:bx K (.type "list") (.type "int")=some false
 ti:bx K (.type "tuple") (.type "int")=some false
 si:bx K (.type "str") (.type "int")=some false
theorem zOt {c:Nat}(h:c<128):(iy letters ⟨#[c]⟩ 0 letters.length 1).isEmpty=!zAM c:=by
 have all:∀d:_root_.Fin 128,(iy letters ⟨#[d.val]⟩ 0 letters.length 1).isEmpty=!zAM d.val:=by decide+kernel
 exact all ⟨c,h⟩
section
variable{P:aJ}{w:aY}{K:ag}{mg:Str->Option aj}{base:bE}
theorem zOu (KF:KitF K){H:Hp}:∀{d:bG}{v:V},vH H d v->∃t b,TyOf K H v t/\bx K t (.type "str")=some b/\(b=true↔∃x,d=.str x)
 | .none,v,h=>by cases(show v=.non from h);exact⟨_,_,.non,KF.ns,by simp⟩
 | .bool b,v,h=>by cases(show v=.bl b from h);exact⟨_,_,.bl _,KF.bs,by simp⟩
 | .int i,v,h=>by cases(show v=.int i from h);exact⟨_,_,.int _,KF.is,by simp⟩
 | .str x,v,h=>by cases(show v=.str x from h);exact⟨_,true,.str _,rfl,by simp⟩
 | .list e,v,h=>by obtain⟨a,xs,rfl,c,_⟩:=h;exact⟨_,_,.lst c,KF.ls,by simp⟩
 | .tuple e,v,h=>by obtain⟨a,xs,rfl,c,_⟩:=h;exact⟨_,_,.tup c,KF.ts,by simp⟩
 | .dict _,v,h=>h.elim
theorem zEQ (KF:KitF K){H:Hp}:∀{d:bG}{v:V},vH H d v->∃t b,TyOf K H v t/\bx K t (.type "tuple")=some b/\(b=true↔∃c,d=.tuple c)
 | .none,v,h=>by cases(show v=.non from h);exact⟨_,_,.non,KF.nt,by simp⟩
 | .bool b,v,h=>by cases(show v=.bl b from h);exact⟨_,_,.bl _,KF.bt,by simp⟩
 | .int i,v,h=>by cases(show v=.int i from h);exact⟨_,_,.int _,KF.it,by simp⟩
 | .str x,v,h=>by cases(show v=.str x from h);exact⟨_,_,.str _,KF.st,by simp⟩
 | .list c,v,h=>by obtain⟨a,xs,rfl,e,_⟩:=h;exact⟨_,_,.lst e,KF.lt,by simp⟩
 | .tuple c,v,h=>by obtain⟨a,xs,rfl,e,_⟩:=h;exact⟨_,true,.tup e,rfl,by simp⟩
 | .dict _,v,h=>h.elim
def zBS:Sp:=fun vs H Q _=>∃v d,vs=[v]/\vH H d v/\sml d=true/\∀H',zA H H'->Q (.bl (vL d)) H'
theorem zOv {f:ak}{fd:bg}(F:Fun K "is_name" "is_name" zDQ f fd)(B:Blt mg)(C:Cst K mg)(KF:KitF K):FnOk P w K mg base z7 1 f fd ["thing"] zBS:=by
 obtain⟨tl,hl⟩:=C.letters
 obtain⟨W,J⟩:=C.ml
 refine F.ok zMu (fun vs H Q E h=>?_) (fun L A outer s H vs Q E X h=>?_)
 ·obtain⟨v,d,rfl,_⟩:=h;rfl
 ·obtain⟨v,d,rfl,hv,G,k⟩:=h
  refine⟨_,zQ (yV (PW.pt (gT (v1 (vX (yL zAB (by rfl) B.isinstance cz (zC (pv 0) (zC (gR (v:=.ty "str") (by rfl) B.str sU rfl) zD)))))
    (gS (v1 (zCr kR kR zO (yL j5 (by rfl) B.len bL (zC (pv 0) zD)) (yN (v:=.int 8) (by rfl) J ⟨_,rfl⟩))))))
    (zK (z6 qN)) yU)
   (zK (z6 (yL (zBH rfl) (by rfl) B.all eU (zC (uY (N:=["letter"]) (caps:=[]) rfl (uH (by kernel_rfl)) (zLj (pv 0))
    (fun I C s H ex=>z8 (i:=0) nd1 rfl (Or.inl rfl)) (fun I C s H ex=>qP)
    (fun I C s H ex=>qO zKV (pv 0) (yN (v:=.str letters) (by rfl) hl ⟨_,rfl⟩) (by with_unfolding_all rfl))) zD)))),?_⟩
  obtain⟨t,b,n,g,hb⟩:=zOu KF hv
  refine⟨_,rfl,_,_,t,b,rfl,n,g,b,rfl,?_⟩
  cases b with
  |false=>
   have hd:vL d=false:=by
    cases d with
    |str x=>exact absurd (hb.mpr ⟨x,rfl⟩) (by decide)
    |_=>rfl
   rw[hd]at k
   exact yK (yK (k H (zA.refl H)))
  |true=>
   obtain⟨x,rfl⟩:=hb.mp rfl
   have o:v=.str x:=hv
   subst o
   have p:x.length<=900/\∀c∈x.cps.toList,c<128:=by
    simp only[sml,aO,decide_eq_true_eq,da]at G
    exact G
   refine yO ?_
   refine⟨_,rfl,x,rfl,(by rw[aF];omega),_,_,rfl,rfl,_,rfl,?_⟩
   by_cases q:1<=x.length
   ·refine kX (by omega) ⟨_,_,rfl,rfl,_,rfl,?_⟩
    by_cases r:x.length<=8
    ·refine kU (by omega) ?_
     refine⟨_,rfl,_,rfl,?_⟩
     have M:x.cps.toList.length=x.length:=by simp[iV]
     refine j7 (zLu x) [] 1 (by rw[ah];omega) (fun i a l=>zA H l/\a=((x.cps.toList.take i).map zAM).map V.bl) ⟨zA.refl H,rfl⟩ (fun i a l _ h=>⟨trivial,by rw[h.2,ah,ah,aI];omega⟩) ?_ ?_
     ·rintro i y a l ys Y O j R ⟨m,rfl⟩
      obtain⟨Z,rfl⟩:=ys1 R
      rw[aw]at j
      cases e:x.cps.toList[i]? with
      |none=>rw[e]at j;cases j
      |some c=>
       rw[e]at j
       have u:y=.str ⟨#[c]⟩:=(aD j).symm
       subst u
       have hi:i<x.cps.toList.length:=(ai.mp e).1
       refine⟨_,rfl,_,_,rfl,rfl,?_⟩
       rw[zOt (p.2 c (aZ e)),Bool.not_not]
       refine O _ _ [some (.str ⟨#[c]⟩)] rfl ⟨m,?_⟩
       rw[aB hi,(ai.mp e).2,aQ,aQ];rfl
     ·rintro a l ⟨m,rfl⟩ D T
      rw[ah,bo]
      refine⟨D,_,rfl,.of zE,?_⟩
      have U:((x.cps.toList.map zAM).all id)=vL (.str x):=by
       simp only[vL,decide_eq_true q,decide_eq_true r,eG,gc,fU]
       rfl
      rw[U]
      exact k _ (m.upd_new (m.free T))
    ·have hd:vL (.str x)=false:=by simp[vL,r]
     rw[hd]at k
     refine zAl (fun z=>r (by omega)) (k H (zA.refl H))
   ·have hd:vL (.str x)=false:=by simp[vL,q]
    rw[hd]at k
    refine uZ (fun z=>q (by omega)) ?_
    exact⟨false,rfl,yK (k H (zA.refl H))⟩
def zIH:Sp:=fun vs H Q _=>∃v d,vs=[v]/\vH H d v/\sml d=true/\∀H',zA H H'->Q (.bl (kI d)) H'
theorem zOw {f:ak}{fd:bg}(F:Fun K "is_book" "is_book" zDS f fd)(B:Blt mg)(C:Cst K mg)(KF:KitF K)(l:zV P w K mg base 1 "is_name" ["thing"] zBS):FnOk P w K mg base z7 2 f fd ["thing"] zIH:=by
 obtain⟨t8,R⟩:=C.mn
 refine F.ok zMv (fun vs H Q E h=>?_) (fun T A outer s H vs Q E U h=>?_)
 ·obtain⟨v,d,rfl,_⟩:=h;rfl
 ·obtain⟨v,d,rfl,hv,M,k⟩:=h
  refine⟨_,zQ (yV (PW.pt (gT (v1 (vX (yL zAB (by rfl) B.isinstance cz (zC (pv 0) (zC (gR (v:=.ty "tuple") (by rfl) B.tuple ef rfl) zD)))))
    (gS (v1 (zCr kR kR zO (yL j4 (by rfl) B.len bL (zC (pv 0) zD)) (yN (v:=.int 8) (by rfl) R ⟨_,rfl⟩))))))
    (zK (z6 qN)) yU)
   (zK (z6 (yL (zBH rfl) (by rfl) B.all eU (zC (uY (N:=["name"]) (caps:=[]) rfl (uH (by kernel_rfl)) (zAx (pv 0))
    (fun O C s H ex=>z8 (i:=0) nd2 rfl (Or.inl rfl)) (fun O C s H ex=>qP)
    (fun O C s H ex=>zT l U rfl (zC (pv 0) zD))) zD)))),?_⟩
  obtain⟨t,b,q,m,hb⟩:=zEQ KF hv
  refine⟨_,rfl,_,_,t,b,rfl,q,m,b,rfl,?_⟩
  cases b with
  |false=>
   have hd:kI d=false:=by
    cases d with
    |tuple x=>exact absurd (hb.mpr ⟨x,rfl⟩) (by decide)
    |_=>rfl
   rw[hd]at k
   exact yK (yK (k H (zA.refl H)))
  |true=>
   obtain⟨c,rfl⟩:=hb.mp rfl
   obtain⟨a,xs,rfl,ha,n⟩:=hv
   have r:c.length<=900/\smls c=true:=by
    simp only[sml,aO,decide_eq_true_eq]at M
    exact M
   have g:xs.length=c.length:=n.length.symm
   refine yO ?_
   refine⟨_,rfl,_,_,rfl,.inr (.of ha),_,_,rfl,rfl,_,rfl,?_⟩
   by_cases u:1<=c.length
   ·refine kX (by rw[g];omega) ⟨_,_,rfl,rfl,_,rfl,?_⟩
    by_cases G:c.length<=8
    ·refine kU (by rw[g];omega) ?_
     refine⟨_,rfl,a,rfl,⟨_,.of ha⟩,?_⟩
     refine j7 (zBI _ a xs) [] 1 (by omega) (fun i j p=>zA H p/\j=((c.take i).map vL).map V.bl) ⟨zA.refl H,rfl⟩ (fun i j p _ h=>⟨.of (h.1 _ _ ha),by rw[h.2,ah,ah,aI];omega⟩) ?_ ?_
     ·rintro i y j p ys Nx W X Y ⟨o,rfl⟩
      obtain⟨y',rfl⟩:=ys1 Y
      obtain⟨e,I,J⟩:=n.get X
      have hi:i<c.length:=(ai.mp I).1
      refine⟨_,rfl,y,e,rfl,vH.same o _ _ J,zCO r.2 (aZ I),fun H5 L=>W _ _ [some y] rfl ⟨o.trans L,?_⟩⟩
      rw[aB hi,(ai.mp I).2,aQ,aQ];rfl
     ·rintro j p ⟨o,rfl⟩ D Z
      rw[g,bo]
      refine⟨D,_,rfl,.of zE,?_⟩
      have e2:((c.map vL).all id)=kI (.tuple c):=by
       simp only[kI,decide_eq_true u,decide_eq_true G,eG,gc,fU]
       rfl
      rw[e2]
      exact k _ (o.upd_new (o.free Z))
    ·have hd:kI (.tuple c)=false:=by simp[kI,G]
     rw[hd]at k
     refine zAl (fun z=>G (by rw[g]at z;omega)) (k H (zA.refl H))
   ·have hd:kI (.tuple c)=false:=by simp[kI,u]
    rw[hd]at k
    refine uZ (fun z=>u (by rw[g]at z;omega)) ?_
    exact⟨false,rfl,yK (k H (zA.refl H))⟩
def uD (a b:Int):bG->Bool
 | .int i=>decide (a<=i)&&decide (i<=b)
 |_=>false
theorem zOx (d:bG):zCP d=uD 1 3 d:=by
 cases d<;>rfl
def zCR:Sp:=fun vs H Q _=>∃v d a b,vs=[v,.int a,.int b]/\vH H d v/\Q (.bl (uD a b d)) H
theorem zOy {f:ak}{fd:bg}(F:Fun K "is_whole" "is_whole" zDU f fd)(B:Blt mg)(C:Cst K mg)(KF:KitF K):FnOk P w K mg base z7 1 f fd ["thing","least","most"] zCR:=by
 refine F.ok zMw (fun vs H Q E h=>?_) (fun g A outer s H vs Q E l h=>?_)
 ·obtain⟨v,d,a,b,rfl,_⟩:=h;rfl
 ·obtain⟨v,d,a,b,rfl,hv,k⟩:=h
  refine⟨_,zQ (yV (PW.pt (gT (v1 (vX (yL zAB (by rfl) B.isinstance cz (zC (pv 0) (zC (gR (v:=.ty "int") (by rfl) B.int sV rfl) zD)))))
    (gS (vX (yL zAB (by rfl) B.isinstance cz (zC (pv 0) (zC (gR (v:=.ty "bool") (by rfl) B.bool mF rfl) zD)))))))
    (zK (z6 qN)) yU)
   (zK (z6 (zKX kR kR (pv 1) (pv 0) (pv 2)))),?_⟩
  cases d with
  |none=>cases(show v=.non from hv);exact⟨_,rfl,_,_,_,false,rfl,.non,KF.ni,_,rfl,yK (yK k)⟩
  |str x=>cases(show v=.str x from hv);exact⟨_,rfl,_,_,_,false,rfl,.str _,KF.si,_,rfl,yK (yK k)⟩
  |list j=>obtain⟨a,xs,rfl,c,_⟩:=hv;exact⟨_,rfl,_,_,_,false,rfl,.lst c,KF.li,_,rfl,yK (yK k)⟩
  |tuple j=>obtain⟨a,xs,rfl,c,_⟩:=hv;exact⟨_,rfl,_,_,_,false,rfl,.tup c,KF.ti,_,rfl,yK (yK k)⟩
  |dict _=>exact hv.elim
  |bool b=>
   cases(show v=.bl b from hv)
   exact⟨_,rfl,_,_,_,true,rfl,.bl _,KF.bi,_,rfl,yO ⟨_,rfl,_,_,_,true,rfl,.bl _,(by rfl),_,rfl,yK k⟩⟩
  |int i=>
   cases(show v=.int i from hv)
   refine⟨_,rfl,_,_,_,true,rfl,.int _,(by rfl),_,rfl,?_⟩
   refine yO ?_
   refine⟨_,rfl,_,_,_,false,rfl,.int _,C.ib,_,rfl,?_⟩
   refine yO ?_
   refine⟨_,rfl,_,rfl,_,_,rfl,rfl,_,rfl,?_⟩
   by_cases c:a<=i
   ·refine kX c ⟨_,rfl,_,_,rfl,rfl,?_⟩
    have e:uD a b (.int i)=decide (i<=b):=by simp[uD,c]
    rw[e]at k
    exact k
   ·have e:uD a b (.int i)=false:=by simp[uD,c]
    rw[e]at k
    exact uZ c k
def zII:Sp:=fun vs H Q _=>∃v d,vs=[v]/\vH H d v/\Q (.bl (zCP d)) H
theorem zOz {f:ak}{fd:bg}(F:Fun K "is_order" "is_order" zDW f fd)(C:Cst K mg)(a:zV P w K mg base 1 "is_whole" ["thing","least","most"] zCR):FnOk P w K mg base z7 2 f fd ["thing"] zII:=by
 obtain⟨g,b⟩:=C.mo
 refine F.ok zMx (fun vs H Q E h=>?_) (fun c A outer s H vs Q E e h=>?_)
 ·obtain⟨v,d,rfl,_⟩:=h;rfl
 ·obtain⟨v,d,rfl,hv,k⟩:=h
  refine⟨_,zK (z6 (zT a e rfl (zC (pv 0) (zC zO (zC (yN (v:=.int 3) (by rfl) b ⟨_,rfl⟩) zD))))),?_⟩
  rw[zOx]at k
  exact⟨_,rfl,v,d,1,3,rfl,hv,k⟩
def flags (j:Nat):List Bool:=[decide (0=j),decide (1=j),decide (2=j),decide (3=j),decide (4=j),decide (5=j),decide (6=j),decide (7=j)]
end
end Kn
end
section
namespace L2
open PySem PySem.Spec PyProof.Rows
section
open MyS PySem.W
variable{prog:aJ}{w:aY}{A:bO}{E:aj->ao->Prop}{s:ao}
end
section
open MyS PySem.W
variable{X:Cx}
end
theorem zPA (t:eQ)(a:Array (Int×aj))(h:Int)(x:aj):(layNew t a h x).2.1.led=t.led/\(t.plain=false->(layNew t a h x).2.1.plain=false):=by
 unfold layNew
 split
 ·dsimp only
  unfold SetTable.orStandIn
  split
  ·exact⟨rfl,fun e=>e⟩
  ·exact⟨rfl,fun _=>rfl⟩
 ·exact⟨rfl,fun _=>rfl⟩
theorem zPB {mask a b:Nat}{c plain:Bool}{d:Array Int}{t:eQ}{o:Array Nat}(e:sf mask a b c plain d=some (t,o)):t.led=c/\t.plain=plain:=by
 unfold sf at e
 cases q:SetTable.layClean mask d with
 |none=>rw[q]at e;cases e
 |some f=>
  rw[q]at e
  injection e with e
  injection e with e1 g
  subst e1
  exact⟨rfl,rfl⟩
theorem zPC (t:eQ)(a:Array (Int×aj))(n:Nat):(relayAll t a n).2.1.led=t.led/\(t.plain=false->(relayAll t a n).2.1.plain=false):=by
 unfold relayAll
 split
 ·rename_i t' o e
  dsimp only
  have k:=zPB e
  split
  ·exact⟨k.1,fun q=>k.2.trans q⟩
  ·exact⟨rfl,fun _=>rfl⟩
 ·exact⟨rfl,fun _=>rfl⟩
abbrev qC (es:Array (Int×aj))(ep:Nat)(t:eQ):Obj:={cls:=.type "set",dict:=none,data:=.set es ep t}
def zPD (w:aY)(es:Array (Int×aj))(t:eQ):Prop:=t.fits es.size=true/\t.led=!w.params.followText "set-order"/\ (es.size=0\/t.plain=false)
def zAq (prog:aJ)(w:aY)(h:bE)(a:ak)(es:Array (Int×aj)):Prop :=
 ∃ep t,h.get? a=some (qC es ep t)/\ElemsOf (gd prog w) es.toList/\es.size<scanBound/\zPD w es t
def uL:aj->Str
 | .str x _=>x
 |_=>⟨#[]⟩
abbrev jH (es:Array (Int×aj)):List Str:=es.toList.map fun e=>uL e.2
theorem zER {k:Str}{x:aj}(h:dw k x=true):uL x=k:=by
 obtain⟨t,rfl⟩:=eu h;rfl
theorem zPE {k:Str}{x:aj}(h:dw k x=true):x.scannable=true:=by
 obtain⟨t,rfl⟩:=eu h;rfl
section
variable{prog:aJ}{w:aY}{A:bO}{E:aj->ao->Prop}{s:ao}
theorem zIJ {h:bE}{a:ak}{b es':Array (Int×aj)}{ep:Nat}{t t':eQ}(c:h.get? a=some (qC b ep t)):(h.update a (qv es' t')).get? a=some (qC es' (ep+1) t'):=by
 have:=gh (qv es' t') c rfl
 exact this
theorem zPF {a:ak}{l:Array (Int×aj)}{k:Str}{x:aj}{Q:Bool->ao->Prop}(m:dw k x=true)(hS:zAq prog w s.heap a l)(z:l.size+1<scanBound)
  (h:∀b h' es',gq a s.heap h'->zAq prog w h' a es'->(k∈jH l/\es'.toList.Perm l.toList\/k∉jH l/\(jH es').Perm (k::jH l))->Q b {s with heap:=h'}) :
  wpAny (model prog w) A (setAddHashed a x (hashStr w k)) Q E s:=by
 obtain⟨ep,t,W,o,hb,hf,u,ac⟩:=id hS
 have B:=zPE m
 have e:s={s with heap:=s.heap}:=by cases s;rfl
 unfold setAddHashed setAddHashedIn
 refine cY (af (fk W rfl hf ?_))
 dsimp only
 rw[byScan_of (knd:=gd prog w) B hb o]
 simp only[↓reduceIte]
 unfold setAddByScan
 refine af ?_
 refine af (fR ?_)
 refine af (wpAny_setScan_of (knd:=gd prog w) (k:=k) m W rfl hf o ?_)
 cases hr:List.findIdx? (fun e=>(gd prog w).is k e.2) l.toList with
 |some j=>
  dsimp only
  obtain⟨hj,X,_⟩:=List.findIdx?_eq_some_iff_getElem.mp hr
  refine ar (ar ?_)
  rw[e]
  exact h _ s.heap l (ud a s.heap) hS (.inl ⟨av.mpr ⟨l.toList[j],c9 hj,zER X⟩,dz _⟩)
 |none=>
  dsimp only
  have J:k∉jH l:=fun q=>by
   obtain⟨y,hy,q⟩:=av.mp q
   obtain⟨⟨k',M,_⟩,_⟩:=o y hy
   have e1:k'=k:=(zER M).symm.trans q
   have:=List.findIdx?_eq_none_iff.mp hr y hy
   rw[<-e1,M]at this
   cases this
  have d:=layNew_perm t l (hashStr w k) x
  have g:=layNew_fits t l (hashStr w k) x
  have i:=zPA t l (hashStr w k) x
  show wpAny _ _ _ _ _ _
  change wpAny _ _ (match layNew t l (hashStr w k) x with|(l,t,f,N)=>_) _ _ _
  generalize hL:layNew t l (hashStr w k) x=L at d g i⊢
  obtain⟨c,Y,f,N⟩:=L
  dsimp only at d g i⊢
  rw[lr]at d
  have v:ElemsOf (gd prog w) c.toList:=(ElemsOf.push (knd:=gd prog w) o m B).perm d
  have hsz:c.size=l.size+1:=by rw[<-bj,d.length_eq,au,bj];rfl
  have C:c.size<scanBound:=by rw[hsz];exact z
  have O:(jH c).Perm (k::jH l):=by
   have:=d.map fun e:Int×aj=>uL e.2
   rw[aQ]at this
   refine this.trans ?_
   rw[List.map_singleton,zER m]
   exact List.perm_append_singleton _ _
  have P:∀(b:Bool) {Z:ao} {Q':Unit->ao->Prop},Q' () Z->wpAny (model prog w) A (match b with|true=>rule "set.scan.the-table-gave-way"|false=>pure ()) Q' E Z :=
   fun b Z Q' hq=>by cases b<;>first|exact ar hq|exact fR hq
  refine af (P _ ?_)
  have tail:∀n:eQ,n.fits c.size=true->n.led=t.led->n.plain=false->∀wd:Bool,wpAny (model prog w) A (do
    storeSet a c n
    if(!wd&&n.tooFull)=true then do
      (match(relayAll n c (fK c.size)).2.2 with|true=>rule "set.scan.the-table-gave-way"|false=>pure ())
      storeSet a (relayAll n c (fK c.size)).1 (relayAll n c (fK c.size)).2.1
      pure (some true)
     else pure (some true)) (fun r s'=>wpAny (model prog w) A (match r with|some D=>pure D|none=>setAddHashedIn a x (hashStr w k) 99999) Q E s') E s:=by
   intro n f2 l2 p2 wd
   refine af (oV W rfl ?_ (iL C))
   have F:=zIJ (es':=c) (t':=n) W
   have R:=ic s.heap a (qv c n)
   split
   ·have T:=relayAll_perm n c (fK c.size)
    have G:=relayAll_fits n c (fK c.size)
    have p:=zPC n c (fK c.size)
    generalize al:relayAll n c (fK c.size)=Rl at T G p⊢
    obtain⟨H,t3,aa⟩:=Rl
    dsimp only at T G p⊢
    have ab:H.size=c.size:=by rw[<-bj,T.length_eq,bj]
    have U:H.size<scanBound:=by rw[ab];exact C
    refine af (P _ ?_)
    refine af (oV F rfl ?_ (iL U))
    refine ar (ar ?_)
    exact h _ _ H (R.trans (ic _ a _)) ⟨_,t3,zIJ F,v.perm T,U,G,(p.1.trans l2).trans u,.inr (p.2 p2)⟩ (.inr ⟨J,(T.map _).trans O⟩)
   ·exact ar (ar (h _ _ c R ⟨_,n,F,v,C,f2,l2.trans u,.inr p2⟩ (.inr ⟨J,O⟩)))
  obtain⟨tk,rfl⟩:=eu m
  by_cases I:Y.plain=true
  ·rw[if_pos I]
   refine af ?_
   rw[hashByValue_scannable 8 B]
   refine ar ?_
   exact tail {Y with plain:=false} g i.1 rfl f
  ·rw[if_neg I]
   refine af (ar ?_)
   simp only[↓reduceIte]
   exact tail Y g i.1 (by simpa using I) f
end
def jT (prog:aJ)(w:aY)(h:bE)(a:ak)(ks:List Str):Prop:=∃es,zAq prog w h a es/\(jH es).Nodup/\(∀x,x∈jH es↔x∈ks)/\es.size<=ks.length
theorem jT.stay {prog:aJ}{w:aY}{h h':bE}{S:ak}{ks:List Str}(x:jT prog w h S ks)(e:∀o,h.get? S=some o->h'.get? S=some o):jT prog w h' S ks:=by
 obtain⟨a,⟨ep,t,b,r⟩,q⟩:=x
 exact⟨a,⟨ep,t,e _ b,r⟩,q⟩
section
variable{prog:aJ}{w:aY}{A:bO}{R:qh->ao->Prop}{I:ak}{fp wr:List ak}{G:Array qe->Array qe->Prop}{P:Nat->aj->Prop}{St:Nat->ao->Prop}
theorem zPG {ks:List Str}(W:WalksS prog w A.in1 I fp wr G ks.length P St)(S:ak)(r:S∉fp)(hv:∀i v,P i v->dw (ks.getD i ⟨#[]⟩) v=true)(H:ks.length+1<scanBound) :
  ∀(m i:Nat) (s:ao),ks.length-i=m->i<=ks.length->St i s->jT prog w s.heap S (ks.take i)->
   (∀s',Moved (S::wr) G s s'->jT prog w s'.heap S ks->R (.ok (.ret .none)) s')->
   codeAny (model prog w) A (.builtin "set.update.loop" ⟨[.ref S,.ref I],[]⟩) R s:=by
 have t:S∉wr:=fun z=>r (W.sub _ z)
 have more:∀b∈wr,b∈S::wr:=fun b z=>aC _ z
 intro m
 induction m with
 |zero=>
  intro i s e1 B st x f
  obtain rfl:i=ks.length:=by omega
  refine dP md ?_
  rw[dD iA _]
  refine af (m:=pyNext (.ref I)) (W.done s _ _ st fun s' mv=>?_)
  rw[bo]at x
  exact ar (f s' (mv.mono more) (x.stay fun o g=>mv.heap S _ t g))
 |succ m ih=>
  intro i s e1 B st x f
  have lt:i<ks.length:=by omega
  refine dP md ?_
  rw[dD iA _]
  refine af (m:=pyNext (.ref I)) (W.item i s _ _ lt st fun v s' C h mv=>?_)
  have u:=hv i v C
  obtain⟨j,D,nd,mem,sz⟩:=x.stay fun o g=>mv.heap S _ t g
  have a:j.size+1<scanBound:=by rw[aI]at sz;omega
  refine af (m:=holding [v] (setAdd S v)) (cY ?_)
  unfold setAdd
  refine cY (af ((gd prog w).pyHash (k:=ks.getD i ⟨#[]⟩) u ?_))
  refine zPF (s:={s' with toks:=s'.toks+1}) u D a fun b h' es' sb y E=>?_
  have d:ks.take (i+1)=ks.take i++[ks.getD i ⟨#[]⟩]:=by
   rw[aB lt];simp[lt]
  have F:jT prog w h' S (ks.take (i+1)):=by
   rcases E with⟨l,pm⟩|⟨n,pm⟩
   ·have pt:(jH es').Perm (jH j):=pm.map _
    refine⟨es',y,pt.nodup_iff.mpr nd,fun z=>?_,?_⟩
    ·rw[pt.mem_iff,mem z,d,bw,aS]
     exact⟨.inl,fun q=>q.elim id fun q=>q▸ (mem _).mp l⟩
    ·have:es'.size=j.size:=by rw[<-bj,pm.length_eq,bj]
     rw[this,d,au];omega
   ·refine⟨es',y,pm.nodup_iff.mpr (bz.mpr ⟨n,nd⟩),fun z=>?_,?_⟩
    ·rw[pm.mem_iff,aG,mem z,d,bw,aS]
     exact Or.comm
    ·have:=pm.length_eq
     simp only[ah,bj,aM]at this
     rw[this,d,au,br];omega
  refine ar ⟨gb iA _,ih (i+1) _ (by omega) lt (W.frame _ s' _ _ h (gm _) fun b hb o e=>?_) F fun p c z=>?_⟩
  ·exact(sb.2 b (fun q=>r (by rw[<-q];exact hb))).trans e
  ·refine f p (Moved.trans W.gtrans ((mv.mono more).then_heap (gm _) fun b o hb e=>?_) c) z
   exact(sb.2 b (fun q=>hb (by rw[q];exact az))).trans e
end
section
variable{prog:aJ}{w:aY}{A:bO}{E:aj->ao->Prop}{s:ao}
theorem zPH:isSubtype (.type "tuple") (.type "set")=pure false:=by
 rw[iM];kernel_rfl
theorem zPI:isSubtype (.type "tuple") (.type "frozenset")=pure false:=by
 rw[iM];kernel_rfl
abbrev qU (w:aY):Obj:=qC #[] 0 (.fresh 0 0 (!w.params.followText "set-order"))
theorem zPJ (prog:aJ)(w:aY){h:bE}{a:ak}(e:h.get? a=some (qU w)):jT prog w h a [] :=
 ⟨#[],⟨0,_,e,(fun _ q=>nomatch q),(by unfold scanBound;decide),rfl,rfl,.inl rfl⟩,List.nodup_nil,(fun _=>ub),ay _⟩
theorem zPK (a:aj){Q₁:aj->ao->Prop}(h:Q₁ (.ref s.heap.objs.size) {s with heap:=s.heap.push (qU w)}) :
  codeAny (model prog w) A (.call (.builtin "set.__new__") ⟨[.type "set",a],[]⟩) (wants Q₁ E) s:=by
 refine mO ?_
 show wpAny _ A.in1 (do checkBuiltinCall "set.__new__" ⟨[.type "set",a],[]⟩;again (.builtin "set.__new__" ⟨[.type "set",a],[]⟩)) _ _ s
 refine af (ng (F.newCall_set_1 a) (ar ⟨gb pX _,dP F.entry_set_new ?_⟩))
 rw[dD pX _]
 unfold cQ.«set.__new__» qw
 have b:=sub_set_self
 obtain⟨c,g,d,tk,os⟩:=s
 dsimp only
 wp_walk
 refine me (ar ?_)
 dsimp only
 simp only[newObj]
 refine af (wpAny_alloc (ar ?_))
 exact ar h
theorem zPL {z:bO}{R:qh->ao->Prop}{l:ak}{items:Array aj}{ks:List Str}(B:A.handled=none)(hl:s.heap.IsTuple l items)(d:items.size=ks.length)(hv:∀i v,items[i]?=some v->dw (ks.getD i ⟨#[]⟩) v=true)(hb:ks.length+1<scanBound)
  (C:∀h' tk,jT prog w h' s.heap.objs.size ks->(∀b o,b<s.heap.objs.size->s.heap.get? b=some o->h'.get? b=some o)->R (.ok (.ret .none)) {s with heap:=h',toks:=tk}) :
  wpAny (model prog w) A (cQ.«set.__init__» ⟨[.ref s.heap.objs.size,.ref l],[]⟩) (fun fin s'=>match fin with| .done f=>R (.ok f) s'| .again r=>r.quiet=true/\codeAny (model prog w) z r R s') (fun e s'=>R (.error e) s') {s with heap:=s.heap.push (qU w)}:=by
 have new:(s.heap.push (qU w)).get? s.heap.objs.size=some (qU w):=aA _ rfl
 have ty:lJ {s with heap:=s.heap.push (qU w)} (.ref s.heap.objs.size) "set" :=⟨_,new,rfl⟩
 obtain⟨ol,g,h,nl,j⟩:=id hl
 obtain⟨t,c,m,a⟩:=ol
 simp only at h j
 subst h;subst j
 have old:(s.heap.push (qU w)).get? l=some {cls:=.type "tuple",dict:=c,data:=.seq items nl,slots:=a}:=ae _ g
 have I:=zPH
 have J:=zPI
 have L:(Value.type "tuple"==Value.type "dict")=false:=by decide
 have tl:(s.heap.push (qU w)).IsTuple l items:=⟨_,old,rfl,nl,rfl⟩
 unfold cQ.«set.__init__» noKeywords pY
 generalize n:pyIter=PI
 wp_walk
 subst n
 refine fM tl (af (qx ?_))
 have u:l<s.heap.objs.size:=aE g
 have D:A.in1.handled=none:=by simp[B]
 have ne:l≠(s.heap.push (qU w)).objs.size:=by
  rw[bF]
  exact bc (bV u)
 have F:s.heap.objs.size∉ [(s.heap.push (qU w)).objs.size,l]:=by
  rw[bF]
  simp only[aG,aS,dE,or_false,not_or]
  exact⟨bc (dB _),cS u⟩
 have y:=(Walks.tuple (prog:=prog) (w:=w) (A:=A.in1) D _ l ne items).toS
 rw[d]at y
 refine zPG y s.heap.objs.size F hv hb (ks.length-0) 0 _ (by omega) (bp _) ?st0 ?x0 fun s' mv x=>?_
 case st0=>exact⟨⟨_,aA _ rfl,rfl,rfl⟩,tl.push _⟩
 case x0=>exact zPJ prog w (ae _ new)
 obtain⟨h',g',d',p,q⟩:=s'
 obtain rfl:g'=s.gens:=mv.gens
 obtain rfl:d'=s.drawn:=mv.drawn
 obtain rfl:q=s.os:=mv.os
 refine ar ?_
 refine ar (C h' p x fun b o hb e=>?_)
 have G:b≠s.heap.objs.size:=bc hb
 have H:b≠(s.heap.push (qU w)).objs.size:=by
  rw[bF]
  exact bc (bV hb)
 refine mv.heap b o ?_ (ae _ (ae _ e))
 simp only[aG,aS,dE,or_false,not_or]
 exact⟨G,H⟩
theorem zPM {l:ak}{items:Array aj}{ks:List Str}{Q:aj->ao->Prop}(j:A.handled=none)(hl:s.heap.IsTuple l items)(d:items.size=ks.length)(hv:∀i v,items[i]?=some v->dw (ks.getD i ⟨#[]⟩) v=true)(hb:ks.length+1<scanBound)
  (h:∀h' tk,jT prog w h' s.heap.objs.size ks->(∀b o,b<s.heap.objs.size->s.heap.get? b=some o->h'.get? b=some o)->Q (.ref s.heap.objs.size) {s with heap:=h',toks:=tk}) :
  wpAny (model prog w) A (call (.type "set") [.ref l]) Q E s:=by
 obtain⟨p,m,t⟩:=fW.mro
 have u:=fW.made
 have y:=fW.sub
 refine nZ (mO (?_:wpAny _ _ (callAny (.type "set") _) _ _ _))
 refine ar (And.intro (oa _ (by decide+kernel)) (dP oW ?_))
 rw[og (mV "set" [Value.ref l] []) rfl]
 have z:=fW.notType
 have B:=fW.canCreate
 have C:=F.typeCall_set_1 (.ref l)
 all_goals (repeat(any_goals (first|assumption|wp_step)))
 refine fb (zPK (w:=w) (.ref l) (E:=E) (Q₁:=fun v f=>v=.ref s.heap.objs.size/\f={s with heap:=s.heap.push (qU w)}) ⟨rfl,rfl⟩) fun r f c=>?_
 match r,c with
 | .error e,c=>exact c
 | .ok (.ret v),c=>
  obtain⟨rfl,rfl⟩:=c
  have ty:lJ {s with heap:=s.heap.push (qU w)} (.ref s.heap.objs.size) "set" :=⟨_,aA _ rfl,rfl⟩
  have D:=fW.init.lookup
  have G:=fW.init.bind (.ref s.heap.objs.size)
  all_goals (repeat(any_goals (first|assumption|wp_step)))
  refine fb (jj (R:=wants (fun q g=>q=.none/\∃h' tk,g={s with heap:=h',toks:=tk}/\jT prog w h' s.heap.objs.size ks/\∀b o,b<s.heap.objs.size->s.heap.get? b=some o->h'.get? b=some o) E)
   fW.init.plain F.entry_set_init (check_set_init_1 ty (zPL (by simp[j]) hl d hv hb fun h' tk x k=>⟨rfl,h',tk,rfl,x,k⟩))) fun n g a=>?_
  match n,a with
  | .error e,a=>exact a
  | .ok (.ret q),a=>
   obtain⟨rfl,h',tk,rfl,x,k⟩:=a
   all_goals (repeat(any_goals (first|assumption|wp_step)))
   exact h _ _ x k
  | .ok .next,a=>exact a.elim
  | .ok .brk,a=>exact a.elim
  | .ok .cont,a=>exact a.elim
 | .ok .next,c=>exact c.elim
 | .ok .brk,c=>exact c.elim
 | .ok .cont,c=>exact c.elim
end
theorem zIK:Manifest.owners.lookup (String.ofList ['r','o','t','a','r','e','t','i','_','t','e','s'].reverse)=some Manifest.sig_set_iterator:=by kernel_rfl
theorem k9:Slot "set_iterator" "__next__" "set_iterator.__next__" :=
 .of (owner :="set_iterator") (n :="__next__") (by rw[mP,iS];kernel_rfl) (by decide+kernel) (by decide+kernel) (by decide+kernel)
  (by first|exact .inl (by decide+kernel)|exact .inr (by decide+kernel)) (by rw[iM];kernel_rfl)
theorem zES:entryFor table "set_iterator.__next__"=some cQ.«set_iterator.__next__»:=pD (by kernel_rfl)
theorem zET (a:aj):argsOk "set_iterator.__next__" ⟨[a],[]⟩:=by
 unfold argsOk;rw[nU (id :="set_iterator.__next__") (n:=['_','_','t','x','e','n','_','_']) (o:=['r','o','t','a','r','e','t','i','_','t','e','s']) (by kernel_rfl) zIK];kernel_rfl
theorem zIL:Slot "set_iterator" "__iter__" "set_iterator.__iter__" :=
 .of (owner :="set_iterator") (n :="__iter__") (by rw[mP,iS];kernel_rfl) (by decide+kernel) (by decide+kernel) (by decide+kernel)
  (by first|exact .inl (by decide+kernel)|exact .inr (by decide+kernel)) (by rw[iM];kernel_rfl)
theorem zPN:entryFor table "set_iterator.__iter__"=some cQ.«dict_keyiterator.__iter__» :=
 nv (id' :="dict_keyiterator.__iter__") (by kernel_rfl) (by first|rfl|decide+kernel|(unfold qy;simp+decide [oX])) (by decide+kernel) (by kernel_rfl)
theorem zPO (a:aj):argsOk "set_iterator.__iter__" ⟨[a],[]⟩:=by
 unfold argsOk;rw[nU (id :="set_iterator.__iter__") (n:=['_','_','r','e','t','i','_','_']) (o:=['r','o','t','a','r','e','t','i','_','t','e','s']) (by kernel_rfl) zIK];kernel_rfl
theorem zPP:entryFor table "set.__iter__"=some cQ.«frozenset.__iter__» :=
 nv (id' :="frozenset.__iter__") (by kernel_rfl) (by first|rfl|decide+kernel|(unfold qy;simp+decide [oX])) (by decide+kernel) (by kernel_rfl)
abbrev gA (f:aj)(i:Nat)(a:ak)(n ep:Nat):Obj:={cls:=.type "set_iterator",dict:=none,data:=.fields #[f,.int i 0,.ref a,.int n 0,.int ep 0]}
section
variable{prog:aJ}{w:aY}{A:bO}{E:aj->ao->Prop}{s:ao}
theorem zPQ {I a T:ak}{i ep:Nat}{b:Array (Int×aj)}{t:eQ}{pl:List Nat}{e1 j:Nat}{x:Int×aj}{Q:Option aj->ao->Prop}
  (hi:s.heap.get? I=some (gA (.ref T) i a b.size ep)) (ha:s.heap.get? a=some (qC b ep t)) (hf:t.fits b.size=true) (c:s.heap.get? T=some (seqObj "tuple" (pl.map fun(i:Nat)=>rawInt i).toArray e1)) (d:pl[i]?=some j) (e:b[j]?=some x)
  (f:∀h',h'.get? I=some (gA (.ref T) (i+1) a b.size ep)->gq I s.heap h'->Q (some x.2) {s with heap:=h'}) :
  wpAny (model prog w) A (pyNext (.ref I)) Q E s:=by
 have ty:s.TypeIs (.ref I) "set_iterator" :=⟨_,hi,rfl⟩
 unfold pyNext
 refine af (f9 (bS (name:=b8 "__next__") ty k9 (bT k9 ty zES ?_ (zET _))))
 unfold cQ.«set_iterator.__next__»
 refine af (m:=slotArgs "__next__" 0 _) (ar ?_)
 refine af (nB hi rfl ?_)
 dsimp only
 refine af (ig ha rfl hf ?_)
 rw[if_neg (by simp)]
 refine af (di c rfl ?_)
 have g:((pl.map fun(i:Nat)=>rawInt i).toArray)[((i:Nat):Int).toNat]?=some (.int (j:Int) 0):=by
  rw[dh,mW,aw,d];rfl
 dsimp only
 rw[g]
 dsimp only
 unfold setNextDrawn
 refine af (af (fk ha rfl hf ?_))
 dsimp only
 rw[dh,dh,if_neg (by simp),e]
 refine ar ?_
 refine af (bZ hi (by simp) fun h' h sb=>?_)
 exact ar ⟨_,rfl,ar (f h' (by rw[h];rfl) sb)⟩
theorem zIM {Q:Option aj->ao->Prop}{R:pq->ao->Prop}(c:A.handled=none)(d:∀h',(∀b o,s.heap.get? b=some o->h'.get? b=some o)->Q none {s with heap:=h'}) :
  wpAny (model prog w) A.in1 (do let e<-newExc (.type "StopIteration") [];raiseNew e) R (fun e s'=>wpAny (model prog w) A (do let b<-isInstance e (.type "StopIteration");if b=true then pure none else throw e) Q E s') s:=by
 refine af ?_
 simp only[newExc,newTuple]
 refine af (cj ?_ (by size_fits))
 refine af (m:=firstArgMember _ _) (ng (a:=Value.none) (by first|rfl|(simp only[firstArgMember];rfl)) ?_)
 refine cj ?_ (by size_fits)
 simp only[raiseNew]
 refine af (rX ?_)
 rw[show A.in1.handled=none from c]
 refine af (ar (wpAny_throw ?_))
 refine af (iY (T :="StopIteration") (b:=true) ⟨_,aA _ rfl,rfl⟩ nj ?_)
 exact ar (d _ fun b o e=>ae _ (ae _ e))
theorem zPR {I a T:ak}{i ep:Nat}{c:Array (Int×aj)}{t:eQ}{pl:List Nat}{e1:Nat}{Q:Option aj->ao->Prop}(g:A.handled=none)
  (hi:s.heap.get? I=some (gA (.ref T) i a c.size ep)) (ha:s.heap.get? a=some (qC c ep t)) (hf:t.fits c.size=true) (h:s.heap.get? T=some (seqObj "tuple" (pl.map fun(i:Nat)=>rawInt i).toArray e1)) (j:pl[i]?=none)
  (l:∀h',(∀b o,b≠I->s.heap.get? b=some o->h'.get? b=some o)->Q none {s with heap:=h'}) :
  wpAny (model prog w) A (pyNext (.ref I)) Q E s:=by
 have ty:s.TypeIs (.ref I) "set_iterator" :=⟨_,hi,rfl⟩
 unfold pyNext
 refine af (f9 (bS (name:=b8 "__next__") ty k9 (bT k9 ty zES ?_ (zET _))))
 unfold cQ.«set_iterator.__next__»
 refine af (m:=slotArgs "__next__" 0 _) (ar ?_)
 refine af (nB hi rfl ?_)
 dsimp only
 refine af (ig ha rfl hf ?_)
 rw[if_neg (by simp)]
 refine af (di h rfl ?_)
 have n:((pl.map fun(i:Nat)=>rawInt i).toArray)[((i:Nat):Int).toNat]?=none:=by
  rw[dh,mW,aw,j];rfl
 dsimp only
 rw[n]
 dsimp only
 refine af (bZ hi (by simp) fun p q d=>?_)
 refine af (bZ (s:={s with heap:=p}) q (by simp) fun r v f=>?_)
 refine zIM (s:={s with heap:=r}) g fun u ex=>l u fun b o hb e=>ex b o ?_
 exact(f.2 b hb).trans ((d.2 b hb).trans e)
theorem zCS {Q:Bool->ao->Prop}(h:Q (w.params.followText "set-order") s):wpAny (model prog w) A setsByText Q E s:=by
 unfold setsByText
 exact af (me (ar h))
theorem zPS {a:ak}{ep:Nat}{b:Array (Int×aj)}{t:eQ}{Q:Array (Int×aj)->ao->Prop}(ha:s.heap.get? a=some (qC b ep t))(hf:t.fits b.size=true)(hb:w.params.followText "set-order"=true)(h:Q (pickOrder (w.params.setOrder a ep) b) s) :
  wpAny (model prog w) A (setWalk a) Q E s:=by
 unfold setWalk
 refine af (fk ha rfl hf ?_)
 dsimp only
 refine af (zCS ?_)
 rw[hb]
 exact af (me (ar h))
theorem zCT {I a:ak}{f i ep:Nat}{d:Array (Int×aj)}{t:eQ}{r:Option (aj×Nat)}{Q:Option aj->ao->Prop}(q:A.handled=none)
  (hi:s.heap.get? I=some (gA (.int f 0) i a d.size ep)) (ha:s.heap.get? a=some (qC d ep t)) (hf:t.fits d.size=true)
  (u:∀(A:bO) (E:aj->ao->Prop) (Q:Option (aj×Nat)->ao->Prop),Q r s->wpAny (model prog w) A (setNext a f i ep) Q E s)
  (g:∀x j,r=some (x,j)->∀h',h'.get? I=some (gA (.int j 0) (i+1) a d.size ep)->gq I s.heap h'->Q (some x) {s with heap:=h'})
  (h:r=none->∀h',(∀b o,b≠I->s.heap.get? b=some o->h'.get? b=some o)->Q none {s with heap:=h'}) :
  wpAny (model prog w) A (pyNext (.ref I)) Q E s:=by
 have ty:s.TypeIs (.ref I) "set_iterator" :=⟨_,hi,rfl⟩
 unfold pyNext
 refine af (f9 (bS (name:=b8 "__next__") ty k9 (bT k9 ty zES ?_ (zET _))))
 unfold cQ.«set_iterator.__next__»
 refine af (m:=slotArgs "__next__" 0 _) (ar ?_)
 refine af (nB hi rfl ?_)
 dsimp only
 refine af (ig ha rfl hf ?_)
 rw[if_neg (by simp)]
 rw[dh,dh,dh]
 refine af (u _ _ _ ?_)
 match r,g,h with
 |none,_,h=>
  dsimp only
  refine af (bZ hi (by simp) fun l p c=>?_)
  exact zIM (s:={s with heap:=l}) q fun v ex=>h rfl v fun b o hb e=>ex b o ((c.2 b hb).trans e)
 |some (x,j),g,_=>
  dsimp only
  refine af (bZ hi (by simp) fun l p c=>?_)
  refine af (bZ (s:={s with heap:=l}) p (by simp) fun y z n=>?_)
  exact ar ⟨_,rfl,ar (g x j rfl y (by rw[z];rfl) (c.trans n))⟩
theorem zIN {a:ak}{f i ep:Nat}{b:Array (Int×aj)}{t:eQ}{Q:Option (aj×Nat)->ao->Prop}(ha:s.heap.get? a=some (qC b ep t))(hf:t.fits b.size=true)(hb:w.params.followText "set-order"=true)
  (h:Q (((pickOrder (w.params.setOrder a ep) b)[i]?).map fun e=>(e.2,f)) s):wpAny (model prog w) A (setNext a f i ep) Q E s:=by
 unfold setNext
 refine af (fk ha rfl hf ?_)
 dsimp only
 refine af (zCS ?_)
 rw[hb,if_pos rfl,if_neg (by simp)]
 refine af (zPS ha hf hb ?_)
 exact ar h
theorem zIO {a:ak}{f i ep:Nat}{b:Array (Int×aj)}{t:eQ}{Q:Option (aj×Nat)->ao->Prop}(ha:s.heap.get? a=some (qC b ep t))(hf:t.fits b.size=true)(hb:w.params.followText "set-order"=false)(hl:t.led=true)(d:b.size<=1)
  (h:Q (match b[eR t.place f]?,t.place[eR t.place f]? with|some (_,x),some j=>some (x,j+1)|_,_=>none) s):wpAny (model prog w) A (setNext a f i ep) Q E s:=by
 unfold setNext
 refine af (fk ha rfl hf ?_)
 dsimp only
 refine af (zCS ?_)
 rw[hb,if_neg (by decide)]
 refine ir (fun hd=>?_) (fun _=>?_)
 ·have c:(!t.plain&&decide (b.size>1))=true:=hd
  simp only[aO,decide_eq_true_eq]at c
  omega
 ·show wpAny _ _ ((if(!t.led&&!b.isEmpty)=true then unsupported "set:maker-not-led"else pure ())>>=_) _ _ _
  rw[hl,if_neg (by simp)]
  exact af (ar (ar h))
theorem zEU {α:Type}:∀{l:List α}{i:Nat} (h:i<l.length),(l[i]::l.eraseIdx i).Perm l
 |x::l,0,h=>dz _
 |x::l,i+1,h=>by
  have q:=zEU (l:=l) (i:=i) (by simpa using h)
  exact(List.Perm.swap ..).trans (q.cons x)
theorem zEV {α:Type}(next:Nat->Nat)(xs:Array α):(pickOrder next xs).toList.Perm xs.toList:=by
 have go:∀(a k:Nat) (left:List α) (out:Array α),left.length=a->(oY next a k left out).toList.Perm (out.toList++left):=by
  intro a
  induction a with
  |zero=>
   intro k left out e
   rw[cq.mp e]
   simp[oY]
  |succ a ih=>
   intro k left out e
   have lt:next k%left.length<left.length:=qr _ (by omega)
   unfold oY
   rw[aq lt]
   dsimp only
   refine(ih _ _ _ (by rw[kx lt,e];rfl)).trans ?_
   rw[lr,dG]
   refine sW _ ?_
   exact zEU lt
 have:=go xs.size 0 xs.toList #[] rfl
 simpa [pickOrder]using this
theorem zPT {a:Source}{n:Nat}{Q:Nat->ao->Prop}(b:0<n)(h:∀d r,r<n->Q r {s with drawn:=d}):wpAny (model prog w) A (choose a n) Q E s :=
 fun Γ p c=>⟨cS b,h _ _ (qr _ b)⟩
theorem zIP {α:Type}:∀(n:Nat) (xs:List α) {s:ao}{Q:List α->ao->Prop},xs.length=n->(∀d ord,ord.Perm xs->Q ord {s with drawn:=d})->wpAny (model prog w) A (drawOrder n xs) Q E s
 |0,xs,s,Q,e,h=>by
  rw[cq.mp e]at h
  unfold drawOrder
  have:s={s with drawn:=s.drawn}:=rfl
  exact ar (h s.drawn [] (dz _))
 |n+1,[],s,Q,e,h=>by cases e
 |n+1,x::xs,s,Q,e,h=>by
  unfold drawOrder
  refine af (zPT (by rw[e];omega) fun d r a=>?_)
  rw[aq a]
  dsimp only
  refine af (zIP n _ (by rw[kx a,e];rfl) fun b ord pm=>?_)
  refine ar (h b _ ?_)
  exact(pm.cons _).trans (zEU a)
theorem zEW {I:ak}{f:aj}{i:Nat}{a:ak}{n ep:Nat}{Q:aj->ao->Prop}(hi:s.heap.get? I=some (gA f i a n ep))(h:Q (.ref I) s):wpAny (model prog w) A (pyIter (.ref I)) Q E s:=by
 have ty:s.TypeIs (.ref I) "set_iterator" :=⟨_,hi,rfl⟩
 refine lG ty zIL (bT zIL ty zPN ?_ (zPO _))
 show wpAny _ _ (ret (.ref I)) _ _ s
 exact ar ⟨_,rfl,"set_iterator",_,ty,k9.lookup,h⟩
theorem zPU {I a:ak}{ep:Nat}{c:Array (Int×aj)}{t:eQ}(l:A.handled=none)(ne:a≠I)(hf:t.fits c.size=true)(hb:w.params.followText "set-order"=true) :
  Walks prog w A I [I,a] [I] c.size (fun i v=>((pickOrder (w.params.setOrder a ep) c).toList.map (·.2))[i]?=some v) (fun i h=>h.get? I=some (gA (.int 0 0) i a c.size ep)/\h.get? a=some (qC c ep t)) where
 sub:=fun b hb=>by simp at hb;simp[hb]
 frame:=fun _ _ _ st m=>⟨m I (by simp) _ st.1,m a (by simp) _ st.2⟩
 item:=fun i s Q E lt st d=>by
  have g:(pickOrder (w.params.setOrder a ep) c).size=c.size:=by rw[<-bj,(zEV _ c).length_eq,bj]
  have li:i<(pickOrder (w.params.setOrder a ep) c).size:=by rw[g];exact lt
  refine zCT (f:=0) (r:=some ((pickOrder (w.params.setOrder a ep) c)[i].2,0)) l st.1 st.2 hf (fun A E Q q=>zIN st.2 hf hb (by rw[dt li];exact q)) (fun x j e h' e1 sb=>?_) (fun e=>nomatch e)
  injection e with e
  injection e with n p
  subst n p
  refine d _ h' s.toks ?_ ⟨e1,(sb.2 a ne).trans st.2⟩ fun b o hb e=>(sb.2 b (by simpa using hb)).trans e
  rw[aw,dR,dt li];rfl
 done:=fun s Q E st d=>by
  have g:(pickOrder (w.params.setOrder a ep) c).size=c.size:=by rw[<-bj,(zEV _ c).length_eq,bj]
  refine zCT (f:=0) (r:=none) l st.1 st.2 hf (fun A E Q q=>zIN st.2 hf hb (by rw[mG (by rw[g];exact ay _)];exact q)) (fun _ _ e=>nomatch e) (fun _ h' k=>?_)
  exact d h' s.toks fun b o hb e=>k b o (by simpa using hb) e
 self:=fun _ _ _ _ st d=>zEW st.1 d
theorem zPV {I a T:ak}{ep e1:Nat}{c:Array (Int×aj)}{t:eQ}{pl:List Nat}(l:A.handled=none)(ne:a≠I)(nt:T≠I)(hf:t.fits c.size=true)(hl:pl.length=c.size)(m:∀j∈pl,j<c.size) :
  Walks prog w A I [I,a,T] [I] c.size (fun i v=>(pl.map fun j=>(c.getD j (0,.none)).2)[i]?=some v) (fun i h=>h.get? I=some (gA (.ref T) i a c.size ep)/\h.get? a=some (qC c ep t)/\h.get? T=some (seqObj "tuple" (pl.map fun(i:Nat)=>rawInt i).toArray e1)) where
 sub:=fun b hb=>by simp at hb;simp[hb]
 frame:=fun _ _ _ st f=>⟨f I (by simp) _ st.1,f a (by simp) _ st.2.1,f T (by simp) _ st.2.2⟩
 item:=fun i s Q E lt st d=>by
  have li:i<pl.length:=by rw[hl];exact lt
  have g:pl[i]<c.size:=m _ (c9 li)
  refine zPQ (j:=pl[i]) (x:=c[pl[i]]) st.1 st.2.1 hf st.2.2 (aq li) (dt g) fun h' n sb=>?_
  refine d _ h' s.toks ?_ ⟨n,(sb.2 a ne).trans st.2.1,(sb.2 T nt).trans st.2.2⟩ fun b o hb e=>(sb.2 b (by simpa using hb)).trans e
  rw[aw,aq li]
  simp[g]
 done:=fun s Q E st d=>zPR l st.1 st.2.1 hf st.2.2 (eS (by rw[hl];exact ay _)) fun h' k=>d h' s.toks fun b o hb e=>k b o (by simpa using hb) e
 self:=fun _ _ _ _ st d=>zEW st.1 d
theorem zPW (j:Nat):eR #[j] (j+1)=1:=by
 unfold eR
 simp[oZ]
theorem zPX (j:Nat):eR #[j] 0=0:=by
 unfold eR
 simp[oZ]
theorem zPY {I a:ak}{ep:Nat}{es:Array (Int×aj)}{t:eQ}(hh:A.handled=none)(ne:a≠I)(hf:t.fits es.size=true)(hb:w.params.followText "set-order"=false)(hl:t.led=true)(h1:es.size<=1) :
  Walks prog w A I [I,a] [I] es.size (fun i v=>(es.toList.map (·.2))[i]?=some v) (fun i h=>h.get? I=some (gA (.int ((if i=0 then 0 else t.place.getD 0 0+1:Nat):Int) 0) i a es.size ep)/\h.get? a=some (qC es ep t)) where
 sub:=fun b hb=>by simp at hb;simp[hb]
 frame:=fun _ _ _ st hk=>⟨hk I (by simp) _ st.1,hk a (by simp) _ st.2⟩
 item:=fun i s Q E lt st hQ=>by
  obtain rfl:i=0:=by omega
  have z1:es.size=1:=by omega
  have pz:t.place.size=1:=by
   simp only[sg,aO,beq_iff_eq]at hf
   rw[hf.1,z1]
  obtain⟨j,hj⟩ : ∃j,t.place= #[j] :=⟨t.place[0],by apply Array.ext<;>simp[pz];intro i hi;have : i=0 :=by omega
                                                   subst this;rfl⟩
  have li:0<es.size:=by omega
  refine zCT (f:=0) (r:=some (es[0].2,j+1)) hh st.1 st.2 hf (fun A E Q q=>zIO st.2 hf hb hl h1 (by rw[hj,zPX,dt li];exact q)) (fun x j' e h' e1 sb=>?_) (fun e=>nomatch e)
  injection e with e
  injection e with e2 e3
  subst e2 e3
  refine hQ _ h' s.toks ?_ ⟨?_,(sb.2 a ne).trans st.2⟩ fun b o hb e=>(sb.2 b (by simpa using hb)).trans e
  ·rw[aw,dR,dt li];rfl
  ·rw[e1,hj];rfl
 done:=fun s Q E st hQ=>by
  have nx:(match es[eR t.place (if es.size=0 then 0 else t.place.getD 0 0+1)]?,t.place[eR t.place (if es.size=0 then 0 else t.place.getD 0 0+1)]? with|some (_,x),some j=>some (x,j+1)|_,_=>(none:Option (aj×Nat)))=none:=by
   have hz:t.place.size=es.size:=by
    simp only[sg,aO,beq_iff_eq]at hf
    exact hf.1
   by_cases z:es.size=0
   ·have:es=#[]:=Array.size_eq_zero_iff.mp z
    subst this
    simp
   ·have z1:es.size=1:=by omega
    obtain⟨j,hj⟩ : ∃j,t.place= #[j] :=⟨t.place[0],by apply Array.ext<;>simp[hz,z1];intro i hi;have : i=0 :=by omega
                                                     subst this;rfl⟩
    rw[if_neg z,hj]
    have e4:(#[j]:Array Nat).getD 0 0=j:=rfl
    rw[e4,zPW,mG (by rw[z1];exact ay _)]
  refine zCT (r:=none) hh st.1 st.2 hf (fun A E Q q=>zIO st.2 hf hb hl h1 (by rw[nx];exact q)) (fun _ _ e=>nomatch e) (fun _ h' k=>?_)
  exact hQ h' s.toks fun b o hb e=>k b o (by simpa using hb) e
 self:=fun _ _ _ _ st hQ=>zEW st.1 hQ
theorem zPZ {a:ak}{c:Array (Int×aj)}{Q:aj->ao->Prop}(u:A.handled=none)(D:zAq prog w s.heap a c)
  (x:∀(I:ak) (f:bE) (d:Drawn) (ord:List aj) (fp:List ak) (St:Nat->bE->Prop),ord.Perm (c.toList.map (·.2))->Walks prog w A I fp [I] c.size (fun i v=>ord[i]?=some v) St->St 0 f->s.heap.objs.size<=I->(∀b∈fp,b=a\/s.heap.objs.size<=b)->
   (∀b∈fp,b<f.objs.size)->(∀b o,s.heap.get? b=some o->f.get? b=some o)->Q (.ref I) {s with heap:=f,drawn:=d}) :
  wpAny (model prog w) A (pyIter (.ref a)) Q E s:=by
 obtain⟨ep,t,g,G,y,hf,n,B⟩:=id D
 have ty:s.TypeIs (.ref a) "set" :=⟨_,g,rfl⟩
 have r:a<s.heap.objs.size:=aE g
 refine lG ty mX (bT mX ty zPP ?_ (PySem.F.args_set_iter_1 _))
 unfold cQ.«frozenset.__iter__» sC so
 refine af (af (m:=slotArgs "__iter__" 0 _) (ar (ar ?_)))
 refine af (af (ig g rfl hf (ar ?_)))
 unfold setDrawn
 refine af (af (fk g rfl hf ?_))
 dsimp only
 refine af (zCS (ar ?_))
 have C:c.size<=sizeLine:=iL y
 refine ir (fun hd=>?_) (fun hd=>?_)
 ·refine af (zIP c.size (bC c.size) (by simp) fun d pl pm=>?_)
  have pl_len:pl.length=c.size:=by rw[pm.length_eq,bW]
  refine af (kj ?_ (by rw[ah,pl_len];exact C))
  have p:(s.heap.push (seqObj "tuple" (pl.map fun(i:Nat)=>rawInt i).toArray 0)).get? a=some (qC c ep t):=ae _ g
  refine af (o2 p rfl hf ?_)
  refine af (cj (ar ⟨_,rfl,"set_iterator",_,⟨_,aA _ rfl,rfl⟩,k9.lookup,x _ _ d _ _ _ ?pm (zPV (a:=a) (T:=s.heap.objs.size) (t:=t) (ep:=ep) (e1:=0) (pl:=pl) u ?ne ?nt hf pl_len fun j H=>bI.mp (pm.mem_iff.mp H)) ?st ?ge ?fp ?lt ?kp⟩))
  case pm=>
   refine(pm.map _).trans ?_
   rw[show(bC c.size).map (fun j=>(c.getD j (0,Value.none)).2)=c.toList.map (·.2)from ?_]
   apply gx
   ·simp
   ·intro i f J
    have hi:i<c.size:=by simpa using f
    simp[hi]
  case ne=>show a≠(s.heap.push _).objs.size;rw[bF];exact bc (bV r)
  case nt=>show s.heap.objs.size≠(s.heap.push _).objs.size;rw[bF];exact bc (dB _)
  case st=>exact⟨aA _ rfl,ae _ p,ae _ (aA _ rfl)⟩
  case ge=>show s.heap.objs.size<=(s.heap.push _).objs.size;rw[bF];exact gm _
  case fp=>
   intro b hb
   simp only[aG,dE,or_false]at hb
   rcases hb with rfl|rfl|rfl
   ·right;show s.heap.objs.size<=(s.heap.push _).objs.size;rw[bF];exact gm _
   ·exact .inl rfl
   ·exact .inr (ay _)
  case lt=>
   intro b hb
   simp only[aG,dE,or_false]at hb
   rw[bF]
   rcases hb with rfl|rfl|rfl
   ·exact dB _
   ·rw[bF];exact bV (bV r)
   ·rw[bF];exact bV (dB _)
  case kp=>exact fun b o e=>ae _ (ae _ e)
 ·refine af (ar ?_)
  refine af (o2 g rfl hf ?_)
  refine af (cj (ar ⟨_,rfl,"set_iterator",_,⟨_,aA _ rfl,rfl⟩,k9.lookup,?_⟩))
  have ne:a≠s.heap.objs.size:=bc r
  have q:∀b∈[s.heap.objs.size,a],b=a\/s.heap.objs.size<=b:=fun b hb=>by
   simp only[aG,dE,or_false]at hb
   rcases hb with rfl|rfl
   ·exact .inr (ay _)
   ·exact .inl rfl
  have flt:∀(o:Obj),∀b∈[s.heap.objs.size,a],b<(s.heap.push o).objs.size:=fun o b hb=>by
   simp only[aG,dE,or_false]at hb
   rw[bF]
   rcases hb with rfl|rfl
   ·exact dB _
   ·exact bV r
  by_cases hb:w.params.followText "set-order"=true
  ·exact x _ _ s.drawn _ _ _ ((zEV _ c).map _) (zPU (a:=a) (ep:=ep) (t:=t) u ne hf hb) ⟨aA _ rfl,ae _ g⟩ (ay _) q (flt _) fun b o e=>ae _ e
  ·have h:w.params.followText "set-order"=false:=by simpa using hb
   have f:c.size<=1:=by
    have l:¬(!w.params.followText "set-order"&& (!t.plain&&decide (c.size>1)))=true:=hd
    rw[h]at l
    rcases B with z|z
    ·omega
    ·rw[z]at l
     simpa using l
   have hl:t.led=true:=by rw[n,h];rfl
   exact x _ _ s.drawn _ _ _ (dz _) (zPY (a:=a) (ep:=ep) (t:=t) u ne hf h hl f) ⟨aA _ rfl,ae _ g⟩ (ay _) q (flt _) fun b o e=>ae _ e
theorem zPa:typeLookup (.type "set") "__len__"=pure (some (.builtin "set.__len__")):=by rw[mP,iS];kernel_rfl
theorem zPb {r:ak}{Q:Bool->ao->Prop}(d:s.TypeIs (.ref r) "set")(h:Q false s):wpAny (model prog w) A (jw (.ref r)) Q E s:=by
 unfold jw
 refine af (pN d zPa ?_)
 generalize c:("set.__len__" : String)=e
 wp_delta
 rw[show splitId e=some ("set","__len__")from by subst c;decide+kernel]
 subst c
 refine af (iY (T :="set") (b:=true) d (by rw[iM];kernel_rfl) ?_)
 refine ir (fun a=>absurd a (by decide)) (fun _=>?_)
 refine ir (fun _=>?_) (fun a=>absurd (by decide+kernel) a)
 refine af (gr d ?_)
 exact ar h
theorem zPc {a:ak}{es:Array (Int×aj)}{R:List aj->ao->Prop}(hh:A.handled=none)(hS:zAq prog w s.heap a es)
  (h:∀h' tk d ord,ord.Perm (es.toList.map (·.2))->(∀b o,s.heap.get? b=some o->h'.get? b=some o)->R ord {s with heap:=h',toks:=tk,drawn:=d}) :
  wpAny (model prog w) A (collect (.ref a)) R E s:=by
 obtain⟨ep,t,ho,hel,hbd,hf,hled,hpl⟩:=id hS
 have la:a<s.heap.objs.size:=aE ho
 unfold collect
 refine af (qx (dP PySem.F.entry_proto_collect ?_))
 rw[dD PySem.F.plain_proto_collect _]
 show wpAny _ A.in1 (newList []>>=fun l=>again (.builtin "list.__iadd__" ⟨[l,.ref a],[]⟩)) _ _ s
 refine af (cj ?_)
 refine ar ⟨gb mh _,dP PySem.F.entry_list_iadd ?_⟩
 rw[dD mh _]
 show wpAny _ A.in1 (jx (.ref s.heap.objs.size) (.ref a) (.ref s.heap.objs.size)) _ _ _
 have ho1:(s.heap.push {cls:=.type "list",data:=.seq ([]:List aj).toArray}).get? a=some (qC es ep t):=ae _ ho
 have hS1:zAq prog w (s.heap.push {cls:=.type "list",data:=.seq ([]:List aj).toArray}) a es:=⟨ep,t,ho1,hel,hbd,hf,hled,hpl⟩
 have hL:(s.heap.push {cls:=.type "list",data:=.seq ([]:List aj).toArray}).get? s.heap.objs.size=some {cls:=.type "list",data:=.seq #[]}:=aA _ rfl
 unfold jx
 refine af (gr (T :="set") ⟨_,ho1,rfl⟩ ?_)
 have ne:s.heap.objs.size≠a:=cS la
 have q1:lM (.ref s.heap.objs.size) (.ref a)=false:=by simp[lM,ne]
 rw[if_neg (by rw[q1];decide)]
 refine af (zPZ (A:=A.in1) (s:={s with heap:=s.heap.push {cls:=.type "list",data:=.seq ([]:List aj).toArray}}) hh hS1 fun I h1 d ord fp St pm W st ge fpo flt kp=>?_)
 dsimp only at ge fpo kp
 rw[bF]at ge fpo
 have nf:s.heap.objs.size∉fp:=fun z=>by
  rcases fpo _ z with e|e
  ·exact ne e
  ·exact bH _ e
 have hn:es.size<=sizeLine:=iL hbd
 have ol:ord.length=es.size:=by rw[pm.length_eq,ah,bj]
 have key:∀(g:bE) (c₁:Nat),St 0 g->(∀b o,b≠s.heap.objs.size->h1.get? b=some o->g.get? b=some o)->g.get? s.heap.objs.size=some {cls:=.type "list",data:=.seq #[] c₁}->
   codeAny (model prog w) A (.builtin "list.extend.loop" ⟨[.ref s.heap.objs.size,.ref I,.ref s.heap.objs.size],[]⟩) (fun q s'=>∃(h':bE) (tk:Nat) (acc:Array aj) (c':Nat),q=.ok (.ret (.ref s.heap.objs.size))/\s'={s with heap:=h',toks:=tk,drawn:=d}/\
    (∀b o,s.heap.get? b=some o->h'.get? b=some o)/\h'.get? s.heap.objs.size=some {cls:=.type "list",dict:=none,data:=.seq acc c',slots:=#[]}/\acc.toList=ord) {s with heap:=g,drawn:=d}:=by
  intro g c₁ hst hk hg
  refine codeAny_extend_loopS W.toS hn _ nf _ es.size 0 _ #[] c₁ rfl (bp _) hst hg (ItemsOf.nil _) fun s' acc' c' hm hS' hacc=>?_
  have e1:acc'.toList=ord:=by
   apply gx
   ·rw[bj,hacc.1,ol]
   ·intro i i1 i2
    have:ord[i]?=some (acc'[i]'(by simpa using i1)):=hacc.2 i _ (dt (by simpa using i1))
    rw[aq i2]at this
    injection this with this
    simpa using this.symm
  refine⟨s'.heap,s'.toks,acc',c',rfl,sd hm,fun b o e=>?_,hS',e1⟩
  have nb:b≠s.heap.objs.size:=bc (aE e)
  refine hm.heap b o (fun z=>?_) (hk b o nb (kp b o (ae _ e)))
  rcases aG.mp z with e'|z
  ·exact nb e'
  ·rw[aS.mp z]at e
   exact absurd (aE e) (Nat.not_lt.mpr (Nat.le_of_succ_le ge))
 have fin : ∀(q : Result) (s' : Shared),(∃(h' : Heap) (tk : Nat) (acc : Array Value) (c' : Nat),q= .ok (.ret (.ref s.heap.objs.size))/\s'={s with heap :=h',toks :=tk,drawn :=d}/\
       (∀b o,s.heap.get? b=some o->h'.get? b=some o)/\h'.get? s.heap.objs.size=some {cls:=.type "list",dict:=none,data:=.seq acc c',slots:=#[]}/\acc.toList=ord)->
   q=.ok (.ret (.ref s.heap.objs.size))/\wpAny (model prog w) A (load s.heap.objs.size>>=fun o=>match o.data with| .seq xs _=>pure xs.toList|_=>unsupported "internal:collect") R E s':=by
  rintro q s' ⟨h',tk,acc,c',rfl,rfl,kk,hg,e1⟩
  refine⟨rfl,af (wpAny_load hg ?_)⟩
  show wpAny _ _ (pure acc.toList) _ _ _
  rw[e1]
  exact ar (h h' tk d ord pm kk)
 have hL1:=kp _ _ hL
 have hoa:=kp _ _ ho1
 refine af (cY (zPb (s:={s with heap:=h1,drawn:=d}) ⟨_,hoa,rfl⟩ ?_))
 refine ir (fun _=>?_) (fun _=>ar ⟨gb ll _,fb (key h1 _ st (fun b o _ e=>e) hL1) fun q s' y=>?_⟩)
 ·refine af (fR ?_)
  refine af ?_
  show wpAny _ _ (updateSeq s.heap.objs.size (·.push .none)>>=fun _=>updateSeq s.heap.objs.size (·.pop)) _ _ _
  refine af (pZ hL1 rfl ?_)
  have hL2:=gh (bN (·.push Value.none)) hL1 rfl
  refine pZ (hz:=by seq_fits) hL2 rfl ?_
  have hL3:=gh (bN (·.pop)) hL2 rfl
  refine ar ⟨gb ll _,fb (key _ _ ?_ (fun b o hb e=>?_) hL3) fun q s' y=>?_⟩
  ·refine W.frame 0 _ _ st fun b hb o e=>?_
   have hbS:b≠s.heap.objs.size:=fun z=>nf (z▸hb)
   exact(bA _ _ (d5 hbS)).trans ((bA _ _ (d5 hbS)).trans e)
  ·exact(bA _ _ (d5 hb)).trans ((bA _ _ (d5 hb)).trans e)
  ·obtain⟨rfl,y2⟩:=fin q s' y
   exact y2
 ·obtain⟨rfl,y2⟩:=fin q s' y
  exact y2
end
section
open MyS PySem.W
variable{X:Cx}{pins:List (ak×Obj)}{σ:List (Option V)}{H:Hp}{s:ao}
theorem Inv.draw {h':bE}{tk:Nat}{d:Drawn}(I:Inv X pins σ H {s with heap:=h',toks:=tk}):Inv X pins σ H {s with heap:=h',toks:=tk,drawn:=d} :=
 ⟨I.ok,I.os,I.bare,I.base,I.loc,I.cell,I.free,I.freeC,I.pin,I.hok,I.len⟩
theorem Inv.grown {h':bE}{tk:Nat}(I:Inv X pins σ H s)(k:∀b u,s.heap.get? b=some u->h'.get? b=some u):Inv X pins σ H {s with heap:=h',toks:=tk} :=
 I.un (Un.kept k) (I.hok.kept k)
theorem zPd (T:X.calm=true){a:ak}{ks:List Str}{Q:VK}(I:Inv X pins σ H s)(C:jT X.prog X.w s.heap a ks)(U:ks.length<64)
  (q:∀(out:List Str) (l:ak),(∀x,x∈out↔x∈ks)->out.Pairwise (fun a b=>a.cps.toList<b.cps.toList)->H l=none->Q (.ref l) (upd H l (.lst (out.map V.str)))) :
  wpAny (model X.prog X.w) X.A (call (.builtin "sorted") [.ref a]) (EP X pins σ Q) X.xe s:=by
 obtain⟨L,M,nd,mem,sz⟩:=C
 refine lq pI oN oO (args_sorted1 _) ?_
 unfold cQ.«sorted»
 refine af (m:=checkCount "sorted" 1 1 _) (ar ?_)
 refine af (zPc (A:=X.A.in1) (I.ok.hd T) M fun h' tk d ord pm W=>?_)
 have N:Inv X pins σ H {s with heap:=h',toks:=tk,drawn:=d}:=(I.grown W).draw
 obtain⟨ep,t,ho,D,_⟩:=M
 have c:∀v∈ord,∃x u,v=Value.str x u:=fun v hv=>by
  obtain⟨e,Y,rfl⟩:=av.mp (pm.mem_iff.mp hv)
  obtain⟨⟨k,E,_⟩,_⟩:=D e Y
  obtain⟨u,O⟩:=eu E
  exact⟨k,u,O⟩
 have C:qc ord (ord.map uL):=by
  have go:∀l:List aj,(∀v∈l,∃x u,v=Value.str x u)->qc l (l.map uL):=by
   intro l
   induction l with
   |nil=>intro _;exact .nil
   |cons v l ih=>
    intro hl
    obtain⟨x,u,rfl⟩:=hl v (az ..)
    exact .cons _ _ (ih fun v hv=>hl v (aC _ hv))
  exact go ord c
 have pt:(ord.map uL).Perm (jH L):=by
  have:=pm.map uL
  rw[aU]at this
  exact this
 have F:(ord.map uL).Nodup:=pt.nodup_iff.mpr nd
 have ol:ord.length=L.size:=by rw[pm.length_eq,ah,bj]
 have g:ord.length<64:=by omega
 refine af (iZ ?_ (by rw[aF];omega))
 dsimp only
 generalize z:h'.objs.size=B
 have h:(h'.push {cls:=.type "list",data:=.seq ord.toArray}).get? B=some (seqObj "list" ord.toArray 0):=by
  rw[<-z];exact aA _ rfl
 have old:∀b o,h'.get? b=some o->(h'.push {cls:=.type "list",data:=.seq ord.toArray}).get? b=some o/\b≠B:=fun b o e=>⟨ae _ e,by rw[<-z];exact bc (aE e)⟩
 refine af (cY (bT nr ⟨_,h,rfl⟩ mK (zGS (ks:=ord.map uL) h C F g fun p P O f n G J=>⟨_,rfl,?_⟩) (qz _)))
 refine ar ⟨_,rfl,?_⟩
 have r:∀b o,h'.get? b=some o->P.get? b=some o:=fun b o e=>G b o (old _ _ e).2 (old _ _ e).1
 refine⟨.ref B,_,N.laid (t':=tk) (o:=.lst ((p.map fun i=>(ord.map uL).getD i ⟨#[]⟩).map V.str)) r (fN z) ⟨?_,_,_,?_,J⟩,rfl,q _ B ?_ ?_ (N.hok.fresh (fN z))⟩
 ·rw[ah,ah,f.length_eq,bW,aF];omega
 ·have go:∀l:List Nat,(∀i∈l,i<ord.length)->zL ((l.map fun i=>(ord.map uL).getD i ⟨#[]⟩).map V.str) (l.map fun i=>ord.getD i Value.none):=by
   intro l
   induction l with
   |nil=>intro _;exact .nil
   |cons i l ih=>
    intro y
    have hi:i<ord.length:=y i (az ..)
    refine .cons ?_ (ih fun j Z=>y j (aC _ Z))
    obtain⟨x,u,e⟩:=c ord[i] (c9 hi)
    have a1:ord.getD i Value.none=Value.str x u:=by simp[hi,e]
    have a2:(ord.map uL).getD i ⟨#[]⟩=x:=by simp[hi,e,uL]
    show zR (V.str ((ord.map uL).getD i ⟨#[]⟩)) (ord.getD i Value.none)
    rw[a1,a2]
    exact⟨_,rfl⟩
  exact go p fun i hi=>bI.mp (f.mem_iff.mp hi)
 ·intro x
  have e1:(bC ord.length).map (fun i=>(ord.map uL).getD i (⟨#[]⟩:Str))=ord.map uL:=by
   apply gx
   ·simp
   ·intro i h1 P
    have hi:i<ord.length:=by simpa using h1
    simp[hi]
  have R:=f.map (fun i=>(ord.map uL).getD i (⟨#[]⟩:Str))
  rw[e1]at R
  rw[R.mem_iff,pt.mem_iff]
  exact mem x
 ·rw[bq]
  rw[bq]at n
  exact n
def zEX (K:ag)(x:V)(H:Hp)(Q:VK):Prop:=∃(p:ak) (ks:List Str),x=.ref p/\zY K H p (ks.map V.str)/\ks.length<64/\
 ∀(out:List Str) (l:ak),(∀x,x∈out↔x∈ks)->out.Pairwise (fun a b=>a.cps.toList<b.cps.toList)->H l=none->Q (.ref l) (upd H l (.lst (out.map V.str)))
def zPe (K:ag)(t:TE):TE:=fun σ H Q=>t σ H fun x H1=>zEX K x H1 Q
theorem zPf {x y:Str}{e:bJ}{E:TE}{p l pos c:Pos}(F:X.calm=true)(M:PE X e E)(N:Gl X x)(O:X.mg x=none)(hv:bootBuiltins x=some (.builtin "sorted"))(n:Gl X y)(o:X.mg y=none)(r:bootBuiltins y=some (.type "set"))
  (P:x≠"__name__" :=by decide) (w:(x==("__debug__" : Str))=false:=by decide) (z:y≠"__name__" :=by decide) (g:(y==("__debug__" : Str))=false:=by decide)
  (G:starEach [e] X.env=(false,eval e X.env)::starEach [] X.env:=by rfl)
  (j:starEach [Expr.Call (.Name y l) [e] [] c] X.env=(false,eval (Expr.Call (.Name y l) [e] [] c) X.env)::starEach [] X.env:=by rfl) :
  PE X (.Call (.Name x p) [.Call (.Name y l) [e] [] c] [] pos) (zPe X.K E):=by
 intro pins s σ H Q I h
 refine dW (qZ I N O hv ?_ P w)
 refine iU ?_ j rfl
 rw[j]
 show wpAny _ _ (spliced ((false,eval (Expr.Call (.Name y l) [e] [] c) X.env)::backTo pos (starEach [] X.env))) _ _ s
 refine eI ?_
 refine dW (qZ I n o r ?_ z g)
 refine cJ (zI (zC M zD G c pins s σ H (fun xs B=>match xs with| [x]=>zEX X.K x B Q|_=>False) I ?_) fun Y Z ⟨vs,B,J,R,d⟩=>?_) G rfl
 ·exact h
 ·obtain⟨x,rfl,d⟩:∃x,vs=[x]/\zEX X.K x B Q:=by
   match vs,d with
   | [x],d=>exact⟨x,rfl,d⟩
   | [],d=>exact d.elim
   |_::_::_,d=>exact d.elim
  obtain⟨a,ks,rfl,C,D,q⟩:=d
  obtain⟨u,rfl,T⟩:=uF R
  cases T
  obtain⟨its,L,tp,_⟩:=J.tuple C
  have f:its.toArray.size=ks.length:=by have:=L.length;simp at this;simp[this]
  refine zPM (A:=X.A) (I.ok.hd F) tp f (fun i v hv=>?_) (by unfold scanBound;omega) fun h' tk U k=>?_
  ·have hi:i<ks.length:=by
    rw[<-f]
    exact(Array.getElem?_eq_some_iff.mp hv).1
   obtain⟨u,e1,W⟩:=L.get (i:=i) (x:=.str (ks.getD i ⟨#[]⟩)) (by rw[aw];simp[hi])
   have m:its[i]?=some v:=by simpa using hv
   rw[e1]at m
   injection m with m
   subst m
   obtain⟨t,rfl⟩:=W
   simp[dw]
  ·refine iC ?_
   exact zPd F (J.grown (tk:=tk) fun b u e=>k b u (aE e) e) U D q
end
theorem zPg (a b:ak)(xs ys:Array aj) :
  Meets (cQ.«zip.__new__» ⟨[.type "zip",.ref a,.ref b],[]⟩) (fun _ R s=>s.heap.IsTuple a xs/\s.heap.IsTuple b ys/\
   R (.ok (.ret (.ref (s.heap.objs.size+4)))) {s with heap:=((((s.heap.push {cls:=.type "tuple_iterator",data:=.fields #[.ref a,.int 0 0]}).push {cls:=.type "tuple_iterator",data:=.fields #[.ref b,.int 0 0]}).push {cls:=.type "tuple",data:=.seq #[.ref s.heap.objs.size,.ref (s.heap.objs.size+1)]}).push {cls:=.type "tuple",data:=.seq #[.none,.none]}).push {cls:=.type "zip",data:=.fields #[.none,.bool false,.bool false,.ref (s.heap.objs.size+2),.ref (s.heap.objs.size+3)]}}) :=
 .of_wp fun prog w A R s h=>by
  obtain⟨f,g,d,tk,os⟩:=s;obtain⟨hl1,hl2,h⟩:=h
  have i:=sub_zip
  have c:oJ (lD ⟨f,g,d,tk,os⟩) a xs:=hl1
  have e:oJ (lD ⟨f.push {cls:=.type "tuple_iterator",data:=.fields #[.ref a,.int 0 0]},g,d,tk,os⟩) b ys:=oK hl2 _
  wp_walk using fM c,fM e
  refine⟨_,rfl,?_⟩
  simp only[bF]at*
  exact h
section
variable{prog:aJ}{w:aY}{A:bO}{E:aj->ao->Prop}{s:ao}
theorem zPh {a b:ak}{xs ys:Array aj}{Q:aj->ao->Prop}(hl1:s.heap.IsTuple a xs)(hl2:s.heap.IsTuple b ys)
  (h:∀h',iJ h' (s.heap.objs.size+4) (s.heap.objs.size+2) (s.heap.objs.size+3) .none->dI h' (s.heap.objs.size+2) (.ref s.heap.objs.size) (.ref (s.heap.objs.size+1))->
   dI h' (s.heap.objs.size+3) .none .none->h'.IsTupleIter s.heap.objs.size a 0->h'.IsTupleIter (s.heap.objs.size+1) b 0->
   (∀c o,s.heap.get? c=some o->h'.get? c=some o)->Q (.ref (s.heap.objs.size+4)) {s with heap:=h'}) :
  wpAny (model prog w) A (call (.type "zip") [.ref a,.ref b]) Q E s:=by
 refine callType_new sL (by decide) (pB _ _) (pR _ _) (fun obj=>nk obj _ _) pS (zPg a b xs ys) ⟨hl1,hl2,?_⟩
 have d:∀(h:bE) (o:Obj) (n:Nat),h.objs.size=n->o.isFreed=false->(h.push o).get? n=some o:=fun h o n e f=>by subst e;exact aA _ f
 have g:∀(h:bE) (o:Obj) (n:Nat),h.objs.size=n->(h.push o).objs.size=n+1:=fun h o n e=>by rw[bF,e]
 have i:=g s.heap {cls:=.type "tuple_iterator",data:=.fields #[.ref a,.int 0 0]} _ rfl
 have j:=g _ {cls:=.type "tuple_iterator",data:=.fields #[.ref b,.int 0 0]} _ i
 have l:=g _ {cls:=.type "tuple",data:=.seq #[.ref s.heap.objs.size,.ref (s.heap.objs.size+1)]} _ j
 have p:=g _ {cls:=.type "tuple",data:=.seq #[.none,.none]} _ l
 have m:=d _ {cls:=.type "zip",data:=.fields #[.none,.bool false,.bool false,.ref (s.heap.objs.size+2),.ref (s.heap.objs.size+3)]} _ p rfl
 show _/\_
 exact⟨⟨_,m,rfl⟩,h _ m (ae _ (ae _ (d _ _ _ j rfl))) (ae _ (d _ _ _ l rfl))
  ⟨_,ae _ (ae _ (ae _ (ae _ (d _ _ _ rfl rfl)))),rfl,rfl⟩
  ⟨_,ae _ (ae _ (ae _ (d _ _ _ i rfl))),rfl,rfl⟩
  fun c o x=>ae _ (ae _ (ae _ (ae _ (ae _ x))))⟩
end
def zEY (K:ag)(a b:ak):It :=
 ⟨fun i H=>∃xs ys x y,zY K H a xs/\zY K H b ys/\xs[i]?=some x/\ys[i]?=some y,
  fun i H x H'=>∃T x1 y1,x=.ref T/\H T=none/\H'=upd H T (.tup [x1,y1])/\(∀xs,zY K H a xs->xs[i]?=some x1)/\(∀ys,zY K H b ys->ys[i]?=some y1),
  fun i H=>∃xs ys,zY K H a xs/\zY K H b ys/\(i=xs.length\/i<xs.length/\i=ys.length)⟩
structure Znt (n a b:Nat) (i:Nat) (h:bE):Prop where
 zz:iJ h (n+4) (n+2) (n+3) .none
 ti:dI h (n+2) (.ref n) (.ref (n+1))
 to:∃u v,dI h (n+3) u v
 i1:h.IsTupleIter n a i
 i2:kY true h (n+1) b i
theorem zPi {P:aJ}{w:aY}{K:ag}{D:List bJ}{kk:Nat}{pos:Pos}{n a b:Nat}(ha:a<n)(hb:b<n):Turn P w K (.Tuple D kk pos) (zEY K a b) [n+4,n+2,n+3,n,n+1] (n+4) (Znt n a b) where
 mem:=by simp
 obj:=fun i h st c l=>by
  have F:c=n+4\/c=n+2\/c=n+3\/c=n\/c=n+1:=by simpa using l
  rcases F with z|z|z|z|z
  ·rw[z];exact⟨_,st.zz,fun v z=>by cases z⟩
  ·rw[z];exact⟨_,st.ti,fun v z=>by cases z⟩
  ·rw[z];obtain⟨u,v,e⟩:=st.to;exact⟨_,e,fun v z=>by cases z⟩
  ·rw[z];obtain⟨o,e,c,d⟩:=st.i1;exact⟨o,e,fun v z=>by rw[d]at z;cases z⟩
  ·rw[z];exact st.i2.obj
 keep:=fun i h h' st k=>⟨k _ (by simp) _ st.zz,k _ (by simp) _ st.ti,let⟨u,v,e⟩:=st.to;⟨u,v,k _ (by simp) _ e⟩,st.i1.at fun o e=>k _ (by simp) o e,st.i2.keep fun o e=>k _ (by simp) o e⟩
 item:=by
  intro X R T U l i G s σ H E I hf st W
  subst R T U
  obtain⟨xs,ys,x,y,hq1,hq2,Y,hy⟩:=W
  obtain⟨its,Z,p,hz⟩:=I.tuple hq1
  obtain⟨u,hu,ru⟩:=Z.get Y
  obtain⟨m,T2,r,D2,t,J⟩:=zBo (tp:=true) I l hq2 (qH 1 hb)
  obtain⟨v,hv,aa⟩:=r.get hy
  have D1:=zDJ (prog:=X.prog) (w:=X.w) (A:=X.A.in1) (show X.A.in1.handled=none from I.ok.hd l) n a (qH 0 ha) its.toArray
  obtain⟨t0,ab,B⟩:=st.to
  have l1:i<its.toArray.size:=by have:=(ai.mp hu).1;simpa using this
  have l2:i<m.length:=(ai.mp hv).1
  refine zGe D1 D2 (zAf ha hb) st.zz st.ti B ⟨st.i1,p⟩ (t _ st.i2) l1 l2 fun M N h' tk px py a1 a2 a3 a4 a5 a6 O=>?_
  have ac:M=u:=by
   have:its[i]?=some M:=by simpa using px
   rw[hu]at this;exact(aD this).symm
  have al:N=v:=by
   have:m[i]?=some N:=py
   rw[hv]at this;exact(aD this).symm
  subst ac al
  refine⟨_,rfl,kz a1 fun h2 am j=>?_⟩
  have L:s.heap.get? s.heap.objs.size=none:=by
   cases g:s.heap.get? s.heap.objs.size with
   |none=>rfl
   |some o=>exact absurd (aE g) (bH _)
  have an:n+4<s.heap.objs.size:=aE st.zz
  have ap:dI h2 s.heap.objs.size M N:=(j.2 _ (cS an)).trans a5
  have S:=zAf ha hb
  refine⟨.ref s.heap.objs.size,upd H s.heap.objs.size (.tup [x,y]),I.turnedT (fp:=[n+4,n+2,n+3,n,n+1]) (h':=h2) (t':=tk) (fun c o f q=>?_) hf L ⟨by show 2<=sizeLine;decide,[M,N],.cons ru (.cons aa .nil),⟨_,ap,rfl,_,rfl⟩⟩,rfl,
   ⟨_,x,y,rfl,I.hok.free L,rfl,(fun zs C=>by rw[I.tuple_inj C hq1];exact Y),(fun zs C=>by rw[I.tuple_inj C hq2];exact hy)⟩,
   ⟨am,(j.2 _ S.TIz).trans (O _ _ S.TIz S.TITO S.TIi1 S.TIi2 st.ti),⟨_,_,(j.2 _ S.TOz).trans a2⟩,a3.1.at fun o q=>(j.2 n S.i1z).trans q,(J _ _ a4).keep fun o q=>(j.2 (n+1) S.i2z).trans q⟩,fun c f=>?_⟩
  ·have c1:c≠n+4:=fun z=>f (by simp[z])
   have c2:c≠n+3:=fun z=>f (by simp[z])
   have c3:c≠n:=fun z=>f (by simp[z])
   have c4:c≠n+1:=fun z=>f (by simp[z])
   exact(j.2 c c1).trans (O c o c1 c2 c3 c4 q)
  ·rw[zG]
   ·exact(hf c f).1
   ·rintro rfl
    have F:s.heap.objs.size=n+4\/s.heap.objs.size=n+2\/s.heap.objs.size=n+3\/s.heap.objs.size=n\/s.heap.objs.size=n+1:=by simpa using f
    omega
 done:=by
  intro X R T U l i G s σ H E I hf st W
  subst R T U
  obtain⟨xs,ys,hq1,hq2,Y⟩:=W
  obtain⟨its,Z,p,hz⟩:=I.tuple hq1
  obtain⟨m,T2,r,D2,t,J⟩:=zBo (tp:=true) I l hq2 (qH 1 hb)
  have e1:=Z.length
  have e2:=r.length
  have D1:=zDJ (prog:=X.prog) (w:=X.w) (A:=X.A.in1) (show X.A.in1.handled=none from I.ok.hd l) n a (qH 0 ha) its.toArray
  obtain⟨t0,ab,B⟩:=st.to
  refine zGf D1 D2 (zAf ha hb) st.zz st.ti B ⟨st.i1,p⟩ (t _ st.i2) (by rw[aH];omega) fun h' tk O=>⟨rfl,I.turnedF (fp:=[n+4,n+2,n+3,n,n+1]) (fun c o f q=>?_) hf⟩
  exact O c o (fun z=>f (by simp[z])) (fun z=>f (by simp[z])) (fun z=>f (by simp[z])) (fun z=>f (by simp[z])) q
 self:=fun A i s Q E st h=>gu st.zz h
section
variable{X:Cx}{elts:List bJ}{k:Nat}{tpos:Pos}
def zPj (K:ag)(ta:TA):TI:=fun σ H R=>ta σ H fun vs H1=>∃a b xs ys,vs=[.ref a,.ref b]/\zY K H1 a xs/\zY K H1 b ys/\R (zEY K a b) H1
theorem zPk {e f:bJ}{u:TA}{p pos:Pos}(x:Gl X "zip")(y:X.mg "zip"=none)(ha:PA X [e,f] u)(z:starEach [e,f] X.env=[(false,eval e X.env),(false,eval f X.env)]:=by rfl)(i:starEach [f] X.env=[(false,eval f X.env)]:=by rfl) :
  PI X (.Tuple elts k tpos) (.Call (.Name "zip" p) [e,f] [] pos) (zPj X.K u):=by
 intro g s σ H R I h
 refine Call_ (qZ I x y boot_zip (cJ (zI (ha pos g s σ H _ I h) fun W d ⟨vs,v,j,A,B⟩=>?_) (by rw[z,i]) (by rw[i];rfl)))
 obtain⟨a,b,xs,ys,rfl,hl,hb,q⟩:=B
 cases A with
 |cons C D=>
 cases D with
 |cons E F=>
 cases F
 cases C
 cases E
 obtain⟨its,Y,G,hz⟩:=j.tuple hl
 have fresh:∀(h':bE),(∀c o,d.heap.get? c=some o->h'.get? c=some o)->∀c∈[d.heap.objs.size+4,d.heap.objs.size+2,d.heap.objs.size+3,d.heap.objs.size,d.heap.objs.size+1],uT X g v c:=fun h' r c J=>by
  have l:d.heap.objs.size<=c:=by
   have:c=d.heap.objs.size+4\/c=d.heap.objs.size+2\/c=d.heap.objs.size+3\/c=d.heap.objs.size\/c=d.heap.objs.size+1:=by simpa using J
   omega
  exact j.fpOk l (j.hok.fresh l)
 have m:d.heap.IsTuple a its.toArray:=G
 have L:a<d.heap.objs.size:=let⟨o,e,_⟩:=m;aE e
 obtain⟨t,M,N,O⟩:=j.tuple hb
 have n:d.heap.IsTuple b t.toArray:=N
 have lb:b<d.heap.objs.size:=let⟨o,e,_⟩:=n;aE e
 refine zPh m n fun h' w P Q T U r=>?_
 exact gu w ⟨_,[d.heap.objs.size+4,d.heap.objs.size+2,d.heap.objs.size+3,d.heap.objs.size,d.heap.objs.size+1],_,_,v,rfl,j.kept (t':=d.toks) r,zPi L lb,⟨w,P,⟨_,_,Q⟩,T,U⟩,fresh h' r,q⟩
end
section
variable{prog:aJ}{w:aY}{A:bO}{E:aj->ao->Prop}{s:ao}
theorem zPl {t b:ak}{items:Array aj}{f g:aj}{lo hi:Option Int}{Q:aj->ao->Prop}(a:qd s.heap t items)(i:s.heap.IsSliceOf b f g .none)(pl:mr f lo)(l:mr g hi)
  (j:HT.sIx items.size 0 lo=0/\HT.sIx items.size items.size hi=items.size)
  (h:Q (.ref t) s)
  (hsz:items.size<=sizeLine):wpAny (model prog w) A (getItem (.ref t) (.ref b)) Q E s:=by
 obtain⟨os,c,d,m⟩:=id i
 have e:s.TypeIs (.ref b) "slice" :=⟨os,c,d⟩
 unfold getItem
 try with_reducible refine cY ?_
 first|refine af (ar ?_)|skip
 refine af (oz a.typeIs (by decide) ?_)
 refine af (bS (name:=b8 "__getitem__") a.typeIs cK
  (bT cK a.typeIs nH ?_ (n0 _ _)))
 show wpAny _ _ (kf (.ref t)>>=_) _ _ s
 refine af (rS a ?_)
 refine af (gr e ?_)
 rw[if_pos (by decide)]
 refine af (HT.sliceApplied_gen i pl l ?_)
 rw[j.1,j.2]
 show wpAny _ _ (if(((0:Nat):Int)==0&& (1:Int)==1&& (items.size-0)==items.size)=true then _ else _) _ _ s
 rw[if_pos (by simp)]
 unfold rf
 refine af (af (gr a.typeIs (ar ?_)))
 rw[if_pos (by decide)]
 exact af (fR (ar ⟨_,rfl,ar h⟩))
end
section
variable{X:Cx}
def zPm (K:ag):V->Option Int->Option Int->Hp->VK->Prop:=fun x lo hi H Q=>∃a xs,x=.ref a/\zY K H a xs/\(HT.sIx xs.length 0 lo=0/\HT.sIx xs.length xs.length hi=xs.length)/\Q (.ref a) H
theorem zPn:SlR X (zPm X.K):=by
 intro c s σ H x v l m lo hi n Q I e f pl g h
 obtain⟨a,xs,rfl,i,j,q⟩:=h
 cases e
 obtain⟨its,r,d,hz⟩:=I.tuple i
 have b:its.toArray.size=xs.length:=by rw[aH];exact r.length.symm
 refine⟨"tuple",_,cK.lookup,d.typeIs,?_⟩
 exact zPl d f pl g (by rw[b];exact j) ⟨.ref a,H,I,rfl,q⟩ (by rw[b];exact hz)
theorem gO:yI X (binaryOp .Add) (fun x y H Q=>∃a b xs ys,x=.ref a/\y=.ref b/\H a=some (.tup xs)/\H b=some (.tup ys)/\xs.length+ys.length<=sizeLine/\∀p d,zA H d->d p=some (.tup (xs++ys))->Q (.ref p) d):=by
 intro c s σ H x y v u Q I e f h
 obtain⟨a,b,xs,ys,rfl,rfl,ha,hb,hz,q⟩:=h
 by_cases g:xs=[]
 ·subst g
  exact zGZ c s σ H _ _ v u Q I e f ⟨a,b,ys,rfl,rfl,.of ha,.of hb,q b H (zA.refl H) hb⟩
 ·refine zFd c s σ H _ _ v u Q I e f ⟨a,b,xs,ys,rfl,rfl,.of ha,.of hb,g,hz,fun i=>q a H (zA.refl H) (by rw[i,eY];exact ha),fun _ p j=>q p _ (zA.upd1 j) zE⟩
theorem zPo {xs:List V}{lo hi:Option Int}(h:HT.sIx xs.length 0 lo=0/\HT.sIx xs.length xs.length hi=xs.length):v2 xs lo hi=xs:=by
 unfold v2
 rw[h.1,h.2,eO,iH,bo]
theorem zAN:SlR X (fun x lo hi H Q=>∃a xs,x=.ref a/\H a=some (.tup xs)/\∀p c,zA H c->c p=some (.tup (v2 xs lo hi))->Q (.ref p) c):=by
 intro b s σ H x v e f lo hi g Q I i j pl l h
 obtain⟨a,xs,rfl,ha,q⟩:=h
 by_cases d:HT.sIx xs.length 0 lo=0/\HT.sIx xs.length xs.length hi=xs.length
 ·exact zPn b s σ H _ v e f lo hi g Q I i j pl l ⟨a,xs,rfl,.of ha,d,q a H (zA.refl H) (by rw[zPo d];exact ha)⟩
 ·exact zKo b s σ H _ v e f lo hi g Q I i j pl l ⟨a,xs,rfl,.of ha,d,fun p m=>q p _ (zA.upd1 m) zE⟩
end
end L2
end
section
namespace Kn
open PySem L2
def qV (l:List S):Bool:=(l.zip (l.drop 1)).all fun p=>decide (p.1<p.2)
def qW (d:bG):Bool:=match d with
 | .str x=>decide (x.length=0)||(vL (.str x)&&decide (x.length<=3))
 |_=>false
def zEZ:bG->S
 | .str x=>x.cps.toList
 |_=>[]
def jI:bG->Bool
 | .tuple ds=>decide (ds.length<=6)&& (ds.all vL&&qV (ds.map zEZ))
 |_=>false
def zCU:bG->Bool
 | .bool _=>true
 |_=>false
def zCV:bG->Int
 | .int i=>i
 |_=>0
def v6:bG->Bool
 | .tuple [a,b,h,t,ba,to]=>(uD 1 8 a&&uD (zCV a) 8 b)&& ((qW h&&qW t)&& (jI ba&&zCU to))
 |_=>false
section
variable{P:aJ}{w:aY}{K:ag}{mg:Str->Option aj}{base:bE}
structure CstW (mg:Str->Option aj):Prop where
 least:∃t,mg "LEAST"=some (.int 0 t)
 most:∃t,mg "MOST"=some (.int 1 t)
 head:∃t,mg "HEAD"=some (.int 2 t)
 tail:∃t,mg "TAIL"=some (.int 3 t)
 barred:∃t,mg "BARRED"=some (.int 4 t)
 told:∃t,mg "TOLD"=some (.int 5 t)
 parts:∃t,mg "MANY_PARTS"=some (.int 6 t)
 edge:∃t,mg "MOST_EDGE"=some (.int 3 t)
 mb:∃t,mg "MOST_BARRED"=some (.int 6 t)
def zIQ:Sp:=fun vs H Q _=>∃(a:ak) (l:List S),vs=[.ref a]/\H a=some (.tup (zF l))/\l.length<=100/\∀H',zA H H'->Q (.bl (qV l)) H'
abbrev zEa:c8:=top 16
theorem zPp:FnScope ["things"] ["things"] (defScope zEa):=yE
theorem zIR:(["one","other"]:List Str).Nodup:=by decide+kernel
theorem zPq (l:List S):v2 (zF l) (some 1) none=zF (l.drop 1):=by
 unfold v2
 have e:HT.sIx (zF l).length 0 (some 1)=min 1 (zF l).length:=HT.sIx_nat _ _ 1
 have a:HT.sIx (zF l).length (zF l).length none=(zF l).length:=rfl
 rw[e,a]
 unfold zF
 rw[List.map_drop,ah]
 cases l with
 |nil=>rfl
 |cons x l=>
  rw[aM,p9 (by omega)]
  rw[dJ (by rw[bQ,ah,aM];omega)]
theorem zAO {l:List S}{i:Nat}{v:V}(h:(zF l)[i]?=some v):∃x,l[i]?=some x/\v=sv x:=by
 unfold zF at h
 rw[aw]at h
 cases e:l[i]? with
 |none=>rw[e]at h;cases h
 |some x=>rw[e]at h;exact⟨x,rfl,(aD h).symm⟩
theorem zPr {f:ak}{fd:bg}(F:Fun K "is_rising" "is_rising" zEa f fd)(B:Blt mg)(hz:mg "zip"=none):FnOk P w K mg base z7 1 f fd ["things"] zIQ:=by
 refine F.ok zPp (fun vs H Q E h=>?_) (fun L A outer s H vs Q E hr h=>?_)
 ·obtain⟨a,l,rfl,_⟩:=h;rfl
 ·obtain⟨a,l,rfl,ha,u,k⟩:=h
  refine⟨_,zK (z6 (yL (zBH rfl) (by rfl) B.all eU (zC (uY (N:=["one","other"]) (caps:=[]) rfl (uH (by kernel_rfl)) (zPk rfl hz (zC (pv 0) (zC (j2 zAN (pv 0) (qF zO) jB) zD)))
    (fun v C s H ex=>zAF K 2 rfl rfl (yW (z8 (i:=0) zIR rfl (Or.inl rfl)) (yW (z8 (i:=1) zIR rfl (Or.inl rfl)) uS)) rfl rfl)
    (fun v C s H ex=>qP)
    (fun v C s H ex=>qO zKU (pv 0) (pv 1) (vD _))) zD))),?_⟩
  refine⟨_,rfl,_,rfl,_,rfl,a,_,rfl,ha,fun b M o j=>?_⟩
  rw[zPq]at j
  have m:=o _ _ ha
  refine⟨a,b,_,_,rfl,.of m,.of j,?_⟩
  have dl:(l.drop 1).length=l.length-1:=by rw[bQ]
  have bl:∀l:List S,(zF l).length=l.length:=fun l=>by unfold zF;rw[ah]
  refine zGi (J:=zEY K a b) (xs:=zF l) (ys:=zF (l.drop 1)) (len:=(l.drop 1).length) (Hk:=fun c=>zY K c a (zF l)/\zY K c b (zF (l.drop 1)))
   (fun i c g hi=>⟨zF l,zF (l.drop 1),(zF l)[i]'(by rw[bl];omega),(zF (l.drop 1))[i]'(by rw[bl];exact hi),g.1,g.2,aq _,aq _⟩)
   (fun i c g e=>⟨zF l,zF (l.drop 1),g.1,g.2,by rw[bl,bl];omega⟩)
   (fun i c x O g ⟨T,R,U,e1,q,r,W,X⟩=>⟨T,R,U,e1,q,r,W _ g.1,X _ g.2⟩)
   [] 2 (by omega) (fun i d c=>zA M c/\d=(((l.zip (l.drop 1)).take i).map fun p=>decide (p.1<p.2)).map V.bl)
   ⟨zA.refl _,rfl⟩ (fun i d c hi h=>⟨⟨.of (h.1 _ _ m),.of (h.1 _ _ j)⟩,by rw[h.2,ah,ah,aI];omega⟩) ?_ ?_
  ·rintro i x y T d c zs Nx Y Z hy t ⟨n,rfl⟩ hT
   obtain⟨z1,z2,rfl⟩:=ys2 t
   obtain⟨z,e1,rfl⟩:=zAO Z
   obtain⟨G,q,rfl⟩:=zAO hy
   have t2:zA c (upd c T (.tup [sv z,sv G])):=zA.upd1 hT
   refine⟨T,_,rfl,.of zE,rfl,_,_,rfl,_,_,rfl,rfl,?_⟩
   unfold g9
   dsimp only
   rw[if_pos rfl]
   refine⟨_,rfl,_,rfl,_,_,rfl,rfl,Y _ _ [_,_] rfl ⟨n.trans t2,?_⟩⟩
   have I:(l.zip (l.drop 1))[i]?=some (z,G):=by
    rw[ia];exact⟨e1,q⟩
   rw[aB (ai.mp I).1,(ai.mp I).2,aQ,aQ]
   rfl
  ·rintro d c ⟨n,rfl⟩ D hD
   have e:(l.zip (l.drop 1)).take (l.drop 1).length=l.zip (l.drop 1):=dJ (by rw[jo];omega)
   rw[e]
   refine⟨D,(l.zip (l.drop 1)).map fun p=>decide (p.1<p.2),rfl,.of zE,?_⟩
   have r:((l.zip (l.drop 1)).map fun p=>decide (p.1<p.2)).all id=qV l:=by unfold qV;rw[fU];rfl
   rw[r]
   exact k _ ((o.trans n).upd_new ((o.trans n).free hD))
def zIS:Sp:=fun vs H Q _=>∃v d,vs=[v]/\vH H d v/\sml d=true/\dA d=true/\∀H',zA H H'->Q (.bl (qW d)) H'
abbrev zEb:c8:=top 49
theorem zPs:FnScope ["thing"] ["thing"] (defScope zEb):=yE
theorem zPt {x:Str}:dX (.str x) (.str ⟨#[]⟩)=decide (x.length=0):=by
 unfold dX
 by_cases h:x.length=0
 ·have:x=⟨#[]⟩:=MyS.Str_ext (by
   have h':x.cps.toList.length=0:=by simpa [iV]using h
   rw[cq.mp h'])
  subst this
  rfl
 ·rw[decide_eq_false h]
  rw[beq_eq_false_iff_ne]
  intro e
  subst e
  exact h rfl
theorem zPu {d:bG}(h:∀x,d≠.str x):dX d (.str ⟨#[]⟩)=false:=by
 cases d with
 |str x=>exact absurd rfl (h x)
 |_=>rfl
theorem zPv:dA (.str ⟨#[]⟩)=true:=by decide+kernel
theorem zPw {f:ak}{fd:bg}(F:Fun K "is_edge" "is_edge" zEb f fd)(B:Blt mg)(W:CstW mg)(m:zV P w K mg base 1 "is_name" ["thing"] zBS):FnOk P w K mg base z7 2 f fd ["thing"] zIS:=by
 obtain⟨q,n⟩:=W.edge
 refine F.ok zPs (fun vs H Q E h=>?_) (fun o A outer s H vs Q E j h=>?_)
 ·obtain⟨v,d,rfl,_⟩:=h;rfl
 ·obtain⟨v,d,rfl,hv,g,i,k⟩:=h
  refine⟨_,zK (z6 (zFH (qO (zDB j.units) (pv 0) y9 (vD _)) (gE (zAT (zT m j rfl (zC (pv 0) zD)) (gE (qO kR (yL j5 (by rfl) B.len bL (zC (pv 0) zD)) (yN (v:=.int 3) (by rfl) n ⟨_,rfl⟩) (vD _))))))),?_⟩
  refine⟨_,rfl,d,.str ⟨#[]⟩,vH.rep _ _ hv,rfl,i,zPv,_,rfl,?_⟩
  rw[show(if false=true then !PyData.eqv d (.str ⟨#[]⟩)else dX d (.str ⟨#[]⟩))=dX d (.str ⟨#[]⟩)from rfl]
  cases d with
  |str x=>
   rw[zPt]
   by_cases a:x.length=0
   ·have e:qW (.str x)=true:=by simp[qW,a]
    rw[e]at k
    exact kX a (k H (zA.refl H))
   ·refine uZ a ?_
    refine⟨_,rfl,v,_,rfl,hv,g,fun b c=>?_⟩
    cases(show v=.str x from hv)
    refine⟨_,rfl,?_⟩
    cases l:vL (.str x)with
    |false=>
     have e:qW (.str x)=false:=by simp[qW,a,l]
     rw[e]at k
     exact yO (k b c)
    |true=>
     refine yK ?_
     refine⟨_,rfl,x,rfl,?_,_,_,rfl,rfl,?_⟩
     ·simp only[sml,aO,decide_eq_true_eq]at g
      rw[aF];omega
     ·have e:qW (.str x)=decide (x.length<=3):=by simp[qW,a,l]
      have p:decide ((x.length:Int)<=3)=decide (x.length<=3):=decide_eq_decide.mpr (by omega)
      rw[e,<-p]at k
      exact k b c
  |_=>
   rw[zPu (by intro x;simp)]
   refine yO ⟨_,rfl,v,_,rfl,hv,g,fun b c=>⟨_,rfl,yO (k b c)⟩⟩
def zIT:Sp:=fun vs H Q _=>∃v d,vs=[v]/\vH H d v/\sml d=true/\∀H',zA H H'->Q (.bl (jI d)) H'
abbrev zEc:c8:=top 50
theorem zPx:FnScope ["thing"] ["thing"] (defScope zEc):=yE
theorem zPy:(["name"]:List Str).Nodup:=by decide+kernel
theorem zIU:∀{a:List bG},(∀d∈a,vL d=true)->∃bk:List S,a=bk.map (fun x=>PyData.str (tx x))/\∀x∈bk,vI x
 | [],_=>⟨[],rfl,by simp⟩
 |d::a,hd=>by
  obtain⟨x,rfl,b⟩:=zOr (hd d (az ..))
  obtain⟨bk,rfl,hb⟩:=zIU fun e c=>hd e (aC _ c)
  refine⟨x::bk,rfl,fun y f=>?_⟩
  rcases aG.mp f with z|z
  ·rw[z];exact b
  ·exact hb y z
theorem zPz {f:ak}{fd:bg}(F:Fun K "is_barred" "is_barred" zEc f fd)(B:Blt mg)(KF:KitF K)(W:CstW mg)(X:zV P w K mg base 1 "is_name" ["thing"] zBS)(Y:zV P w K mg base 1 "is_rising" ["things"] zIQ):FnOk P w K mg base z7 2 f fd ["thing"] zIT:=by
 obtain⟨t6,Z⟩:=W.mb
 refine F.ok zPx (fun vs H Q E h=>?_) (fun aa A outer s H vs Q E R h=>?_)
 ·obtain⟨v,d,rfl,_⟩:=h;rfl
 ·obtain⟨v,d,rfl,hv,T,k⟩:=h
  refine⟨_,zQ (yV (PW.pt (gT (v1 (vX (yL zAB (by rfl) B.isinstance cz (zC (pv 0) (zC (gR (v:=.ty "tuple") (by rfl) B.tuple ef rfl) zD)))))
    (gS (vY zKT (yL j4 (by rfl) B.len bL (zC (pv 0) zD)) (yN (v:=.int 6) (by rfl) Z ⟨_,rfl⟩) (vD _)))))
    (zK (z6 qN)) yU)
   (zK (z6 (zAT (yL (zBH rfl) (by rfl) B.all eU (zC (uY (N:=["name"]) (caps:=[]) rfl (uH (by kernel_rfl)) (zAx (pv 0))
    (fun U C s H ex=>z8 (i:=0) zPy rfl (Or.inl rfl)) (fun U C s H ex=>qP)
    (fun U C s H ex=>zT X R rfl (zC (pv 0) zD))) zD)) (gE (zT Y R rfl (zC (pv 0) zD)))))),?_⟩
  obtain⟨t,b,u,n,hb⟩:=zEQ KF hv
  refine⟨_,rfl,_,_,t,b,rfl,u,n,b,rfl,?_⟩
  cases b with
  |false=>
   have hd:jI d=false:=by
    cases d with
    |tuple x=>exact absurd (hb.mpr ⟨x,rfl⟩) (by decide)
    |_=>rfl
   rw[hd]at k
   exact yK (yK (k H (zA.refl H)))
  |true=>
   obtain⟨c,rfl⟩:=hb.mp rfl
   obtain⟨a,xs,rfl,ha,j⟩:=hv
   have z:c.length<=900/\smls c=true:=by
    simp only[sml,aO,decide_eq_true_eq]at T
    exact T
   have l:xs.length=c.length:=j.length.symm
   refine yO ?_
   refine⟨_,rfl,_,_,rfl,.inr (.of ha),_,_,rfl,rfl,_,rfl,?_⟩
   by_cases G:c.length<=6
   ·refine uZ (by rw[l];omega) ?_
    refine⟨_,rfl,a,rfl,⟨_,.of ha⟩,?_⟩
    refine j7 (zBI _ a xs) [] 1 (by omega) (fun i g r=>zA H r/\g=((c.take i).map vL).map V.bl) ⟨zA.refl H,rfl⟩ (fun i g r _ h=>⟨.of (h.1 _ _ ha),by rw[h.2,ah,ah,aI];omega⟩) ?_ ?_
    ·rintro i y g r ys Nx hN hx hy ⟨p,rfl⟩
     obtain⟨y',rfl⟩:=ys1 hy
     obtain⟨e,I,J⟩:=j.get hx
     have hi:i<c.length:=(ai.mp I).1
     refine⟨_,rfl,y,e,rfl,vH.same p _ _ J,zCO z.2 (aZ I),fun H5 L=>hN _ _ [some y] rfl ⟨p.trans L,?_⟩⟩
     rw[aB hi,(ai.mp I).2,aQ,aQ];rfl
    ·rintro g r ⟨p,rfl⟩ D hD
     rw[l,bo]
     refine⟨D,_,rfl,.of zE,_,rfl,?_⟩
     have m:=p.upd_new (o:=.lst ((c.map vL).map V.bl)) (p.free hD)
     have e2:((c.map vL).all id)=c.all vL:=by rw[fU];rfl
     rw[e2]
     cases M:c.all vL with
     |false=>
      have e:jI (.tuple c)=false:=by simp only[jI,M,c7,eM]
      rw[e]at k
      exact yO (k _ m)
     |true=>
      obtain⟨bk,rfl,ab⟩:=zIU (fun d hd=>da.mp M d hd)
      have q:=m _ _ ha
      rw[Thgs.strs_inv j]at q
      refine yK ?_
      rw[ah]at G
      refine⟨_,rfl,a,bk,rfl,q,by omega,fun H6 O=>?_⟩
      have e:jI (.tuple (bk.map fun x=>PyData.str (tx x)))=qV bk:=by
       have e3:(bk.map fun x=>PyData.str (tx x)).map zEZ=bk:=by
        rw[aU]
        conv=>rhs;rw[<-pJ bk]
        refine dM fun x _=>?_
        show(tx x).cps.toList=x
        rw[vW]
       simp only[jI,M,e3,ah,decide_eq_true G,gc]
      rw[e]at k
      exact k _ (m.trans O)
   ·have hd:jI (.tuple c)=false:=by simp[jI,G]
    rw[hd]at k
    exact kX (by rw[l];omega) (k H (zA.refl H))
end
structure KitB (K:ag):Prop where
 nb:bx K (.type "NoneType") (.type "bool")=some false
 sb:bx K (.type "str") (.type "bool")=some false
 lb:bx K (.type "list") (.type "bool")=some false
 tb:bx K (.type "tuple") (.type "bool")=some false
theorem zIV:∀{a:List bG}{d:bG},cC a=true->d∈a->d.canLay0=true
 |e::a,d,h,b=>by
  simp only[cC,aO]at h
  rcases aG.mp b with z|z
  ·rw[z];exact h.1
  ·exact zIV h.2 z
theorem zIW:∀{a:List bG}{d:bG},d∈a->d.depth<=e8 a
 |e::a,d,b=>by
  simp only[e8]
  rcases aG.mp b with z|z
  ·rw[z];omega
  ·have:=zIW z;omega
theorem zQA {a:List bG}{d:bG}(h:dA (.tuple a)=true)(b:d∈a):dA d=true:=by
 have c:=SeqAt.canLay_of_shaped h
 have e:=SeqAt.depth_of_shaped h
 have f:(PyData.tuple a).depth=e8 a+1:=by simp only[eD]
 have g:=zIV (show cC a=true by simpa only[d7]using c) b
 have i:=zIW b
 rw[f]at e
 unfold dA
 rw[g,decide_eq_true (show d.depth<=64 by omega)];rfl
section
variable{P:aJ}{w:aY}{K:ag}{mg:Str->Option aj}{base:bE}
theorem zQB (KB:KitB K)(C:Cst K mg){H:Hp}:∀{d:bG}{v:V},vH H d v->∃t,TyOf K H v t/\bx K t (.type "bool")=some (zCU d)
 | .none,v,h=>by cases(show v=.non from h);exact⟨_,.non,KB.nb⟩
 | .bool b,v,h=>by cases(show v=.bl b from h);exact⟨_,.bl _,rfl⟩
 | .int i,v,h=>by cases(show v=.int i from h);exact⟨_,.int _,C.ib⟩
 | .str x,v,h=>by cases(show v=.str x from h);exact⟨_,.str _,KB.sb⟩
 | .list e,v,h=>by obtain⟨a,xs,rfl,c,_⟩:=h;exact⟨_,.lst c,KB.lb⟩
 | .tuple e,v,h=>by obtain⟨a,xs,rfl,c,_⟩:=h;exact⟨_,.tup c,KB.tb⟩
 | .dict _,v,h=>h.elim
def zIX:Sp:=fun vs H Q _=>∃v d,vs=[v]/\vH H d v/\sml d=true/\dA d=true/\∀H',zA H H'->Q (.bl (v6 d)) H'
abbrev zEd:c8:=top 51
theorem zQC:FnScope ["thing"] ["thing"] (defScope zEd):=yE
theorem zQD {a:List bG}(h:a.length≠6):v6 (.tuple a)=false:=by
 match a,h with
 | [],_=>rfl
 | [_],_=>rfl
 | [_,_],_=>rfl
 | [_,_,_],_=>rfl
 | [_,_,_,_],_=>rfl
 | [_,_,_,_,_],_=>rfl
 | [_,_,_,_,_,_],h=>exact absurd rfl h
 |_::_::_::_::_::_::_::_,_=>rfl
theorem six {α:Type}{l:List α}(h:l.length=6):∃a b c d e f,l=[a,b,c,d,e,f]:=by
 match l,h with
 | [a,b,c,d,e,f],_=>exact⟨a,b,c,d,e,f,rfl⟩
theorem zQE {a b:Int}{d:bG}(h:uD a b d=true):∃i,d=.int i/\a<=i/\i<=b:=by
 cases d with
 |int i=>simp only[uD,aO,decide_eq_true_eq]at h;exact⟨i,rfl,h⟩
 |_=>cases h
theorem zQF {f:ak}{fd:bg}(F:Fun K "is_wish" "is_wish" zEd f fd)(B:Blt mg)(C:Cst K mg)(KF:KitF K)(KB:KitB K)(W:CstW mg)(X:zV P w K mg base 1 "is_whole" ["thing","least","most"] zCR)(Y:zV P w K mg base 2 "is_edge" ["thing"] zIS)(cB:zV P w K mg base 2 "is_barred" ["thing"] zIT):FnOk P w K mg base z7 3 f fd ["thing"] zIX:=by
 obtain⟨u0,Z⟩:=W.least
 obtain⟨u1,h1⟩:=W.most
 obtain⟨u2,h2⟩:=W.head
 obtain⟨u3,h3⟩:=W.tail
 obtain⟨u4,h4⟩:=W.barred
 obtain⟨u5,h5⟩:=W.told
 obtain⟨u6,h6⟩:=W.parts
 obtain⟨u8,h8⟩:=C.ml
 refine F.ok zQC (fun vs H Q E h=>?_) (fun aa A outer s H vs Q E G h=>?_)
 ·obtain⟨v,d,rfl,_⟩:=h;rfl
 ·obtain⟨v,d,rfl,hv,hs,J,k⟩:=h
  have r1:=G.mono (j:=1) (by decide)
  refine⟨_,zQ (yV (PW.pt (gT (v1 (vX (yL zAB (by rfl) B.isinstance cz (zC (pv 0) (zC (gR (v:=.ty "tuple") (by rfl) B.tuple ef rfl) zD)))))
    (gS (vY zAX (yL j4 (by rfl) B.len bL (zC (pv 0) zD)) (yN (v:=.int 6) (by rfl) h6 ⟨_,rfl⟩) (vD _)))))
    (zK (z6 qN)) yU)
   (zQ (yV (PW.pt (gT (v1 (vX (zT X r1 rfl (zC (yM vE (pv 0) (yN (v:=.int 0) (by rfl) Z ⟨_,rfl⟩) (fun _ _=>rfl)) (zC zO (zC (yN (v:=.int 8) (by rfl) h8 ⟨_,rfl⟩) zD))))))
     (gS (v1 (vX (zT X r1 rfl (zC (yM vE (pv 0) (yN (v:=.int 1) (by rfl) h1 ⟨_,rfl⟩) (fun _ _=>rfl)) (zC (yM vE (pv 0) (yN (v:=.int 0) (by rfl) Z ⟨_,rfl⟩) (fun _ _=>rfl)) (zC (yN (v:=.int 8) (by rfl) h8 ⟨_,rfl⟩) zD)))))))))
    (zK (z6 qN)) yU)
   (zQ (yV (PW.pt (gT (v1 (vX (zT Y G rfl (zC (yM vE (pv 0) (yN (v:=.int 2) (by rfl) h2 ⟨_,rfl⟩) (fun _ _=>rfl)) zD))))
     (gS (v1 (vX (zT Y G rfl (zC (yM vE (pv 0) (yN (v:=.int 3) (by rfl) h3 ⟨_,rfl⟩) (fun _ _=>rfl)) zD)))))))
    (zK (z6 qN)) yU)
   (zK (z6 (zAT (zT cB G rfl (zC (yM vE (pv 0) (yN (v:=.int 4) (by rfl) h4 ⟨_,rfl⟩) (fun _ _=>rfl)) zD))
    (gE (yL zAB (by rfl) B.isinstance cz (zC (yM vE (pv 0) (yN (v:=.int 5) (by rfl) h5 ⟨_,rfl⟩) (fun _ _=>rfl)) (zC (gR (v:=.ty "bool") (by rfl) B.bool mF rfl) zD))))))))),?_⟩
  obtain⟨t,b,L,r,hb⟩:=zEQ KF hv
  refine⟨_,rfl,_,_,t,b,rfl,L,r,b,rfl,?_⟩
  cases b with
  |false=>
   have hd:v6 d=false:=by
    cases d with
    |tuple x=>exact absurd (hb.mpr ⟨x,rfl⟩) (by decide)
    |_=>rfl
   rw[hd]at k
   exact yK (yK (k H (zA.refl H)))
  |true=>
   obtain⟨u,rfl⟩:=hb.mp rfl
   obtain⟨a,xs,rfl,ha,c⟩:=hv
   have M:u.length<=900/\smls u=true:=by
    simp only[sml,aO,decide_eq_true_eq]at hs
    exact hs
   have y:xs.length=u.length:=c.length.symm
   refine yO ?_
   refine⟨_,rfl,_,_,rfl,.inr (.of ha),rfl,_,rfl,?_⟩
   by_cases hl:u.length=6
   ·refine kU (by rw[y,hl];rfl) ?_
    obtain⟨D,m,g,i,l,n,rfl⟩:=six hl
    obtain⟨N,ab,rfl,q0,c⟩:=c
    obtain⟨y1,ys1,rfl,q1,c⟩:=c
    obtain⟨y2,ys2,rfl,q2,c⟩:=c
    obtain⟨y3,ys3,rfl,q3,c⟩:=c
    obtain⟨y4,ac,rfl,q4,c⟩:=c
    obtain⟨y5,O,rfl,q5,c⟩:=c
    cases(show O=[]from c)
    have sm_:∀d∈[D,m,g,i,l,n],sml d=true:=fun d hd=>zCO M.2 hd
    have sh_:∀d∈[D,m,g,i,l,n],dA d=true:=fun d hd=>zQA J hd
    refine⟨_,rfl,a,_,0,N,rfl,rfl,.of ha,rfl,N,D,1,8,rfl,q0,_,rfl,?_⟩
    cases R:uD 1 8 D with
    |false=>
     have e:v6 (.tuple [D,m,g,i,l,n])=false:=by simp only[v6,R,c7]
     rw[e]at k
     exact yK (yK (k H (zA.refl H)))
    |true=>
    obtain⟨o,rfl,l0,l1⟩:=zQE R
    cases(show N=.int o from q0)
    refine yO ?_
    refine⟨_,rfl,a,_,1,y1,rfl,rfl,.of ha,rfl,_,rfl,a,_,0,.int o,rfl,rfl,.of ha,rfl,y1,m,o,8,rfl,q1,_,rfl,?_⟩
    cases e1:uD o 8 m with
    |false=>
     have e:v6 (.tuple [.int o,m,g,i,l,n])=false:=by simp only[v6,zCV,e1,c7,eM]
     rw[e]at k
     exact yK (k H (zA.refl H))
    |true=>
    refine yO ?_
    refine⟨_,rfl,a,_,2,y2,rfl,rfl,.of ha,rfl,y2,g,rfl,q2,sm_ g (by simp),sh_ g (by simp),fun H1 I=>⟨_,rfl,?_⟩⟩
    cases e2:qW g with
    |false=>
     have e:v6 (.tuple [.int o,m,g,i,l,n])=false:=by simp only[v6,e2,c7,eM]
     rw[e]at k
     exact yK (yK (k H1 I))
    |true=>
    refine yO ?_
    refine⟨_,rfl,a,_,3,y3,rfl,rfl,.of (I _ _ ha),rfl,y3,i,rfl,vH.same I _ _ q3,sm_ i (by simp),sh_ i (by simp),fun H2 s2=>⟨_,rfl,?_⟩⟩
    have p:=I.trans s2
    cases e3:qW i with
    |false=>
     have e:v6 (.tuple [.int o,m,g,i,l,n])=false:=by simp only[v6,e3,c7,eM]
     rw[e]at k
     exact yK (k H2 p)
    |true=>
    refine yO ?_
    refine⟨_,rfl,a,_,4,y4,rfl,rfl,.of (p _ _ ha),rfl,y4,l,rfl,vH.same p _ _ q4,sm_ l (by simp),fun H3 s3=>⟨_,rfl,?_⟩⟩
    have q:=p.trans s3
    cases e4:jI l with
    |false=>
     have e:v6 (.tuple [.int o,m,g,i,l,n])=false:=by simp only[v6,e4,c7,eM]
     rw[e]at k
     exact yO (k H3 q)
    |true=>
    refine yK ?_
    obtain⟨t5,T,U⟩:=zQB KB C (vH.same q _ _ q5)
    refine⟨_,rfl,a,_,5,y5,rfl,rfl,.of (q _ _ ha),rfl,_,_,t5,_,rfl,T,U,?_⟩
    have e:v6 (.tuple [.int o,m,g,i,l,n])=zCU n:=by simp only[v6,zCV,R,e1,e2,e3,e4,gc]
    rw[e]at k
    exact k H3 q
   ·have e:v6 (.tuple u)=false:=zQD hl
    rw[e]at k
    refine zAl ?_ (k H (zA.refl H))
    intro z
    injection z with z
    rw[y]at z
    omega
end
def zEe (lo hi:Int)(hd tl:S)(ba:List S)(to:Bool):bG:=.tuple [.int lo,.int hi,.str (tx hd),.str (tx tl),.tuple (ba.map fun x=>PyData.str (tx x)),.bool to]
structure GW (lo hi:Int) (hd tl:S) (ba:List S):Prop where
 glo:1<=lo
 gle:lo<=hi
 ghi:hi<=8
 ghd:hd=[]\/(vI hd/\hd.length<=3)
 gtl:tl=[]\/(vI tl/\tl.length<=3)
 len:ba.length<=6
 nm:∀x∈ba,vI x
 ris:qV ba=true
def vT (H:Hp)(a:ak)(lo hi:Int)(hd tl:S)(ba:List S)(to:Bool):Prop:=∃b,H a=some (.tup [.int lo,.int hi,sv hd,sv tl,.ref b,.bl to])/\H b=some (.tup (zF ba))
theorem vT.same {H c:Hp}{a:ak}{lo hi:Int}{hd tl:S}{d:List S}{to:Bool}(h:vT H a lo hi hd tl d to)(e:zA H c):vT c a lo hi hd tl d to :=
 let⟨b,f,g⟩:=h;⟨b,e _ _ f,e _ _ g⟩
def qX (lo hi:Int)(hd tl x:S):Bool:=(decide (lo<=(x.length:Int))&&decide ((x.length:Int)<=hi))&& (iN (tx x) (tx hd)&&ju (tx x) (tx tl))
def jJ (bk ba:List S)(to:Bool)(x:S):Bool:=decide (x∈ba)||(!to&&decide (x∈bk))
def zAP (bk:List S)(lo hi:Int)(hd tl:S)(ba:List S)(to:Bool)(x:S):Bool:=qX lo hi hd tl x&&!jJ bk ba to x
theorem zIY {X:Cx}:gH X "str.startswith" (fun x vs H Q=>∃a b:Str,x=.str a/\vs=[.str b]/\Q (.bl (iN a b)) H):=by
 intro c s σ H x vs v g Q I d e h
 obtain⟨a,b,rfl,rfl,q⟩:=h
 obtain⟨t,rfl⟩:=d
 obtain⟨u,rfl,f⟩:=uF e
 obtain⟨t',rfl⟩:=f
 exact SC.startswith ⟨.bl _,H,I,rfl,q⟩
theorem zQG (x:S)(l:List S):qG (sv x) (zF l)=decide (x∈l):=by
 unfold qG zF
 rw[sR]
 induction l with
 |nil=>simp
 |cons y l ih=>
  rw[fz,ih]
  have e:jC (sv y) (sv x)=decide (x=y):=by
   show((tx y)==(tx x))=_
   by_cases z:x=y
   ·subst z;simp
   ·rw[decide_eq_false z,beq_eq_false_iff_ne]
    exact fun q=>z (jE q).symm
  show(jC (sv y) (sv x)||_)=_
  rw[e]
  by_cases z:x=y
  ·subst z;simp
  ·simp[z]
theorem zQH (l:List S):(zF l).all j3=true:=by
 unfold zF
 rw[fU]
 exact da.mpr fun _ _=>rfl
section
variable{P:aJ}{w:aY}{K:ag}{mg:Str->Option aj}{base:bE}
abbrev zEf:c8:=top 52
theorem zQI:FnScope ["thing"] ["thing"] (defScope zEf):=yE
def zIZ:Sp:=fun vs H Q _=>∃(a:ak) (lo hi:Int) (hd tl:S) (ba:List S) (to:Bool) (x:S),vs=[.ref a,sv x]/\vT H a lo hi hd tl ba to/\x.length<=900/\Q (.bl (qX lo hi hd tl x)) H
abbrev zEg:c8:=top 53
theorem zQJ:FnScope ["wish","name"] ["wish","name"] (defScope zEg):=yE
theorem zQK {f:ak}{fd:bg}(F:Fun K "has_form" "has_form" zEg f fd)(B:Blt mg)(W:CstW mg):FnOk P w K mg base z7 1 f fd ["wish","name"] zIZ:=by
 obtain⟨n,d⟩:=W.least
 obtain⟨o,g⟩:=W.most
 obtain⟨p,i⟩:=W.head
 obtain⟨q,j⟩:=W.tail
 refine F.ok zQJ (fun vs H Q E h=>?_) (fun l A outer s H vs Q E r h=>?_)
 ·obtain⟨a,lo,hi,hd,tl,m,to,x,rfl,_⟩:=h;rfl
 ·obtain⟨a,lo,hi,hd,tl,m,to,x,rfl,⟨b,ha,hb⟩,t,k⟩:=h
  refine⟨_,zQ (yV (v1 (zCr kR kR (yM vE (pv 0) (yN (v:=.int 0) (by rfl) d ⟨_,rfl⟩) (fun _ _=>rfl)) (yL j5 (by rfl) B.len bL (zC (pv 1) zD)) (yM vE (pv 0) (yN (v:=.int 1) (by rfl) g ⟨_,rfl⟩) (fun _ _=>rfl))))
    (zK (z6 qN)) yU)
   (zK (z6 (zAT (jM fT jy jz zIY (pv 1) (zC (yM vE (pv 0) (yN (v:=.int 2) (by rfl) i ⟨_,rfl⟩) (fun _ _=>rfl)) zD))
    (gE (jM fT PySem.F.slot_str_endswith PySem.F.type_str_endswith zLx (pv 1) (zC (yM vE (pv 0) (yN (v:=.int 3) (by rfl) j ⟨_,rfl⟩) (fun _ _=>rfl)) zD)))))),?_⟩
  refine⟨_,rfl,a,_,0,.int lo,rfl,rfl,.of ha,rfl,_,rfl,tx x,rfl,by rw[z9,aF];omega,_,_,rfl,rfl,_,rfl,?_⟩
  by_cases hl:lo<=(x.length:Int)
  ·refine kX (by rw[z9];exact hl) ⟨_,rfl,a,_,1,.int hi,rfl,rfl,.of ha,rfl,_,_,rfl,rfl,_,rfl,?_⟩
   by_cases c:(x.length:Int)<=hi
   ·refine kU (by rw[z9];exact c) ?_
    refine⟨_,rfl,rfl,_,rfl,a,_,2,sv hd,rfl,rfl,.of ha,rfl,_,_,rfl,rfl,_,rfl,?_⟩
    cases e1:iN (tx x) (tx hd)with
    |false=>
     have e:qX lo hi hd tl x=false:=by simp only[qX,e1,c7,eM]
     rw[e]at k
     exact yO k
    |true=>
     refine yK ⟨_,rfl,rfl,_,rfl,a,_,3,sv tl,rfl,rfl,.of ha,rfl,_,_,rfl,rfl,?_⟩
     have e:qX lo hi hd tl x=ju (tx x) (tx tl):=by simp only[qX,e1,decide_eq_true hl,decide_eq_true c,gc]
     rw[e]at k
     exact k
   ·have e:qX lo hi hd tl x=false:=by simp only[qX,decide_eq_false c,c7,eM]
    rw[e]at k
    exact zAl (by rw[z9];exact c) k
  ·have e:qX lo hi hd tl x=false:=by simp only[qX,decide_eq_false hl,c7]
   rw[e]at k
   exact uZ (by rw[z9];exact hl) ⟨_,rfl,yK k⟩
def zEh:Sp:=fun vs H Q _=>∃(c a:ak) (bk:List S) (lo hi:Int) (hd tl:S) (ba:List S) (to:Bool),vs=[.ref c,.ref a]/\H c=some (.tup (zF bk))/\bk.length<=8/\vT H a lo hi hd tl ba to/\ba.length<=6/\
 ∀(l:ak) (out:List S) (H':Hp),zA H H'->H' l=some (.lst (zF out))->(∀x,decide (x∈out)=jJ bk ba to x)->Q (.ref l) H'
abbrev zEi:c8:=top 54
theorem zQL:FnScope ["book","wish"] ["book","wish"] (defScope zEi):=yE
theorem zQM (l:List S):zF l=(l.map tx).map V.str:=by
 unfold zF
 rw[aU];rfl
abbrev zEj:c8:=top 55
theorem zQN:FnScope ["book","wish","name"] ["book","wish","name"] (defScope zEj):=yE
end
end Kn
end
section
namespace L2
open PySem PySem.Spec PyProof.Rows
section
variable{X:Cx}
def zQO:List V->Hp->VK->Prop:=fun xs H Q=>∃z:Str,xs=[.str z]/\z.cps.size<=1000/\∀l:ak,H l=none->Q (.ref l) (upd H l (.lst (z.cps.toList.map fun c=>V.str ⟨#[c]⟩)))
theorem zIa (m:X.calm=true):uU X (.type "list") zQO:=by
 intro g s σ H xs B Q I n h
 obtain⟨z,rfl,hz,q⟩:=h
 obtain⟨u,rfl,t,rfl⟩:=uF n
 have C:(1000:Nat)<=sizeLine:=by rw[aF];decide
 refine call_list_str (I.ok.hd m) z t (fun h' tk b r w x d=>?_) (by omega)
 have f:b.toList.length=z.cps.toList.length:=by rw[bj,bj];exact d.1
 have hv:zL (z.cps.toList.map fun c=>V.str ⟨#[c]⟩) b.toList:=by
  have go:∀(l:List Nat) (a:List aj),a.length=l.length->(∀(i:Nat) (v:aj),a[i]?=some v->∃p,l[i]?=some p/\∃t,v=Value.str ⟨#[p]⟩ t)->zL (l.map fun c=>V.str ⟨#[c]⟩) a:=by
   intro l
   induction l with
   |nil=>intro a ha _;rw[cq.mp ha];exact .nil
   |cons p l ih=>
    intro a ha j
    cases a with
    |nil=>cases ha
    |cons v a=>
     obtain⟨D,e,t,ev⟩:=j 0 v rfl
     cases e
     exact .cons ⟨t,ev⟩ (ih a (by simpa using ha) fun i u y=>by simpa using j (i+1) u (by simpa using y))
  refine go z.cps.toList b.toList f fun i v e=>?_
  obtain⟨c,u,e1,A⟩:=d.2 i v (by rw[<-dR];exact e)
  exact⟨c,by rw[dR];exact e1,u,A⟩
 refine⟨.ref s.heap.objs.size,_,I.laid (t':=tk) (o:=.lst (z.cps.toList.map fun c=>V.str ⟨#[c]⟩)) w (ay _) ⟨by rw[ah,bj];omega,b.toList,r,hv,?_⟩,rfl,q _ (I.hok.fresh (ay _))⟩
 rw[nz];exact x
end
end L2
end
section
namespace Kn.Ln
open PySem L2 Kn
def vM (hd:S)(n:Nat):List S:=hd.map (fun c=>[c])++bh (n-hd.length) []
def vJ (tl:S)(n:Nat):List S:=bh (n-tl.length) []++tl.map fun c=>[c]
def uM (x y:S):Bool:=decide (x=y)||(decide (x=[])||decide (y=[]))
def jU (x y:S):S:=if x=[]then y else x
def qK (hd tl:S)(n:Nat):List (List S):=if n<max hd.length tl.length then []else if((vM hd n).zip (vJ tl n)).all (fun p=>uM p.1 p.2)=true then [((vM hd n).zip (vJ tl n)).map fun p=>jU p.1 p.2]else []
def yJ (lo hi:Nat)(hd tl:S):List (List S):=(bC (hi+1-lo)).flatMap fun i=>qK hd tl (lo+i)
theorem zCW {hd:S}{n:Nat}(h:hd.length<=n):(vM hd n).length=n:=by
 unfold vM;rw[au,ah,dQ];omega
theorem zEk {tl:S}{n:Nat}(h:tl.length<=n):(vJ tl n).length=n:=by
 unfold vJ;rw[au,ah,dQ];omega
theorem zIb:∀(k:Nat) (t:S),yF (bh k []) t=true↔t.length=k
 |0,[]=>by simp[yF]
 |0,c::t=>by simp[yF]
 |k+1,[]=>by simp[cu,yF]
 |k+1,c::t=>by
  rw[cu]
  unfold yF
  rw[aO,zIb k t,aM]
  simp
theorem zIc:∀(hd:S) (k:Nat) (t:S),yF (hd.map (fun c=>[c])++bh k []) t=true↔t.length=hd.length+k/\t.take hd.length=hd
 | [],k,t=>by
  rw[mx,eg,zIb];simp
 |c::hd,k,[]=>by
  rw[aR,cT]
  simp[yF]
 |c::hd,k,d::t=>by
  rw[aR,cT]
  unfold yF
  rw[aO,zIc hd k t,aM,aM,List.take_succ_cons]
  simp
  constructor
  ·rintro⟨e,b,a⟩;exact⟨by omega,e.symm,a⟩
  ·rintro⟨b,e,a⟩;exact⟨e.symm,by omega,a⟩
theorem zId:∀(tl t:S),yF (tl.map fun c=>[c]) t=true↔t=tl
 | [],[]=>by simp[yF]
 | [],c::t=>by simp[yF]
 |c::tl,[]=>by simp[yF]
 |c::tl,d::t=>by
  rw[aR]
  unfold yF
  rw[aO,zId tl t]
  simp
  exact fun _=>eq_comm
theorem zIe:∀(k:Nat) (tl t:S),yF (bh k []++tl.map fun c=>[c]) t=true↔t.length=k+tl.length/\t.drop k=tl
 |0,tl,t=>by
  rw[List.replicate_zero,eg,zId,eO]
  constructor
  ·rintro rfl;exact⟨by omega,rfl⟩
  ·exact fun h=>h.2
 |k+1,tl,[]=>by
  rw[cu,cT]
  simp[yF];omega
 |k+1,tl,d::t=>by
  rw[cu,cT]
  unfold yF
  rw[aO,zIe k tl t,aM,List.drop_succ_cons]
  simp
  exact fun _=>by omega
theorem zQP (w v:S)(c:Nat):((w=[]\/w=[c])/\(v=[]\/v=[c]))↔uM w v=true/\(jU w v=[]\/jU w v=[c]):=by
 unfold uM jU
 by_cases h:w=[]
 ·subst h;simp
 ·rw[if_neg h]
  simp only[h,false_or,decide_false,lH,jl,decide_eq_true_eq]
  constructor
  ·rintro⟨rfl,rfl|rfl⟩
   ·exact⟨.inr rfl,rfl⟩
   ·exact⟨.inl rfl,rfl⟩
  ·rintro⟨rfl|rfl,e⟩
   ·exact⟨e,.inr e⟩
   ·exact⟨e,.inl rfl⟩
theorem zIf:∀(a b:List S) (t:S),a.length=b.length->((yF a t=true/\yF b t=true)↔((a.zip b).all (fun p=>uM p.1 p.2)=true/\yF ((a.zip b).map fun p=>jU p.1 p.2) t=true))
 | [],[],t,_=>by simp
 | [],_::_,t,h=>by cases h
 |_::_,[],t,h=>by cases h
 |w::a,v::b,[],h=>by simp[yF]
 |w::a,v::b,c::t,h=>by
  have ih:=zIf a b t (by simpa using h)
  have g:=zQP w v c
  rw[List.zip_cons_cons,aR,nR]
  unfold yF
  simp only[aO,jl,decide_eq_true_eq]
  constructor
  ·rintro⟨⟨d,e⟩,f,i⟩
   obtain⟨g1,g2⟩:=g.mp ⟨d,f⟩
   obtain⟨i1,i2⟩:=ih.mp ⟨e,i⟩
   exact⟨⟨g1,i1⟩,g2,i2⟩
  ·rintro⟨⟨g1,i1⟩,g2,i2⟩
   obtain⟨d,f⟩:=g.mpr ⟨g1,g2⟩
   obtain⟨e,i⟩:=ih.mpr ⟨i1,i2⟩
   exact⟨⟨d,e⟩,f,i⟩
def zAQ (lo hi:Nat)(hd tl t:S):Prop:=lo<=t.length/\t.length<=hi/\t.take hd.length=hd/\zW t tl.length=tl
theorem zQQ {t h:S}(e:t.take h.length=h):h.length<=t.length:=by
 have:=congrArg eE e
 rw[aI]at this;omega
theorem zQR {t l:S}(e:zW t l.length=l):l.length<=t.length:=by
 have:=congrArg eE e
 unfold zW at this
 rw[bQ]at this;omega
theorem zEl {hd tl:S}{n:Nat}{p:List S}(h:p∈qK hd tl n):p.length=n:=by
 unfold qK at h
 split at h
 ·cases h
 ·rename_i a
  split at h
  ·rw[aS.mp h,ah,jo,zCW (by omega),zEk (by omega)];omega
  ·cases h
theorem zIg {hd tl:S}{n:Nat}{t:S}:(∃p∈qK hd tl n,yF p t=true)↔t.length=n/\t.take hd.length=hd/\zW t tl.length=tl:=by
 unfold qK
 by_cases f:n<max hd.length tl.length
 ·rw[if_pos f]
  constructor
  ·rintro⟨p,c,_⟩;cases c
  ·rintro⟨a,b,e⟩
   have:=zQQ b
   have:=zQR e
   omega
 ·rw[if_neg f]
  have g:hd.length<=n:=by omega
  have h:tl.length<=n:=by omega
  have e1:=zIc hd (n-hd.length) t
  have i:=zIe (n-tl.length) tl t
  have key:=zIf (vM hd n) (vJ tl n) t (by rw[zCW g,zEk h])
  have f1:yF (vM hd n) t=true↔t.length=n/\t.take hd.length=hd:=by
   unfold vM;rw[e1,show hd.length+(n-hd.length)=n by omega]
  have f2:yF (vJ tl n) t=true↔t.length=n/\zW t tl.length=tl:=by
   unfold vJ
   rw[i,show n-tl.length+tl.length=n by omega]
   unfold zW
   constructor
   ·rintro⟨a,b⟩;exact⟨a,by rw[a];exact b⟩
   ·rintro⟨a,b⟩;exact⟨a,by rw[a]at b;exact b⟩
  constructor
  ·rintro⟨p,c,hf⟩
   split at c
   ·rename_i d
    rw[aS.mp c]at hf
    obtain⟨a,b⟩:=key.mpr ⟨d,hf⟩
    exact⟨(f1.mp a).1,(f1.mp a).2,(f2.mp b).2⟩
   ·cases c
  ·rintro⟨a,b,e⟩
   obtain⟨j,l⟩:=key.mp ⟨f1.mpr ⟨a,b⟩,f2.mpr ⟨a,e⟩⟩
   rw[if_pos j]
   exact⟨_,cU _,l⟩
theorem zQS {lo hi:Nat}{hd tl t:S}:(∃p∈yJ lo hi hd tl,yF p t=true)↔zAQ lo hi hd tl t:=by
 unfold yJ zAQ
 constructor
 ·rintro⟨p,a,hf⟩
  obtain⟨i,b,a⟩:=bf.mp a
  have b:=bI.mp b
  obtain⟨e,d,c⟩:=zIg.mp ⟨p,a,hf⟩
  exact⟨by omega,by omega,d,c⟩
 ·rintro⟨e,d,c,f⟩
  obtain⟨p,a,hf⟩:=zIg.mpr ⟨rfl,c,f⟩
  exact⟨p,bf.mpr ⟨t.length-lo,bI.mpr (by omega),by rw[show lo+(t.length-lo)=t.length by omega];exact a⟩,hf⟩
theorem zCX {lo hi:Nat}{hd tl:S}{p:List S}(h:p∈yJ lo hi hd tl):lo<=p.length/\p.length<=hi:=by
 obtain⟨i,a,b⟩:=bf.mp h
 have a:=bI.mp a
 have:=zEl b
 omega
theorem zCY (hd tl:S)(n:Nat):(qK hd tl n).length<=1:=by
 unfold qK
 split
 ·simp
 ·split<;>simp
theorem zCZ (lo hi:Nat)(hd tl:S):(yJ lo hi hd tl).Pairwise fun p q=>p.length≠q.length:=by
 unfold yJ
 rw[dS]
 refine⟨fun i _=>?_,?_⟩
 ·have:=zCY hd tl (lo+i)
  match qK hd tl (lo+i),this with
  | [],_=>simp
  | [p],_=>simp
 ·refine(pj).imp fun{i j} a p b q c e=>?_
  rw[zEl b,zEl c]at e
  omega
theorem zQT (lo hi:Nat)(hd tl:S):(yJ lo hi hd tl).length<=hi+1-lo:=by
 unfold yJ
 have h:=zAp (fun i=>qK hd tl (lo+i)) 1 (bC (hi+1-lo)) fun i _=>zCY _ _ _
 rw[bW]at h
 omega
def zCa (H0 H:Hp)(l:ak)(pats:List (List S)):Prop:=∃as:List ak,H l=some (.lst (as.map V.ref))/\as.length=pats.length/\(∀a∈as,H0 a=none/\a≠l)/\∀(i:Nat) (a:ak) (p:List S),as[i]?=some a->pats[i]?=some p->H a=some (.lst (p.map sv))
theorem zIh (x:S):(tx x).cps.toList.map (fun c=>V.str ⟨#[c]⟩)=(x.map fun c=>[c]).map sv:=by
 rw[vW,aU];rfl
theorem zIi (n:Nat):(bh n [V.str ""]).flatten=(bh n ([]:S)).map sv:=by
 induction n with
 |zero=>rfl
 |succ n ih=>rw[cu,fc,ih,cu,aR];rfl
section
variable{P:aJ}{w:aY}{K:ag}{mg:Str->Option aj}{base:bE}
abbrev zEm:c8:=top 56
theorem zQU:FnScope ["one","other"] ["one","other"] (defScope zEm):=yE
def zIj:Sp:=fun vs H Q _=>∃(x y:S),vs=[sv x,sv y]/\∀H',zA H H'->Q (.bl (uM x y)) H'
theorem zQV {f:ak}{fd:bg}(F:Fun K "go_together" "go_together" zEm f fd)(a:∃t,mg "ANY"=some (.str "" t)):FnOk P w K mg base z7 1 f fd ["one","other"] zIj:=by
 obtain⟨u,a⟩:=a
 refine F.ok zQU (fun vs H Q E h=>?_) (fun j A outer s H vs Q E m h=>?_)
 ·obtain⟨x,v,rfl,_⟩:=h;rfl
 ·obtain⟨x,y,rfl,k⟩:=h
  refine⟨_,zK (z6 (zFH (qO zAz (pv 0) (pv 1) (vD _)) (gE (qO zFg (yN (v:=.str "") (by rfl) a ⟨_,rfl⟩) (v9 (zC (pv 0) (zC (pv 1) zD))) (by with_unfolding_all rfl))))),?_⟩
  refine⟨_,rfl,_,rfl,rfl,_,rfl,?_⟩
  by_cases hl:x=y
  ·subst hl
   have e:uM x x=true:=by unfold uM;simp
   have:=k H (zA.refl H)
   rw[e]at this
   exact kX rfl this
  ·have b:¬V.str (tx x)=V.str (tx y):=fun z=>hl (jE (V.str.inj z))
   refine uZ b ⟨_,rfl,_,rfl,by show 2<=sizeLine;decide,fun p l=>⟨p,zF [x,y],rfl,.inr (.of zE),rfl,zCC _,?_⟩⟩
   have e:(if false=true then !qG (sv []) (zF [x,y])else qG (sv []) (zF [x,y]))=uM x y:=by
    rw[if_neg (by simp),zCB]
    unfold uM
    rw[decide_eq_false hl,lH]
    by_cases c:x=[]
    ·subst c;simp
    ·by_cases d:y=[]
     ·subst d;simp
     ·have g:¬ []=x:=fun z=>c z.symm
      have i:¬ []=y:=fun z=>d z.symm
      simp[c,d,g,i]
   show Q (.bl (if false=true then !qG (sv []) (zF [x,y])else qG (sv []) (zF [x,y]))) _
   rw[e]
   exact k _ (zA.upd1 l)
end
theorem zIk {l:List S}{i:Nat}{x:V}(h:(l.map sv)[i]?=some x):∃y,l[i]?=some y/\x=sv y:=by
 rw[aw]at h
 cases e:l[i]? with
 |none=>rw[e]at h;cases h
 |some y=>rw[e]at h;exact⟨y,rfl,(aD h).symm⟩
section
variable{P:aJ}{w:aY}{K:ag}{mg:Str->Option aj}{base:bE}
theorem zIl {a b:ak}{xs ys:List S}(hl:xs.length=ys.length)(G:xs.length<900){caps:List Nat}{n:Nat}{σ:St}{g:TG}{I:TT}{L:TE}{F:List V->Hp->Prop}{o:Hp}(ha:o a=some (.lst (xs.map sv)))(hb:o b=some (.lst (ys.map sv)))(cv:St)(k:Nat)(r:S×S->V)
  (p:∀(x y:S) (T:ak) (H:Hp) (l:St) (c:List V) (q:List V->St->Hp->Prop),(∀d l,l.length=k->zA H d->q (c++[r (x,y)]) (cv++l) d)->l.length=k->zA o H->H T=none->
   g (.ref T) (cv++l) (upd H T (.tup [sv x,sv y])) fun f v=>I f v fun b s=>if b=true then L f s fun y z=>q (c++[y]) f z else q c f s)
  (fin:∀H,zA o H->F ((xs.zip ys).map r) H) (A:uX caps n σ=cv++bh k none:=by rfl) :
  ∃W:Nat->Nat->List V->St->Hp->Prop,(∃m,W 0 m [] (uX caps n σ) o)/\∀i m c M d,W i m c M d->
   ((Itz K false a b).stop i d/\F c d)\/
   ((Itz K false a b).go i d/\c.length<sizeLine/\∀x B,(Itz K false a b).yld i d x B->g x M B fun f v=>I f v fun b s=>if b=true then L f s fun y z=>∃t,t<m/\W (i+1) t (c++[y]) f z else∃t,t<m/\W (i+1) t c f s):=by
 refine zGi (J:=Itz K false a b) (xs:=xs.map sv) (ys:=ys.map sv) (len:=xs.length) (Hk:=fun d=>zZ K d a (xs.map sv)/\qQ false K d b (ys.map sv))
   (fun i d j hi=>⟨xs.map sv,ys.map sv,(xs.map sv)[i]'(by rw[ah];exact hi),(ys.map sv)[i]'(by rw[ah];omega),j.1,j.2,aq _,aq _⟩)
   (fun i d j e=>⟨xs.map sv,ys.map sv,j.1,j.2,by rw[ah,ah];omega⟩)
   (fun i d x R j ⟨T,U,X,e1,C,Y,Z,e5⟩=>⟨T,U,X,e1,C,Y,Z _ j.1,e5 _ j.2⟩)
   cv k (by omega) (fun i c d=>zA o d/\c=((xs.zip ys).take i).map r)
   ⟨zA.refl _,rfl⟩ (fun i c d hi h=>⟨⟨.of (h.1 _ _ ha),(show qQ false K d b (ys.map sv)from .of (h.1 _ _ hb))⟩,by rw[h.2,ah,aI];omega⟩) ?_ ?_ A
 ·rintro i x y T c d l q hN hx hy D ⟨u,rfl⟩ hT
  obtain⟨N,e1,rfl⟩:=zIk hx
  obtain⟨O,C,rfl⟩:=zIk hy
  refine p N O T d l _ q (fun B E h2 s2=>hN _ _ E h2 ⟨u.trans s2,?_⟩) D u hT
  have Q:(xs.zip ys)[i]?=some (N,O):=by rw[ia];exact⟨e1,C⟩
  rw[aB (ai.mp Q).1,(ai.mp Q).2,aQ];rfl
 ·rintro c d ⟨u,rfl⟩
  have e:(xs.zip ys).take xs.length=xs.zip ys:=dJ (by rw[jo];omega)
  rw[e]
  exact fin d u
abbrev sPL:c8:=top 57
theorem zIm:FnScope ["head","tail","length","by_head","by_tail"] ["head","tail","length"] (defScope sPL):=yE
theorem zCb:(["one","other"]:List Str).Nodup:=by decide+kernel
def zIn:Sp:=fun vs H Q _=>∃(hd tl:S) (n:Nat),vs=[sv hd,sv tl,.int n]/\hd.length<=8/\tl.length<=8/\n<=8/\∀l H',zA H H'->H l=none->zCa H H' l (qK hd tl n)->Q (.ref l) H'
theorem zEn {H b:Hp}{l:ak}(h:b l=some (.lst [])):zCa H b l []:=⟨[],h,rfl,(fun a ha=>by cases ha),fun i a p ha=>by cases ha⟩
theorem zQW {f:ak}{fd:bg}(F:Fun K "patterns_of_length" "patterns_of_length" sPL f fd)(B:Blt mg)(as:mg "max"=none)(M:mg "list"=none)(hz:mg "zip"=none)(O:∃t,mg "ANY"=some (.str "" t))(cG:zV P w K mg base 1 "go_together" ["one","other"] zIj):FnOk P w K mg base z7 2 f fd ["head","tail","length"] zIn:=by
 obtain⟨u,O⟩:=O
 refine F.ok zIm (fun vs H Q E h=>?_) (fun a9 A outer s H vs Q E hr h=>?_)
 ·obtain⟨x,y,n,rfl,_⟩:=h;rfl
 ·obtain⟨hd,tl,n,rfl,hh,ht,hn,k⟩:=h
  have nd:=zIm.nd
  refine⟨_,zQ (yV (vY zBA (pv 2) (yL (zKY rfl) (by rfl) as sX (zC (yL j5 (by rfl) B.len bL (zC (pv 0) zD)) (zC (yL j5 (by rfl) B.len bL (zC (pv 1) zD)) zD))) (vD _)) (zK (z6 (uG zD))) yU)
   (zQ (yH (i:=3) nd rfl (Or.inl rfl) (zS zFm (gY (zIa rfl) (by rfl) M fV (zC (pv 0) zD)) (zS zFn (uG (zC (yN (v:=.str "") (by rfl) O ⟨_,rfl⟩) zD)) (zS zCq (pv 2) (yL j5 (by rfl) B.len bL (zC (pv 0) zD))))))
   (zQ (yH (i:=4) nd rfl (Or.inl rfl) (zS zFm (zS zFn (uG (zC (yN (v:=.str "") (by rfl) O ⟨_,rfl⟩) zD)) (zS zCq (pv 2) (yL j5 (by rfl) B.len bL (zC (pv 1) zD)))) (gY (zIa rfl) (by rfl) M fV (zC (pv 1) zD))))
   (zQ (yV (v1 (vX (yL (zBH rfl) (by rfl) B.all eU (zC (uY (N:=["one","other"]) (caps:=[]) rfl (uH (by kernel_rfl)) (zGh false rfl hz (zC (pv 3) (zC (pv 4) zD)))
     (fun R C s H ex=>zAF K 2 rfl rfl (yW (z8 (i:=0) zCb rfl (Or.inl rfl)) (yW (z8 (i:=1) zCb rfl (Or.inl rfl)) uS)) rfl rfl)
     (fun R C s H ex=>qP)
     (fun R C s H ex=>zT cG hr rfl (zC (pv 0) (zC (pv 1) zD)))) zD)))) (zK (z6 (uG zD))) yU)
   (zK (z6 (uG (zC (uY (N:=["one","other"]) (caps:=[]) rfl (uH (by kernel_rfl)) (zGh false rfl hz (zC (pv 3) (zC (pv 4) zD)))
     (fun R C s H ex=>zAF K 2 rfl rfl (yW (z8 (i:=0) zCb rfl (Or.inl rfl)) (yW (z8 (i:=1) zCb rfl (Or.inl rfl)) uS)) rfl rfl)
     (fun R C s H ex=>qP)
     (fun R C s H ex=>zJu (vY zAz (pv 0) (yN (v:=.str "") (by rfl) O ⟨_,rfl⟩) (vD _)) (pv 1) (pv 0))) zD))))))),?_⟩
  have g:=k
  unfold qK at g
  refine⟨_,rfl,_,rfl,tx hd,rfl,by rw[z9,aF];omega,_,rfl,tx tl,rfl,by rw[z9,aF];omega,_,_,rfl,_,_,rfl,rfl,_,rfl,?_⟩
  rw[z9,z9]
  have ax:(if((tl.length:Nat):Int)> ((hd.length:Nat):Int)then((tl.length:Nat):Int)else((hd.length:Nat):Int))=((max hd.length tl.length:Nat):Int):=by
   split<;>omega
  rw[ax]
  by_cases hm:n<max hd.length tl.length
  ·rw[if_pos hm]at g
   refine kX (by omega) ⟨by show 0<=sizeLine;exact bp _,fun l hl=>?_⟩
   exact g l _ (zA.upd1 hl) hl (zEn zE)
  ·rw[if_neg hm]at g
   refine uZ (by omega) ?_
   refine⟨_,rfl,tx hd,rfl,by rw[<-bj,vW];omega,fun U hl1=>?_⟩
   rw[zIh]
   have s1:zA H (upd H U (.lst ((hd.map fun c=>[c]).map sv))):=zA.upd1 hl1
   have h1:upd H U (.lst ((hd.map fun c=>[c]).map sv)) U=some (.lst ((hd.map fun c=>[c]).map sv)):=zE
   generalize upd H U (.lst ((hd.map fun c=>[c]).map sv))=H1 at s1 h1
   refine⟨by show 1<=sizeLine;decide,fun W hl2=>?_⟩
   have s2:zA H1 (upd H1 W (.lst [V.str ""])):=zA.upd1 hl2
   have h2:upd H1 W (.lst [V.str ""]) W=some (.lst [V.str ""]):=zE
   generalize upd H1 W (.lst [V.str ""])=X at s2 h2
   refine⟨_,rfl,_,rfl,tx hd,rfl,by rw[z9,aF];omega,_,_,rfl,rfl,W,_,[V.str ""],rfl,rfl,h2,by rw[z9];omega,by rw[z9];omega,by rw[z9,aF];show 1*_<=_;omega,fun Y aK=>?_⟩
   rw[z9,show((n:Int)- ((hd.length:Nat):Int)).toNat=n-hd.length by omega,zIi]
   have s3:zA X (upd X Y (.lst ((bh (n-hd.length) ([]:S)).map sv))):=zA.upd1 aK
   have h3:upd X Y (.lst ((bh (n-hd.length) ([]:S)).map sv)) Y=some (.lst ((bh (n-hd.length) ([]:S)).map sv)):=zE
   generalize upd X Y (.lst ((bh (n-hd.length) ([]:S)).map sv))=Z at s3 h3
   refine⟨U,Y,_,_,rfl,rfl,s3 _ _ (s2 _ _ h1),h3,by rw[ah,ah,ah,dQ,aF];omega,fun G aN=>?_⟩
   rw[<-aQ]
   have s4:zA Z (upd Z G (.lst ((vM hd n).map sv))):=zA.upd1 aN
   have h4:upd Z G (.lst ((vM hd n).map sv)) G=some (.lst ((vM hd n).map sv)):=zE
   show zBa _ _ _ _ (upd Z G (.lst ((vM hd n).map sv)))
   generalize upd Z G (.lst ((vM hd n).map sv))=H4 at s4 h4
   have a0:=(s1.trans s2).trans (s3.trans s4)
   refine⟨by show 1<=sizeLine;decide,fun l5 a1=>?_⟩
   have s5:zA H4 (upd H4 l5 (.lst [V.str ""])):=zA.upd1 a1
   have h5:upd H4 l5 (.lst [V.str ""]) l5=some (.lst [V.str ""]):=zE
   generalize upd H4 l5 (.lst [V.str ""])=H5 at s5 h5
   refine⟨_,rfl,_,rfl,tx tl,rfl,by rw[z9,aF];omega,_,_,rfl,rfl,l5,_,[V.str ""],rfl,rfl,h5,by rw[z9];omega,by rw[z9];omega,by rw[z9,aF];show 1*_<=_;omega,fun l6 a2=>?_⟩
   rw[z9,show((n:Int)- ((tl.length:Nat):Int)).toNat=n-tl.length by omega,zIi]
   have s6:zA H5 (upd H5 l6 (.lst ((bh (n-tl.length) ([]:S)).map sv))):=zA.upd1 a2
   have h6:upd H5 l6 (.lst ((bh (n-tl.length) ([]:S)).map sv)) l6=some (.lst ((bh (n-tl.length) ([]:S)).map sv)):=zE
   generalize upd H5 l6 (.lst ((bh (n-tl.length) ([]:S)).map sv))=H6 at s6 h6
   refine⟨_,rfl,tx tl,rfl,by rw[<-bj,vW];omega,fun l7 a3=>?_⟩
   rw[zIh]
   have s7:zA H6 (upd H6 l7 (.lst ((tl.map fun c=>[c]).map sv))):=zA.upd1 a3
   have h7:upd H6 l7 (.lst ((tl.map fun c=>[c]).map sv)) l7=some (.lst ((tl.map fun c=>[c]).map sv)):=zE
   generalize upd H6 l7 (.lst ((tl.map fun c=>[c]).map sv))=H7 at s7 h7
   refine⟨l6,l7,_,_,rfl,rfl,s7 _ _ h6,h7,by rw[ah,ah,ah,dQ,aF];omega,fun l8 a4=>?_⟩
   rw[<-aQ]
   have s8:zA H7 (upd H7 l8 (.lst ((vJ tl n).map sv))):=zA.upd1 a4
   have h8:upd H7 l8 (.lst ((vJ tl n).map sv)) l8=some (.lst ((vJ tl n).map sv)):=zE
   show zBa _ _ _ _ (upd H7 l8 (.lst ((vJ tl n).map sv)))
   generalize upd H7 l8 (.lst ((vJ tl n).map sv))=H8 at s8 h8
   have aa:=(s5.trans s6).trans (s7.trans s8)
   have I:=aa _ _ h4
   have a5:=a0.trans aa
   have ab:(vM hd n).length=(vJ tl n).length:=by rw[zCW (by omega),zEk (by omega)]
   have j:(vM hd n).length<900:=by rw[zCW (by omega)];omega
   refine⟨_,rfl,_,rfl,G,l8,_,_,rfl,.of I,(show qQ false K H8 l8 ((vJ tl n).map sv)from .of h8),?_⟩
   refine zIl ab j I h8 [] 2 (fun p=>V.bl (uM p.1 p.2)) (fun x y T H' zs a6 Nx hN J sm hT=>?_) (fun H9 s9 D hD=>?_)
   ·obtain⟨z1,z2,rfl⟩:=zBQ J
    refine⟨T,_,rfl,.of zE,rfl,_,_,rfl,_,_,rfl,rfl,?_⟩
    unfold g9
    dsimp only
    rw[if_pos rfl]
    exact⟨_,rfl,_,rfl,x,y,rfl,fun X a7=>hN _ [some (sv x),some (sv y)] rfl ((zA.upd1 hT).trans a7)⟩
   ·have sD:zA H9 (upd H9 D (.lst (((vM hd n).zip (vJ tl n)).map fun p=>V.bl (uM p.1 p.2)))):=zA.upd1 hD
    have ac:upd H9 D (.lst (((vM hd n).zip (vJ tl n)).map fun p=>V.bl (uM p.1 p.2))) D=some (.lst ((((vM hd n).zip (vJ tl n)).map fun p=>uM p.1 p.2).map V.bl)):=by rw[zE,aU];rfl
    generalize upd H9 D (.lst (((vM hd n).zip (vJ tl n)).map fun p=>V.bl (uM p.1 p.2)))=a8 at sD ac
    refine⟨D,_,rfl,.of ac,_,rfl,?_⟩
    have al:(((vM hd n).zip (vJ tl n)).map fun p=>uM p.1 p.2).all id=((vM hd n).zip (vJ tl n)).all (fun p=>uM p.1 p.2):=by rw[fU];rfl
    rw[al]
    have d:=(a5.trans s9).trans sD
    have m:=sD _ _ (s9 _ _ I)
    have q:=sD _ _ (s9 _ _ h8)
    cases r:((vM hd n).zip (vJ tl n)).all (fun p=>uM p.1 p.2)with
    |false=>
     rw[r,if_neg (by simp)]at g
     refine yK ⟨bp _,fun l hl=>?_⟩
     exact g l _ (d.trans (zA.upd1 hl)) (d.free hl) (zEn zE)
    |true=>
     rw[r,if_pos rfl]at g
     refine yO ?_
     refine⟨_,rfl,_,rfl,G,l8,_,_,rfl,.of m,(show qQ false K a8 l8 ((vJ tl n).map sv)from .of q),?_⟩
     refine zIl ab j m q [] 2 (fun p=>sv (jU p.1 p.2)) (fun x y T H' zs a6 Nx hN J sm hT=>?_) (fun e am D2 an=>?_)
     ·obtain⟨z1,z2,rfl⟩:=zBQ J
      refine⟨T,_,rfl,.of zE,rfl,_,_,rfl,_,_,rfl,rfl,?_⟩
      unfold g9
      dsimp only
      rw[if_pos rfl]
      refine⟨_,rfl,rfl,_,rfl,?_⟩
      have b:=hN _ [some (sv x),some (sv y)] rfl (zA.upd1 (o:=.tup [sv x,sv y]) hT)
      unfold jU at b
      by_cases hx:x=[]
      ·rw[if_pos hx]at b
       exact kX (by rw[hx];rfl) ⟨_,rfl,b⟩
      ·rw[if_neg hx]at b
       exact uZ (fun z=>hx (jE (V.str.inj z))) ⟨_,rfl,b⟩
     ·have sE:zA e (upd e D2 (.lst (((vM hd n).zip (vJ tl n)).map fun p=>sv (jU p.1 p.2)))):=zA.upd1 an
      have L:upd e D2 (.lst (((vM hd n).zip (vJ tl n)).map fun p=>sv (jU p.1 p.2))) D2=some (.lst ((((vM hd n).zip (vJ tl n)).map fun p=>jU p.1 p.2).map sv)):=by rw[zE,aU];rfl
      generalize upd e D2 (.lst (((vM hd n).zip (vJ tl n)).map fun p=>sv (jU p.1 p.2)))=ba at sE L
      refine⟨by show 1<=sizeLine;decide,fun l hl=>?_⟩
      have ap:=d.trans (am.trans sE)
      refine g l _ (ap.trans (zA.upd1 hl)) (ap.free hl) ⟨[D2],zE,rfl,fun a ha=>?_,fun i a p ha hp=>?_⟩
      ·rw[aS.mp ha]
       exact⟨(d.trans am).free an,yG L hl⟩
      ·cases i with
       |zero=>
        cases ha;cases hp
        exact(zA.upd1 hl) _ _ L
       |succ i=>cases ha
abbrev zEo:c8:=top 58
theorem zIo:FnScope ["wish","found","length"] ["wish"] (defScope zEo):=yE
def zIp:Sp:=fun vs H Q _=>∃(a:ak) (lo hi:Nat) (hd tl:S) (ba:List S) (to:Bool),vs=[.ref a]/\vT H a lo hi hd tl ba to/\lo<=hi/\hi<=8/\hd.length<=8/\tl.length<=8/\∀l H',zA H H'->H l=none->zCa H H' l (yJ lo hi hd tl)->Q (.ref l) H'
theorem zQX {f:ak}{fd:bg}(F:Fun K "patterns" "patterns" zEo f fd)(B:Blt mg)(W:CstW mg)(cP:zV P w K mg base 2 "patterns_of_length" ["head","tail","length"] zIn):FnOk P w K mg base z7 3 f fd ["wish"] zIp:=by
 obtain⟨u0,g0⟩:=W.least
 obtain⟨u1,g1⟩:=W.most
 obtain⟨u2,g2⟩:=W.head
 obtain⟨u3,g3⟩:=W.tail
 refine F.ok zIo (fun vs H Q E h=>?_) (fun ab A outer s H vs Q E hr h=>?_)
 ·obtain⟨a,lo,hi,hd,tl,ba,to,rfl,_⟩:=h;rfl
 ·obtain⟨a,lo,hi,hd,tl,ba,to,rfl,⟨b,ha,hb⟩,ac,al,hh,ht,k⟩:=h
  have nd:=zIo.nd
  refine⟨_,zQ (yH (i:=1) nd rfl (Or.inl rfl) (uG zD))
   (zQ (uE bM rfl (zKL rfl B.range (zC (yM vE (pv 0) (yN (v:=.int 0) (by rfl) g0 ⟨_,rfl⟩) (fun _ _=>rfl)) (zC (zS yY (yM vE (pv 0) (yN (v:=.int 1) (by rfl) g1 ⟨_,rfl⟩) (fun _ _=>rfl)) zO) zD))) (z8 (i:=2) nd rfl (Or.inl rfl))
    (zK (q8 (jM ee fB fC zBc (pv 1) (zC (zT cP hr rfl (zC (yM vE (pv 0) (yN (v:=.int 2) (by rfl) g2 ⟨_,rfl⟩) (fun _ _=>rfl)) (zC (yM vE (pv 0) (yN (v:=.int 3) (by rfl) g3 ⟨_,rfl⟩) (fun _ _=>rfl)) (zC (pv 2) zD)))) zD)))))
   (zK (z6 (pv 1)))),?_⟩
  refine⟨bp _,fun l hl=>?_⟩
  have C:zA H (upd H l (.lst [])):=zA.upd1 hl
  have U:upd H l (.lst []) l=some (.lst []):=zE
  generalize upd H l (.lst [])=H1 at C U
  have g:=C _ _ ha
  have I:l≠a:=(yG ha hl).symm
  refine⟨_,rfl,a,_,0,.int lo,rfl,rfl,.of g,rfl,_,rfl,a,_,1,.int hi,rfl,rfl,.of g,rfl,_,_,rfl,rfl,lo,(hi:Int)+1,rfl,⟨by omega,by omega,by omega,by omega⟩,?_⟩
  have m:((hi:Int)+1- (lo:Int)).toNat=hi+1-lo:=by omega
  refine j8 (zBm (lo:Int) _) (fun i σ n=>∃J:Option V,σ=[some (.ref a),some (.ref l),J]/\zX l H1 n/\zCa H n l ((bC i).flatMap fun i=>qK hd tl (lo+i)))
   ⟨_,rfl,zX.refl _,zEn U⟩ (fun _ _ _ _ _=>trivial) ?_ ?_
  ·rintro i x σ n Nx hN D ⟨J,rfl,o,as,q,L,X,p4⟩
   rw[m]at D
   have M:i<hi+1-lo:=by
    have:=(ai.mp D).1
    simpa using this
   rw[aw,js M]at D
   have hx2:x=V.int ((lo+i:Nat):Int):=(aD D).symm
   subst hx2
   have r:=o _ _ I.symm g
   refine⟨_,rfl,.inl ⟨rfl,_,.of q⟩,_,rfl,a,_,2,sv hd,rfl,rfl,.of r,rfl,_,rfl,a,_,3,sv tl,rfl,rfl,.of r,rfl,_,rfl,hd,tl,lo+i,rfl,hh,ht,by omega,fun l2 H2 N hl2 ⟨bs,q1,Y,Z,q4⟩=>?_⟩
   have O:=N _ _ q
   have am:(bC i).length=i:=bW
   have aa:((bC i).flatMap fun i=>qK hd tl (lo+i)).length<=i*1:=by
    have:=zAp (fun i=>qK hd tl (lo+i)) 1 (bC i) fun i _=>zCY _ _ _
    rw[bW]at this;exact this
   have an:=zCY hd tl (lo+i)
   refine⟨l,l2,_,_,rfl,rfl,O,q1,by rw[ah,ah,L,Y,aF];omega,hN _ _ ⟨_,rfl,?_,as++bs,?_,?_,?_,?_⟩⟩
   ·exact fun b u t e=>by rw[zG t];exact N _ _ (o _ _ t e)
   ·rw[zE,aQ]
   ·rw[au,L,Y,dO,eC,au];simp
   ·intro c d
    rcases bw.mp d with z|z
    ·exact X c z
    ·obtain⟨G,z2⟩:=Z c z
     refine⟨?_,(yG q G).symm⟩
     cases e:H c with
     |none=>rfl
     |some u=>
      have R:c≠l:=(yG q G).symm
      have:=o _ _ R (C _ _ e)
      rw[this]at G;cases G
   ·intro j c p d y
    rw[dO,eC]at y
    by_cases hj:j<as.length
    ·rw[aT hj]at d
     rw[aT (by omega)]at y
     have T:=(X c (aZ d)).2
     rw[zG T]
     exact N _ _ (p4 j c p d y)
    ·rw[aP (by omega)]at d
     rw[aP (by omega),<-L]at y
     have T:=yG q (Z c (aZ d)).1
     rw[zG T.symm]
     exact q4 _ c p d (by simpa using y)
  ·rintro σ n ⟨J,rfl,o,pa⟩
   rw[ah,bW,m]at pa
   refine⟨_,rfl,k l n (fun b u e=>o _ _ (yG e hl) (C _ _ e)) hl pa⟩
end
theorem zQY {X:Cx}(a:ag)(b:X.K=a):yI X (compareOp .NotIn) (rIn a true):=by
 subst b
 exact zCw
theorem zQZ {K:ag}{H:Hp}{l:ak}{L:List S}(h:H l=some (.lst (L.map sv))):vN K H (.list (L.map fun x=>PyData.str (tx x))) (.ref l):=by
 refine⟨l,L.map sv,rfl,.of h,?_⟩
 have:=(Reps.strs (K:=K) (H:=H) (ss:=L.map tx) (xs:=L.map sv)).mpr (by rw[aU];rfl)
 rw[aU]at this
 exact this
end Kn.Ln
end
section
namespace L2
open PySem PySem.Spec PyProof.Rows
theorem zQa {i:Int}{n:Nat}(a:0<i)(h:i<2^n):i.natAbs.log2<n:=by
 refine(Nat.log2_lt (by omega)).mpr ?_
 have e:((2^n:Nat):Int)=(2:Int)^n:=by simp
 have:(i.natAbs:Int)<((2^n:Nat):Int):=by rw[e];omega
 omega
theorem zIq {X:Cx}:yI X (binaryOp .FloorDiv) (rI (fun _ j=>0<j/\j<2^8000) fun i j=>.int (i/j)):=opI fun i j _ _ _ _ _ a q=>by
 have b:(0:Int)<j:=a.1
 exact floordiv_int (by omega) (by rw[kb i (by omega)];exact q) (.inl (PyProof.noPylong_of_log2 (bu (zQa b a.2) (by decide))))
section
variable{X:Cx}
theorem zIr {j:Nat}{y:Str}{py spos:Pos}{tg iter elt:bJ}{ifs:List bJ}{scope:fX}{pos:Pos}{wi:TI}{g:TG}{tc:TT}{te:TE}{N:List Str}{caps:List Nat}(hN:X.N.Nodup)(hj:X.N[j]?=some y)(hy:Loc X.env.scope y)(hc:X.calm=true)(S:CompScope X.env.scope X.N N scope caps)
  (hi:PI X tg iter wi) (hg:∀cl C s H ex,PG (vF X N scope cl C s H ex) tg g) (hf:∀cl C s H ex,PF (vF X N scope cl C s H ex) ifs tc) (he:∀cl C s H ex,PE (vF X N scope cl C s H ex) elt te)
  (hs:∀x,foldedSetIterable iter X.env x=pure x:=by intro _;rfl) (hsw:swapsWith (.ListComp elt [⟨tg,iter,ifs,0⟩] scope pos) (some (.Name y py)) spos.line X.env=pure true:=by rfl)
  (hfn:X.fn y=true\/X.env.scope.names.lookup y=some .local:=by first|exact .inl rfl|exact .inr rfl|assumption):PS X (.Assign [.Name y py] (.ListComp elt [⟨tg,iter,ifs,0⟩] scope pos) spos) (zFK (zGD wi g tc te caps N.length) (zCm j)):=by
 intro pins s σ H D0 I h
 obtain⟨cl,hcl,hcl1,hcl2⟩:=zFz (env:=X.env) (scope:=scope) fun y hy e=>I.ok.has y.1 (S.free y hy e)
 rw[exec_Assign_Name_used _ _ _ _ hsw]
 refine af (nS (af ?_))
 show wpAny _ X.A (do let _<-comprehension (.ListComp elt [⟨tg,iter,ifs,0⟩] scope pos) scope X.env _ (newList []) false (eval iter X.env) (some (assign (.Name y py) X.env))) _ _ s
 refine af (cy (lI (use:=some (assign (.Name y py) X.env)) (Q:=fun _ s'=>SP X pins D0 .next s') rfl hs hcl S.kind S.names (zI (hi pins s σ H _ I h) fun v s1 h1=>zI h1 fun itv s2 h2=>?_))
  (fun _ s' hq=>ar (ar hq)) fun _ _ e=>e)
 obtain⟨it,fp,tn,J,H2,e,I2,T,st2,f2,W,⟨m0,w0⟩,turn⟩:=h2
 subst e
 refine cj (jd S.nocell (by intro y hy;simp at hy) (fun h₁ hns hsb=>?_) S.kind)
 dsimp only at hns hsb⊢
 generalize hG:s2.heap.push {cls:=.type "list",dict:=none,data:=.seq ([]:List aj).toArray}=G at hns hsb⊢
 have hCs:G.objs.size=s2.heap.objs.size+1:=by rw[<-hG,bF]
 have hDC:s2.heap.objs.size≠G.objs.size:=by rw[hCs];exact bc (dB _)
 have old:∀b o,s2.heap.get? b=some o->h₁.get? b=some o:=fun b o e=>by
  have hb:=aE e
  refine hsb.extBut b o (by rw[hCs];exact bc (bV hb)) (ae _ ?_)
  rw[<-hG]
  exact ae _ e
 have hD:h₁.get? s2.heap.objs.size=some {cls:=.type "list",dict:=none,data:=.seq ([]:List aj).toArray}:=by
  refine hsb.extBut _ _ hDC (ae _ ?_)
  rw[<-hG]
  exact aA _ rfl
 have hfo:∀b∈fp,b<s2.heap.objs.size:=fun b hb=>let⟨o,e,_⟩:=T.obj 0 _ st2 b hb;aE e
 have hCle:s2.heap.objs.size<=G.objs.size:=by omega
 have ok:=zGE (C:=G.objs.size) I2 S hcl1 hcl2 hCle f2 hfo
 have I0:Inv (vF X N scope cl G.objs.size s2 H2 fp) [(s2.heap.objs.size,{cls:=.type "list",dict:=none,data:=.seq ([]:List aj).toArray})] (uX caps N.length σ) H2 {s2 with heap:=h₁,toks:=s2.toks+([]:List (Str×aj)).length} :=
  zGF I2 ok S hcl1 hcl2 old hns hCle hD (ay _) hDC (fun v z=>by cases z)
 have st1:tn 0 h₁:=T.keep 0 _ _ st2 fun b _ o e=>old b o e
 generalize hX:vF X N scope cl G.objs.size s2 H2 fp=X' at I0
 generalize hDa:s2.heap.objs.size=D at I0 hD hDC
 have loop:codeAny (model X.prog X.w) X.A (.compLoop (.ListComp elt [⟨tg,iter,ifs,0⟩] scope pos) 0 (.ref it) (.ref D) (compEnvC scope cl G.objs.size X.env)) (compPost (model X.prog X.w) X.A X.xe (some (assign (.Name y py) X.env)) (fun _ s'=>SP X pins D0 .next s') (.ref D) G.objs.size)
   {s2 with heap:=h₁,toks:=s2.toks+([]:List (Str×aj)).length}:=by
  subst hX
  refine zGA (J:=fun n s'=>∃i σ' H' acc its e,Inv (vF X N scope cl G.objs.size s2 H2 fp) [(D,{cls:=.type "list",data:=.seq (gs its) e})] σ' H' s'/\zL acc its/\acc.length<=sizeLine/\tn i s'.heap/\(∀b∈fp,H' b=none)/\W i n acc σ' H')
   ?_ m0 ⟨0,_,H2,[],[],0,I0,.nil,bp _,st1,fun b hb=>(f2 b hb).1,w0⟩
  rintro n s3 ⟨i,σ3,H3,acc,its,ep,I3,rv,hz,st3,fr3,w3⟩
  have stat:∀{H':Hp} {pl:List (ak×Obj)},(∀b∈fp,H' b=none)->(∀p∈pl,p.1=D)->∀b∈fp,uT (vF X N scope cl G.objs.size s2 H2 fp) pl H' b:=fun{H' pl} hn hpl b hb=>by
   obtain⟨a1,a2⟩:=ok.exf b hb
   exact⟨hn b hb,a1,ok.exfs b hb,.inl hb,fun x c e=>a2 x c e,fun p hp=>by
    have hp':p∈pl:=hp
    rw[hpl p hp',<-hDa]
    exact cS (hfo b hb)⟩
  have one:∀p∈[(D,({cls:=.type "list",data:=.seq (gs its) ep}:Obj))],p.1=D:=fun p hp=>by
   rcases aG.mp hp with e|e
   ·rw[e]
   ·cases e
  have pinD:∀{pl:List (ak×Obj)} {σ':St} {H':Hp} {s':ao} {o:Obj},Inv (vF X N scope cl G.objs.size s2 H2 fp) pl σ' H' s'->(D,o)∈pl->s'.heap.get? D=some o/\H' D=none:=fun{pl σ' H' s' o} I' hm=>by
   obtain⟨a,b,_⟩:=I'.pin (D,o) (aX _ hm)
   exact⟨a,b⟩
  rcases turn i n acc σ3 H3 w3 with⟨stop,q⟩|⟨go,hlt,step⟩
  ·refine cy (T.done (vF X N scope cl G.objs.size s2 H2 fp) rfl rfl rfl hc i _ s3 σ3 H3 (fun _ _=>False) I3 (stat fr3 one) st3 stop) (fun r s4 ⟨hr,I4⟩=>?_) fun _ _ f=>f
   subst hr
   obtain⟨hDo,hDn⟩:=pinD I4 (az ..)
   obtain⟨m4,hm4,_⟩:=I4.loc
   have keepC:∀b (u:Obj),b≠G.objs.size->s4.heap.get? b=some u->s4.heap.get? b=some u:=fun b u _ e=>e
   have un:Un (uN X.stack) fp H2 H3 s2.heap s4.heap:=I4.base
   have hDo':=hDo
   have hlow:∀b (o:Obj),s2.heap.get? b=some o->b≠G.objs.size/\b≠D:=fun b o e=>by
    have h0:=aE e
    exact⟨by rw[hCs];exact bc (bV h0),by rw[<-hDa];exact bc h0⟩
   have un':Un (uN X.stack) fp H2 (upd H3 D (.lst acc)) s2.heap s4.heap :=
    ⟨fun b o e n' hb hx=>keepC b o (hlow b o e).1 (un.keep b o e n' hb hx),
     fun b o e n' hb hx=>let⟨sl,q⟩:=un.slot b o e n' hb hx;⟨sl,keepC b _ (hlow b o e).1 q⟩,
     fun b o e n' hx=>by rw[zG (hlow b o e).2];exact un.free b o e n' hx,
     fun b o e hx=>let⟨o',q⟩:=un.there b o e hx;⟨o',keepC b _ (hlow b o e).1 q⟩,
     fun b xs e=>by rw[zG (yG (un.tups b xs e) hDn)];exact un.tups b xs e,
     fun b o u e=>by rw[zG (yG (un.frzs b o u e) hDn)];exact un.frzs b o u e,
     fun b ps e=>let⟨mo,q⟩:=un.tbls b ps e;⟨mo,by rw[zG (yG q hDn)];exact q⟩⟩
   have hok:yA X.prog X.w (upd H3 D (.lst acc)) s4.heap:=I4.hok.track hDn ⟨hz,its,ep,rv,hDo'⟩
   have IX:Inv X pins σ (upd H3 D (.lst acc)) s4:=I2.call' I4.os un' hok I4.bare (fun b hb=>by
    obtain⟨_,f1,_,f3,f4,f5⟩:=f2 b hb
    exact⟨f3,f1,f4,f5⟩)
   have hCn:upd H3 D (.lst acc) G.objs.size=none:=by
    rw[zG (d5 hDC)];exact I4.free
   have fpC:uT X pins (upd H3 D (.lst acc)) G.objs.size:=I2.fpOk hCle hCn
   obtain⟨oC,es,epC,hoC,hdC,hsk,hnf⟩:=hm4
   have IXp:=IX.pinned (fp:=[G.objs.size]) (fun b hb=>by
    have:b=G.objs.size:=by simpa using hb
    rw[this];exact fpC) (fun b hb=>by
    have:b=G.objs.size:=by simpa using hb
    rw[this];exact⟨oC,hoC,fun v z=>by rw[hdC]at z;cases z⟩)
   refine oo (zCl IXp hN hj hy (v:=.ref D) rfl (fun s5 I5=>?_) hfn)
   have pC:=(I5.pin (G.objs.size,oC) (aX _ (aX _ (gU (az ..) hoC)))).1
   refine⟨m4,⟨oC,es,epC,pC,hdC,hsk,hnf⟩,fun h' hsb'=>?_⟩
   obtain⟨c0,c1,c2,c3,c4,c5⟩:=fpC
   exact⟨_,_,I5.unpinned.turned (t':=s5.toks) (fun b o hb e=>hsb'.extBut b o hb e) c0 c1 c3 c4 c5,q D hDn⟩
  ·refine cy (T.item (vF X N scope cl G.objs.size s2 H2 fp) rfl rfl rfl hc i _ s3 σ3 H3 (fun _ _=>False) I3 (stat fr3 one) st3 go) (fun r s4 ⟨u,hr,h4⟩=>?_) fun _ _ f=>f
   subst hr
   refine zI h4 fun _ s5 ⟨x,H5,I5,r5,y5,st5,fr5⟩=>?_
   have I5':=I5.pinned (stat fr5 one) (T.obj _ _ st5)
   refine zI (hg cl G.objs.size s2 H2 fp _ s5 σ3 H5 x u _ I5' r5 (step x H5 y5)) fun _ s6 ⟨σ6,H6,I6,q6⟩=>?_
   refine zI (hf cl G.objs.size s2 H2 fp _ s6 σ6 H6 _ I6 q6) fun b s7 ⟨H7,I7,q7⟩=>?_
   have fin:∀{pl:List (ak×Obj)} {σ':St} {H':Hp} {s':ao},Inv (vF X N scope cl G.objs.size s2 H2 fp) (pl++zAV fp s5.heap) σ' H' s'->tn (i+1) s'.heap/\∀b∈fp,H' b=none:=fun{pl σ' H' s'} I'=>by
    refine⟨T.keep _ _ _ st5 fun b hb o e=>(I'.pin (b,o) (aX _ (aX _ (gU hb e)))).1,fun b hb=>?_⟩
    obtain⟨o,e,_⟩:=T.obj _ _ st5 b hb
    exact(I'.pin (b,o) (aX _ (aX _ (gU hb e)))).2.1
   cases b with
   |false=>
    rw[if_neg aV]at q7⊢
    obtain⟨m',hm,w7⟩:=q7
    obtain⟨a1,a2⟩:=fin I7
    exact⟨m',hm,i+1,σ6,H7,acc,its,ep,I7.unpinned,rv,hz,a1,a2,w7⟩
   |true=>
    rw[if_pos rfl]at q7⊢
    refine zI (he cl G.objs.size s2 H2 fp _ s7 σ6 H7 _ I7 q7) fun y s8 ⟨yv,H8,I8,r8,m',hm,w8⟩=>?_
    obtain⟨a1,a2⟩:=fin I8
    obtain⟨b1,b2⟩:=pinD I8 (cb _ (az ..))
    have hl:=rv.length
    refine iW ki ⟨_,b1,rfl⟩ jr (jc _ _) (lz D its.toArray ep y (by rw[aH];omega)) ⟨b1,?_⟩
    have q9:=lR b1 (·.push y)
    have kp:∀b o,b≠D->s8.heap.get? b=some o->(s8.heap.update D (bN (·.push y))).get? b=some o:=fun b o hb e=>(bA s8.heap (bN (·.push y)) (d5 hb)).trans e
    have I9:Inv (vF X N scope cl G.objs.size s2 H2 fp) [] σ6 H8 {s8 with heap:=s8.heap.update D (bN (·.push y))} :=
     (I8.pins_of (pins':=[]) fun p hp=>by cases hp).turned (t':=s8.toks) kp b2 hDC (.inr (by rw[<-hDa];exact ay _)) (fun x c e z=>by
      have e':X.env.cells.lookup x=some c:=hcl1 x c e
      obtain⟨v',hv'⟩:=I2.cell x c e'
      have h0:=hv'.lt
      rw[z,<-hDa]at h0
      exact bH _ h0) fun p hp=>by
       have:p∈([]:List (ak×Obj)):=hp
       cases this
    have hpu:its.toArray.push y=(its++[y]).toArray:=by simp
    rw[hpu]at q9
    obtain⟨e9,q9⟩:∃e9,(s8.heap.update D (bN (·.push y))).get? D=some {cls:=.type "list",data:=.seq (its++[y]).toArray e9}:=⟨_,q9⟩
    refine⟨m',hm,i+1,σ6,H8,acc++[yv],its++[y],e9,I9.pins_of fun p hp=>?_,rv.append (.cons r8 .nil),?_,T.keep _ _ _ a1 fun b hb o e=>kp b o ?_ e,a2,w8⟩
    ·obtain rfl:p=(D,{cls:=.type "list",data:=.seq (its++[y]).toArray e9}):=by
      rcases aG.mp hp with e|e
      ·exact e
      ·cases e
     obtain⟨_,_,c3,c4,_⟩:=I8.pin (D,_) (aX _ (cb _ (az ..)))
     exact⟨q9,b2,c3,c4,fun v z=>by cases z⟩
    ·rw[au,br];omega
    ·rintro rfl
     have h0:=hfo b hb
     rw[hDa]at h0
     exact bH _ h0
 exact mB loop (T.self X.A 0 _ _ _ st1 loop)
end
end L2
end
section
namespace Kn.Ln
open PySem L2 Kn
theorem zQb (n:Nat):(0:Int)<2^n:=gn (by decide)
theorem zQc {a b:Nat}(h:a<=b):(2:Int)^a<=2^b:=by
 have c:2^a<=2^b:=ny (by decide) h
 have d:((2^a:Nat):Int)=(2:Int)^a:=by simp
 have e:((2^b:Nat):Int)=(2:Int)^b:=by simp
 rw[<-d,<-e];exact sT.mpr c
theorem zQd {U:Int}{n:Nat}(a:0<U)(h:U<=2^n):U^9<=2^(n*9):=by
 have go:∀k:Nat,U^k<=2^(n*k):=by
  intro k
  induction k with
  |zero=>simp
  |succ k ih=>
   rw[oS,oU,tK]
   exact qu ih h (cZ a) (cZ (zQb _))
 exact go 9
section
variable{P:aJ}{w:aY}{K:ag}{mg:Str->Option aj}{base:bE}
def zEp:Sp:=fun vs H Q _=>∃u d:Int,vs=[.int u,.int d]/\0<=u/\0<d/\Q (.int (yD u d)) H
def zEq:Sp:=fun vs H Q _=>∃u d:Int,vs=[.int u,.int d]/\0<=u/\0<d/\d<2^8000/\∀p,H p=none->Q (.ref p) (upd H p (frO (low u d)))
theorem zQe {vs:List V}{H:Hp}{Q:VK}{E:XK}(h:zDh vs H Q E):zEp vs H Q E:=by
 obtain⟨u,d,rfl,a,b,c,k⟩:=h
 exact⟨u,d,rfl,a,b,k⟩
theorem zQf {vs:List V}{H:Hp}{Q:VK}{E:XK}(h:zDj vs H Q E):zEq vs H Q E:=by
 obtain⟨u,d,rfl,c,e,f,k⟩:=h
 refine⟨u,d,rfl,c,e,?_,k⟩
 have g:=zQc (a:=30) (b:=8000) (by decide)
 have i:(2:Int)^30=1073741824:=by decide
 omega
theorem zQg {f:ak}{fd:bg}(F:Fun K "greatest_divisor" "greatest_divisor" zDi f fd):FnOk P w K mg base z7 1 f fd ["one","other"] zEp:=by
 refine F.ok zHA (fun vs H Q E h=>?_) (fun t A outer s H vs Q E B h=>?_)
 ·obtain⟨a,b,rfl,_⟩:=h;rfl
 ·obtain⟨u,d,rfl,l,n,k⟩:=h
  have nd:=zHA.nd
  refine⟨_,zQ (zKD bM (vY zAX (pv 1) zO (vD _))
    (zQ (yH (i:=2) nd rfl (Or.inl rfl) (zS gW (pv 0) (pv 1))) (zQ (yH (i:=0) nd rfl (Or.inl rfl) (pv 1)) (zK (yH (i:=1) nd rfl (Or.inl rfl) (pv 2))))))
   (zK (z6 (pv 0))),?_⟩
  refine⟨fun m σ j=>j=H/\∃(a b:Int) (r:Option V),σ=[some (.int a),some (.int b),r]/\m=b.toNat/\0<=a/\0<=b/\i9 a b=i9 u d,⟨_,rfl,u,d,none,rfl,rfl,l,cZ n,rfl⟩,?_⟩
  rintro m σ j ⟨rfl,a,b,r,rfl,rfl,ha,hb,p⟩
  refine⟨_,rfl,rfl,_,rfl,?_⟩
  by_cases hz:b=0
  ·subst hz
   refine kU rfl ⟨_,rfl,?_⟩
   have e:a=yD u d:=by
    unfold yD
    rw[<-p]
    obtain⟨x,rfl⟩:=cp ha
    simp
   show Q (.int a) j
   rw[e]
   exact k
  ·have c:0<b:=by omega
   have o:¬(V.int b=V.int 0):=fun z=>hz (V.int.inj z)
   have v:(!decide (V.int b=V.int 0))=true:=by rw[decide_eq_false o];rfl
   show if(!decide (V.int b=V.int 0))=true then _ else _
   rw[if_pos v]
   refine⟨fun q g=>g=j/\q=[some (.int b),some (.int (a%b)),some (.int (a%b))],?_,?_⟩
   ·rintro q g ⟨rfl,rfl⟩
    have y:=mM a hz
    have C:=ku a c
    exact⟨(a%b).toNat,by omega,rfl,b,a%b,_,rfl,rfl,hb,y,by rw[zNI ha c];exact p⟩
   ·exact⟨_,rfl,_,rfl,_,_,rfl,rfl,c,_,rfl,_,rfl,rfl,rfl⟩
theorem zQh {f:ak}{fd:bg}(F:Fun K "lowest" "lowest" zDk f fd)(g:zV P w K mg base 1 "greatest_divisor" ["one","other"] zEp):FnOk P w K mg base z7 2 f fd ["up","down"] zEq:=by
 refine F.ok zHB (fun vs H Q E h=>?_) (fun j A outer s H vs Q E l h=>?_)
 ·obtain⟨a,b,rfl,_⟩:=h;rfl
 ·obtain⟨u,d,rfl,e,c,m,k⟩:=h
  have nd:=zHB.nd
  refine⟨_,zQ (yH (i:=2) nd rfl (Or.inl rfl) (zT g l rfl (zC (pv 0) (zC (pv 1) zD))))
   (zK (z6 (v9 (zC (zS zIq (pv 0) (pv 2)) (zC (zS zIq (pv 1) (pv 2)) zD))))),?_⟩
  have g1:=zBK (u:=u) c
  have g2:yD u d<=d:=se c (fh ..)
  refine⟨_,rfl,_,rfl,u,d,rfl,e,c,?_⟩
  exact⟨_,rfl,_,rfl,_,_,rfl,rfl,⟨g1,by omega⟩,_,rfl,_,rfl,_,_,rfl,rfl,⟨g1,by omega⟩,by show 2<=sizeLine;decide,k⟩
def zIs:Sp:=fun vs H Q _=>∃o a b:Nat,vs=[.int o,.int a,.int b]/\a<=o/\o<=b/\Q .non H
abbrev zEr:c8:=top 19
theorem zQi:FnScope ["thing","least","most"] ["thing","least","most"] (defScope zEr):=yE
theorem zQj {f:ak}{fd:bg}(F:Fun K "need_whole" "need_whole" zEr f fd)(c:zV P w K mg base 1 "is_whole" ["thing","least","most"] zDT):FnOk P w K mg base z7 2 f fd ["thing","least","most"] zIs:=by
 refine F.ok zQi (fun vs H Q E h=>?_) (fun d A outer s H vs Q E e h=>?_)
 ·obtain⟨o,a,b,rfl,_⟩:=h;rfl
 ·obtain⟨o,a,b,rfl,g,i,k⟩:=h
  refine⟨_,zK (yV (v1 (vX (zT c e rfl (zC (pv 0) (zC (pv 1) (zC (pv 2) zD)))))) (zK zAw) yU),?_⟩
  exact⟨_,rfl,_,rfl,_,rfl,o,a,b,rfl,g,i,true,rfl,yO k⟩
end
structure Unit9 (ps:List (S×S)) (U:Int):Prop where
 pos:0<U
 dvd:∀e l,(zN ps e l).2∣U
 le:U<=2^60
theorem zQk {ps:List (S×S)}(a:1<=ps.length)(b:ps.length<900):Smf (zN ps):=fun e l=>by
 have f:=zAi ps e l
 have d:=zMm (ps:=ps) e l a
 refine⟨f.up,?_,f.dn,by omega⟩
 have c:(zN ps e l).1<=(zN ps e l).2:=by
  unfold zN
  split
  ·decide
  ·have g:=zAh ps e l
   exact zMl (by omega) (by omega) (by omega)
 omega
theorem zQl {a b:Nat}(h:a<b):(2:Int)^a<2^b:=by
 have c:2^a<2^b:=Nat.pow_lt_pow_right (by decide) h
 have d:((2^a:Nat):Int)=(2:Int)^a:=by simp
 have e:((2^b:Nat):Int)=(2:Int)^b:=by simp
 rw[<-d,<-e];exact Int.ofNat_lt.mpr c
def jK (ps:List (S×S))(o:Nat)(pat:List S):List S:=(Tx (zU ps) o pat).filter fun t=>decide ((zW t o,[])∈ps)
def zBT (ps:List (S×S))(o:Nat)(x:S):Prop:=∀q∈vP o x,q∈ps
theorem zAr {ps:List (S×S)}(d:zAH ps){o:Nat}{pat:List S}{x:S}:x∈jK ps o pat↔yF pat x=true/\zBT ps o x:=by
 unfold jK zBT
 rw[aL,zCI (lts ps) d,zBO]
 constructor
 ·rintro⟨⟨b,a⟩,e⟩
  refine⟨b,fun q c=>?_⟩
  rcases bw.mp c with z|z
  ·exact a q z
  ·rw[aS.mp z];exact of_decide_eq_true e
 ·rintro⟨b,a⟩
  exact⟨⟨b,fun q c=>a q (cb _ c)⟩,decide_eq_true (a _ (aX _ (by simp)))⟩
theorem zQm {ps:List (S×S)}(a:zAH ps)(o:Nat)(pat:List S):(jK ps o pat).Nodup:=(zIC (lts ps) a o pat).filter _
def gP (ps:List (S×S))(o lo hi:Nat)(hd tl:S):List S:=(yJ lo hi hd tl).flatMap (jK ps o)
theorem zIt {ps:List (S×S)}(d:zAH ps){o lo hi:Nat}{hd tl x:S}:x∈gP ps o lo hi hd tl↔zAQ lo hi hd tl x/\zBT ps o x:=by
 unfold gP
 rw[bf,<-zQS]
 constructor
 ·rintro⟨p,a,e⟩
  obtain⟨b,c⟩:=(zAr d).mp e
  exact⟨⟨p,a,b⟩,c⟩
 ·rintro⟨⟨p,a,b⟩,c⟩
  exact⟨p,a,(zAr d).mpr ⟨b,c⟩⟩
theorem zQn {ps:List (S×S)}(a:zAH ps)(o lo hi:Nat)(hd tl:S):(gP ps o lo hi hd tl).Nodup:=by
 unfold gP
 rw[de,dS]
 refine⟨fun p _=>zQm a o p,(zCZ lo hi hd tl).imp fun{p q} b x c y d e=>?_⟩
 have f:=jG ((zAr a).mp c).1
 have g:=jG ((zAr a).mp d).1
 rw[e]at f
 exact b (by omega)
end Kn.Ln
end
section
namespace Kn
open PySem L2
theorem zBU:∀l:List S,qV l=true↔l.Pairwise (· < ·)
 | []=>by simp[qV]
 | [x]=>by simp[qV]
 |x::y::l=>by
  have ih:=zBU (y::l)
  have e:qV (x::y::l)=(decide (x<y)&&qV (y::l)):=by simp[qV]
  rw[e,aO,decide_eq_true_eq,ih]
  constructor
  ·rintro⟨a,b⟩
   refine cI.mpr ⟨fun z hz=>?_,b⟩
   rcases aG.mp hz with rfl|hz
   ·exact a
   ·exact nT a ((cI.mp b).1 z hz)
  ·intro h
   exact⟨(cI.mp h).1 y (az ..),(cI.mp h).2⟩
def jV:List S:=[[97],[97,97],[97,98],[98],[98,97],[122]]
def kJ:List S:=[[],[],[97],[98],[97,98],[97,98,97],[122]]
theorem zQo:[V.str "a",V.str "aa",V.str "ab",V.str "b",V.str "ba",V.str "z"]=zF jV:=by
 have e1:("a" : Str)=tx [97]:=by decide+kernel
 have c:("aa" : Str)=tx [97,97]:=by decide+kernel
 have d:("ab" : Str)=tx [97,98]:=by decide+kernel
 have e:("b" : Str)=tx [98]:=by decide+kernel
 have f:("ba" : Str)=tx [98,97]:=by decide+kernel
 have g:("z" : Str)=tx [122]:=by decide+kernel
 rw[e1,c,d,e,f,g];rfl
theorem zQp:[V.str "",V.str "",V.str "a",V.str "b",V.str "ab",V.str "aba",V.str "z"]=zF kJ:=by
 have c:("" : Str)=tx []:=by decide+kernel
 have e1:("a" : Str)=tx [97]:=by decide+kernel
 have d:("ab" : Str)=tx [97,98]:=by decide+kernel
 have e:("b" : Str)=tx [98]:=by decide+kernel
 have f:("aba" : Str)=tx [97,98,97]:=by decide+kernel
 have g:("z" : Str)=tx [122]:=by decide+kernel
 rw[c,e1,d,e,f,g];rfl
theorem zIu:jV.Pairwise (· < ·)/\∀x∈jV,vI x:=by
 refine⟨(zBU _).mp (by decide),fun x a=>?_⟩
 unfold jV at a
 simp only[aG,dE,or_false]at a
 rcases a with rfl|rfl|rfl|rfl|rfl|rfl<;>(refine⟨by decide,by decide,?_⟩;decide)
theorem zQq:∀x∈kJ,x=[]\/(vI x/\x.length<=3):=fun x a=>by
 unfold kJ at a
 simp only[aG,dE,or_false]at a
 rcases a with rfl|rfl|rfl|rfl|rfl|rfl|rfl
 ·exact .inl rfl
 ·exact .inl rfl
 all_goals (refine .inr ⟨⟨by decide,by decide,?_⟩,by decide⟩;decide)
theorem zQr {l:List S}(h:l.Sublist jV):l.length<=6/\(∀x∈l,vI x)/\qV l=true :=
 ⟨h.length_le,fun x a=>zIu.2 x (h.subset a),(zBU _).mpr (zIu.1.sublist h)⟩
section
variable{P:aJ}{w:aY}{K:ag}{mg:Str->Option aj}{base:bE}
def zIv (K:ag):Sp:=fun vs H Q _=>∃(a:ak) (ns:List Int) (at':Nat),vs=[.ref a,.int at']/\zZ K H a (ns.map V.int)/\ns.length<=63/\
 ∀(p:ak) (lo hi:Int) (hd tl:S) (ba:List S) (to:Bool) (H':Hp),zA H H'->GW lo hi hd tl ba->(lo<=3/\hi<=4/\hd∈kJ/\tl∈kJ/\ba.Sublist jV)->vT H' p lo hi hd tl ba to->Q (.ref p) H'
abbrev sLW:c8:=top 69
theorem zIw:FnScope ["_law_script","_law_at","_law_least","_law_most","_law_ends","_law_barred","_law_k","_law_name_here","_law_head"] ["_law_script","_law_at"] (defScope sLW):=yE
theorem zQs {f:ak}{fd:bg}(F:Fun K "_law_wish" "_law_wish" sLW f fd)(B:Blt mg)(ap:mg "enumerate"=none)(N:zV P w K mg base 2 "_law_drawn" ["_law_script","_law_k","_law_many"] (zBw K)):FnOk P w K mg base z7 3 f fd ["_law_script","_law_at"] (zIv K):=by
 refine F.ok zIw (fun vs H Q E h=>?_) (fun bb A outer s H vs Q E O h=>?_)
 ·obtain⟨a,ns,c,rfl,_⟩:=h;rfl
 ·obtain⟨a,ns,c,rfl,l,m,k⟩:=h
  have nd:=zIw.nd
  refine⟨_,zQ (yH (i:=2) nd rfl (Or.inl rfl) (zS yY zO (zT N O rfl (zC (pv 0) (zC (pv 1) (zC zO zD))))))
   (zQ (yH (i:=3) nd rfl (Or.inl rfl) (zS yY (pv 2) (zT N O rfl (zC (pv 0) (zC (zS yY (pv 1) zO) (zC (zS zCq zO (pv 2)) zD))))))
   (zQ (yH (i:=4) nd rfl (Or.inl rfl) (uG (zC y9 (zC y9 (zC y9 (zC y9 (zC y9 (zC y9 (zC y9 zD)))))))))
   (zQ (yH (i:=5) nd rfl (Or.inl rfl) (uG zD))
   (zQ (uE bM rfl (zGc rfl ap (zC (uG (zC y9 (zC y9 (zC y9 (zC y9 (zC y9 (zC y9 zD))))))) zD)) (kO rfl (yW (z8 (i:=6) nd rfl (Or.inl rfl)) (yW (z8 (i:=7) nd rfl (Or.inl rfl)) uS)))
    (zK (yV (vY zAz (zT N O rfl (zC (pv 0) (zC (zS yY (zS yY (pv 1) zO) (pv 6)) (zC zO zD)))) zO (vD _))
     (zK (q8 (jM ee PySem.F.slot_list_append PySem.F.type_list_append zLC (pv 5) (zC (pv 7) zD)))) yU)))
   (zQ (yH (i:=8) nd rfl (Or.inl rfl) (yM zBE (pv 4) (zT N O rfl (zC (pv 0) (zC (zS yY (pv 1) zO) (zC zO zD)))) (fun _ _=>rfl)))
   (zK (z6 (v9 (zC (pv 2) (zC (pv 3) (zC (pv 8) (zC (yM zBE (pv 4) (zT N O rfl (zC (pv 0) (zC (zS yY (pv 1) zO) (zC zO zD)))) (fun _ _=>rfl))
    (zC (gY zFh (by rfl) B.tuple ef (zC (pv 5) zD)) (zC (qO zAz (zT N O rfl (zC (pv 0) (zC (zS yY (pv 1) zO) (zC zO zD)))) zO (vD _)) zD)))))))))))))),?_⟩
  refine⟨_,rfl,_,rfl,a,ns,c,3,rfl,l,m,by decide,by decide,fun t H1 bd s1=>?_⟩
  refine⟨_,_,rfl,rfl,_,rfl,_,rfl,_,rfl,_,_,rfl,rfl,_,rfl,_,_,rfl,rfl,a,ns,c+1,4-t,?_,s1.seq l,m,by omega,by omega,fun d1 H2 be as=>?_⟩
  ·have e1:((c+1:Nat):Int)=(c:Int)+1:=by omega
   have e2:((4-t:Nat):Int)=5- (1+(t:Int)):=by omega
   rw[e1,e2];rfl
  have s2:=s1.trans as
  refine⟨_,_,rfl,rfl,?_⟩
  refine⟨by show 7<=sizeLine;decide,fun R ax=>?_⟩
  have u:(upd H2 R (.lst [V.str "",V.str "",V.str "a",V.str "b",V.str "ab",V.str "aba",V.str "z"])) R=some (.lst (zF kJ)):=by rw[zE,zQp]
  have s3:=s2.trans (zA.upd1 (o:=.lst [V.str "",V.str "",V.str "a",V.str "b",V.str "ab",V.str "aba",V.str "z"]) ax)
  generalize upd H2 R (.lst [V.str "",V.str "",V.str "a",V.str "b",V.str "ab",V.str "aba",V.str "z"])=HA at s3 u⊢
  refine⟨by show 0<=sizeLine;decide,fun g hg=>?_⟩
  refine⟨by show 6<=sizeLine;decide,fun en j=>⟨en,_,rfl,zE,?_⟩⟩
  have neg:en≠g:=fun z=>by subst z;rw[zE]at j;cases j
  refine zGd (K:=K) (xs:=[V.str "a",V.str "aa",V.str "ab",V.str "b",V.str "ba",V.str "z"]) (fun i σ v=>∃(y z:Option V) (r:List S),σ=[some (.ref a),some (.int (c:Int)),some (.int (1+(t:Int))),some (.int (1+(t:Int)+(d1:Int))),some (.ref R),some (.ref g),y,z,none]/\zA HA v/\v g=some (.lst (zF r))/\
    v en=some (.lst [V.str "a",V.str "aa",V.str "ab",V.str "b",V.str "ba",V.str "z"])/\r.Sublist (jV.take i))
   ⟨_,_,[],rfl,(zA.upd1 hg).trans (zA.upd1 j),(zA.upd1 j) _ _ zE,zE,List.nil_sublist _⟩ (fun i σ v _ h=>by obtain⟨_,_,_,_,_,_,h,_⟩:=h;exact .of h) ?_ ?_
  ·rintro i x T σ v Nx hN U ⟨y,z,r,rfl,sm,G,C,e⟩ hT
   have t1:zA v (upd v T (.tup [.int i,x])):=zA.upd1 hT
   refine⟨T,_,rfl,.of zE,rfl,_,_,rfl,_,_,rfl,rfl,?_⟩
   have W:=sm.trans t1
   have aK:=t1 _ _ G
   have aN:=t1 _ _ C
   rw[zQo]at U
   obtain⟨nm,X,rfl⟩:=zAO U
   have hi:i<jV.length:=(ai.mp X).1
   have bi:i<6:=hi
   have Y:jV.take (i+1)=jV.take i++[nm]:=by rw[aB hi,(ai.mp X).2]
   refine⟨_,rfl,_,rfl,_,_,rfl,rfl,_,rfl,_,_,rfl,rfl,a,ns,c+4+i,3,?_,(s3.trans W).seq l,m,by decide,by decide,fun d H3 hd I=>?_⟩
   ·have e1:((c+4+i:Nat):Int)=(c:Int)+4+(i:Int):=by omega
    rw[e1];rfl
   have Z:=W.trans I
   have J:=I _ _ aK
   have ac:=I _ _ aN
   refine⟨rfl,_,rfl,?_⟩
   by_cases hz:(d:Int)=0
   ·have e0:decide (V.int (d:Int)=V.int 0)=true:=decide_eq_true (by rw[hz])
    rw[e0]
    refine yK ?_
    have bm:r.length<=6:=bR e.length_le (by rw[aI];omega)
    refine⟨_,rfl,.inl ⟨rfl,_,.of J⟩,_,rfl,g,_,_,rfl,rfl,J,by unfold zF;rw[ah,aF];omega,hN _ _ ⟨_,_,r++[nm],rfl,Z.upd_new hg,by rw[zE];unfold zF;rw[aQ];rfl,by rw[zG neg];exact ac,?_⟩⟩
    rw[Y]
    exact e.append (ue _)
   ·have e0:decide (V.int (d:Int)=V.int 0)=false:=decide_eq_false (fun q=>hz (by injection q))
    rw[e0]
    refine yO (hN _ _ ⟨_,_,r,rfl,Z,J,ac,?_⟩)
    rw[Y]
    exact e.trans (List.sublist_append_left _ _)
  ·rintro σ v ⟨y,z,r,rfl,sm,G,C,e⟩
   have n:r.Sublist jV:=e
   obtain⟨b1,b2,b3⟩:=zQr n
   have sH:=s3.trans sm
   refine⟨_,rfl,_,rfl,_,rfl,_,_,rfl,rfl,a,ns,c+2,7,?_,sH.seq l,m,by decide,by decide,fun d2 H4 a0 I=>?_⟩
   ·have e1:((c+2:Nat):Int)=(c:Int)+2:=by omega
    rw[e1];rfl
   have al:=sH.trans I
   have D:=I _ _ (sm _ _ u)
   have a1:=I _ _ G
   have am:∀{d:Nat},d<7->∃x,kJ[d]?=some x/\(zF kJ)[d]?=some (sv x)/\(x=[]\/(vI x/\x.length<=3)):=fun{d} hd=>by
    have L:d<kJ.length:=hd
    refine⟨kJ[d],aq L,?_,zQq _ (c9 L)⟩
    unfold zF
    rw[aw,aq L];rfl
   obtain⟨U,hx1,hx2,a2⟩:=am a0
   refine⟨R,_,(d2:Int),sv U,rfl,rfl,.of D,zAZ hx2,?_⟩
   refine⟨_,rfl,_,rfl,_,rfl,_,rfl,_,rfl,_,rfl,_,_,rfl,rfl,a,ns,c+3,7,?_,al.seq l,m,by decide,by decide,fun d3 H5 a3 s5=>?_⟩
   ·have e1:((c+3:Nat):Int)=(c:Int)+3:=by omega
    rw[e1];rfl
   obtain⟨M,a4,a5,a6⟩:=am a3
   have a7:=al.trans s5
   have a8:=s5 _ _ a1
   refine⟨R,_,(d3:Int),sv M,rfl,rfl,.of (s5 _ _ D),zAZ a5,?_⟩
   refine⟨_,rfl,g,_,rfl,.inl ⟨.of a8,fun pt a9=>?_⟩⟩
   have t6:=zA.upd1 (o:=.tup (zF r)) a9
   have an:=a7.trans t6
   refine⟨_,rfl,_,rfl,_,_,rfl,rfl,a,ns,c+10,2,?_,an.seq l,m,by decide,by decide,fun d4 H7 bn s7=>?_⟩
   ·have e1:((c+10:Nat):Int)=(c:Int)+10:=by omega
    rw[e1];rfl
   refine⟨rfl,by show 6<=sizeLine;decide,fun p hp=>?_⟩
   have t8:=zA.upd1 (o:=.tup [.int (1+(t:Int)),.int (1+(t:Int)+(d1:Int)),sv U,sv M,.ref pt,.bl (decide (V.int (d4:Int)=V.int 0))]) hp
   refine k p (1+(t:Int)) (1+(t:Int)+(d1:Int)) U M r (decide (V.int (d4:Int)=V.int 0)) _ ((an.trans s7).trans t8) ⟨by omega,by omega,by omega,a2,a6,b1,b2,b3⟩ ⟨by omega,by omega,aZ hx1,aZ a4,n⟩ ⟨pt,zE,t8 _ _ (s7 _ _ zE)⟩
end
def zEs (f:bJ->Option bG):List bJ->Option (List bG)
 | []=>some []
 |e::es=>(f e).bind fun d=>(zEs f es).map fun ds=>d::ds
def lit:Nat->bJ->Option bG
 |0,_=>none
 |n+1,e=>match e with
  | .Constant (.int i) _ _=>some (.int i)
  | .Constant (.bool b) _ _=>some (.bool b)
  | .Constant .none _ _=>some .none
  | .Constant (.str x) _ _=>some (.str x)
  | .Tuple es _ _=>if es.length<=900 then(zEs (lit n) es).map .tuple else none
  | .List es _=>if es.length<=900 then(zEs (lit n) es).map .list else none
  |_=>none
def zIx:bJ->Bool
 | .Starred ..=>false
 |_=>true
theorem zQt {e:bJ}{a:List bJ}(h:zIx e=true)(env):starEach (e::a) env=(false,eval e env)::starEach a env:=by
 cases e<;>first|rfl|(cases h)
section
variable{X:Cx}{e:bJ}{es:List bJ}{te:TE}{t:TA}{pos:Pos}
theorem z5 (ha:PE X e te)(a:PA X es t)(b:zIx e=true:=by rfl):PA X (e::es) (zBC te t):=zC ha a (zQt b _)
end
def v7 (n:Nat)(d:bG):Prop:=sml d=true/\d.canLay0=true/\d.depth<=n
theorem v7.sh {n:Nat}{d:bG}(h:v7 n d)(a:n<=64):dA d=true:=by
 unfold dA
 rw[h.2.1,decide_eq_true (show d.depth<=64 by have:=h.2.2;omega)];rfl
theorem v7.mono {n m:Nat}{d:bG}(h:v7 n d)(a:n<=m):v7 m d:=⟨h.1,h.2.1,bR h.2.2 a⟩
theorem zIy {a:List bG}{n:Nat}(h:∀d∈a,v7 n d):smls a=true/\cC a=true/\e8 a<=n:=by
 induction a with
 |nil=>exact⟨rfl,rfl,bp _⟩
 |cons d a ih=>
  obtain⟨b,c,j⟩:=h d (az ..)
  obtain⟨f,g,l⟩:=ih fun e i=>h e (aC _ i)
  refine⟨by simp only[smls,b,f,eG],by simp only[cC,c,g,eG],?_⟩
  simp only[e8];omega
theorem vO {e:List bG}{n:Nat}(h:∀d∈e,v7 n d)(hl:e.length<=900):v7 (n+1) (.tuple e):=by
 obtain⟨a,b,c⟩:=zIy h
 refine⟨by simp only[sml,a,sq];exact decide_eq_true hl,by simp only[d7];exact b,?_⟩
 simp only[eD];omega
theorem okL {e:List bG}{n:Nat}(h:∀d∈e,v7 n d)(hl:e.length<=900):v7 (n+1) (.list e):=by
 obtain⟨a,b,c⟩:=zIy h
 refine⟨by simp only[sml,a,sq];exact decide_eq_true hl,by simp only[d7];exact b,?_⟩
 simp only[eD];omega
theorem zCc {x:S}(h:∀c∈x,c<=122)(hl:x.length<=900):v7 5 (.str (tx x)):=by
 refine⟨?_,by simp only[d7];exact zNS h,by simp only[eD];decide⟩
 simp only[sml,z9,vW,aO,decide_eq_true_eq,da]
 exact⟨hl,fun c a=>by have:=h c a;omega⟩
theorem zCd {x:S}(h:vI x):v7 5 (.str (tx x)):=zCc (fun c a=>(h.2.2 c a).2) (by have:=h.2.1;omega)
theorem zIz {x:S}(h:x=[]\/(vI x/\x.length<=3)):v7 5 (.str (tx x)):=by
 rcases h with rfl|h
 ·exact zCc (by simp) (by simp)
 ·exact zCd h.1
def zBV (lo hi:Int)(hd tl:S)(ba:List S)(to:Bool):List bG:=[.int lo,.int hi,.str (tx hd),.str (tx tl),.tuple (ba.map fun x=>PyData.str (tx x)),.bool to]
theorem zQu {lo hi:Int}{hd tl:S}{a:List S}{to:Bool}(g:GW lo hi hd tl a):∀d∈zBV lo hi hd tl a to,v7 6 d:=fun d h=>by
 unfold zBV at h
 simp only[aG,dE,or_false]at h
 rcases h with rfl|rfl|rfl|rfl|rfl|rfl
 ·exact⟨rfl,rfl,by simp only[eD];decide⟩
 ·exact⟨rfl,rfl,by simp only[eD];decide⟩
 ·exact(zIz g.ghd).mono (by decide)
 ·exact(zIz g.gtl).mono (by decide)
 ·refine vO (n:=5) (fun d hd=>?_) (by rw[ah];have:=g.len;omega)
  obtain⟨x,b,rfl⟩:=av.mp hd
  exact zCd (g.nm x b)
 ·exact⟨rfl,rfl,by simp only[eD];decide⟩
theorem zQv {H:Hp}{a:ak}{lo hi:Int}{hd tl:S}{c:List S}{to:Bool}(h:vT H a lo hi hd tl c to):∃xs,H a=some (.tup xs)/\Thgs H (zBV lo hi hd tl c to) xs/\xs.length=6:=by
 obtain⟨b,d,e⟩:=h
 refine⟨_,d,⟨_,_,rfl,rfl,_,_,rfl,rfl,_,_,rfl,rfl,_,_,rfl,rfl,_,_,rfl,⟨b,_,rfl,e,Thgs.strs c⟩,_,_,rfl,rfl,rfl⟩,rfl⟩
theorem zQw {lo hi:Int}{hd tl:S}{a:List S}{to:Bool}(g:GW lo hi hd tl a):v6 (.tuple (zBV lo hi hd tl a to))=true:=by
 have c:uD 1 8 (.int lo)=true:=by
  have:=g.glo;have:=g.gle;have:=g.ghi
  simp only[uD,aO,decide_eq_true_eq];omega
 have e1:uD lo 8 (.int hi)=true:=by
  have:=g.gle;have:=g.ghi
  simp only[uD,aO,decide_eq_true_eq];omega
 have b:∀x:S,(x=[]\/(vI x/\x.length<=3))->qW (.str (tx x))=true:=fun x h=>by
  rcases h with rfl|⟨h,d⟩
  ·rfl
  ·simp only[qW,zCQ h,z9,decide_eq_true d,eG,Bool.or_true]
 have e:jI (.tuple (a.map fun x=>PyData.str (tx x)))=true:=by
  have f:(a.map fun x=>PyData.str (tx x)).map zEZ=a:=by
   rw[aU]
   conv=>rhs;rw[<-pJ a]
   refine dM fun x _=>?_
   show(tx x).cps.toList=x
   rw[vW]
  have i:(a.map fun x=>PyData.str (tx x)).all vL=true:=by
   rw[fU,da]
   exact fun x j=>zCQ (g.nm x j)
  simp only[jI,f,i,g.ris,ah,decide_eq_true g.len,eG]
 simp only[v6,zBV,zCV,c,e1,b _ g.ghd,b _ g.gtl,e,zCU,eG]
end Kn
end
section
namespace Kn.Ln
open PySem L2 Kn
theorem zJA (x y:S)(i:Nat):o4 (tx x) (tx y) i=decide ((x.drop i).take y.length=y):=by
 unfold o4
 have e:(tx x).cps.extract i (i+(tx y).length)=((x.drop i).take y.length).toArray:=by
  apply iT.mp
  rw[Array.toList_extract,vW,z9,List.extract_eq_take_drop]
  simp
 rw[e]
 have a:(tx y).cps=y.toArray:=by
  apply iT.mp
  rw[vW]
 rw[a,dN,beq_iff_eq,decide_eq_true_eq]
 exact⟨fun h=>by simpa using congrArg om h,fun h=>by rw[h]⟩
theorem zJB (x h:S):iN (tx x) (tx h)=decide (x.take h.length=h):=by
 unfold iN
 rw[zJA,z9,z9,eO,dN,aO]
 simp only[decide_eq_true_eq]
 constructor
 ·exact fun q=>q.2
 ·intro q
  refine⟨?_,q⟩
  have:=congrArg eE q
  rw[aI]at this
  omega
theorem zQx (x t:S):ju (tx x) (tx t)=decide (zW x t.length=t):=by
 unfold ju zW
 rw[zJA,z9,z9,dN,aO]
 simp only[decide_eq_true_eq]
 constructor
 ·rintro⟨b,a⟩
  rw[dJ (by rw[bQ];omega)]at a
  exact a
 ·intro q
  have:=congrArg eE q
  rw[bQ]at this
  refine⟨by omega,?_⟩
  rw[dJ (by rw[bQ];omega)]
  exact q
theorem zQy {lo hi:Nat}{hd tl x:S}:qX (lo:Int) (hi:Int) hd tl x=true↔zAQ lo hi hd tl x:=by
 unfold qX zAQ
 rw[zJB,zQx]
 simp only[aO,decide_eq_true_eq]
 constructor
 ·rintro⟨⟨c,d⟩,a,b⟩;exact⟨by omega,by omega,a,b⟩
 ·rintro⟨c,d,a,b⟩;exact⟨⟨by omega,by omega⟩,a,b⟩
theorem nm8 {x:S}(h:vI x):x.length<=8:=h.2.1
def uR (o:Nat)(bk:List S)(lo hi:Nat)(hd tl:S)(ba:List S)(to:Bool):List S:=(gP (zB o bk) o lo hi hd tl).filter fun x=>!jJ bk ba to x
theorem gB {o:Nat}{bk:List S}{lo hi:Nat}{hd tl:S}{a:List S}{to:Bool}{x:S}:x∈uR o bk lo hi hd tl a to↔zAQ lo hi hd tl x/\zBT (zB o bk) o x/\jJ bk a to x=false:=by
 unfold uR
 rw[aL,zIt (k3 o bk)]
 simp[and_assoc]
theorem zCe (o:Nat)(bk:List S)(lo hi:Nat)(hd tl:S)(a:List S)(to:Bool):(uR o bk lo hi hd tl a to).Nodup:=(zQn (k3 o bk) ..).filter _
section
variable{P:aJ}{w:aY}{K:ag}{mg:Str->Option aj}{base:bE}
def zEt:Sp:=fun vs H Q _=>∃(c a:ak) (bk:List S) (lo hi:Int) (hd tl:S) (ba:List S) (to:Bool),vs=[.ref c,.ref a]/\H c=some (.tup (zF bk))/\bk.length<=8/\vT H a lo hi hd tl ba to/\ba.length<=6/\
 ∀(l:ak) (out:List S) (H':Hp),zA H H'->H l=none->H' l=some (.lst (zF out))->(∀x,decide (x∈out)=jJ bk ba to x)->out.length<=ba.length+bk.length->(ba.Nodup->out.Nodup)->Q (.ref l) H'
theorem zQz {vs:List V}{H:Hp}{Q:VK}{E:XK}(h:zEh vs H Q E):zEt vs H Q E:=by
 obtain⟨c,a,bk,lo,hi,hd,tl,b,to,d,e,f,g,i,k⟩:=h
 exact⟨c,a,bk,lo,hi,hd,tl,b,to,d,e,f,g,i,fun l out j s _ hl m _ _=>k l out j s hl m⟩
theorem zRA {f:ak}{fd:bg}(F:Fun K "left_out" "left_out" zEi f fd)(B:Blt mg)(W:CstW mg)(o:mg "list"=none)(q:mg "set"=none):FnOk P w K mg base z7 1 f fd ["book","wish"] zEt:=by
 obtain⟨N,u⟩:=W.barred
 obtain⟨O,D⟩:=W.told
 refine F.ok zQL (fun vs H Q E h=>?_) (fun G A outer s H vs Q E R h=>?_)
 ·obtain⟨c,a,bk,lo,hi,hd,tl,g,to,rfl,_⟩:=h;rfl
 ·obtain⟨c,a,bk,lo,hi,hd,tl,g,to,rfl,I,T,⟨b,ha,hb⟩,U,k⟩:=h
  refine⟨_,zQ (yV (vX (yM vE (pv 1) (yN (v:=.int 5) (by rfl) D ⟨_,rfl⟩) (fun _ _=>rfl)))
    (zK (z6 (gY zKz (by rfl) o fV (zC (yM vE (pv 1) (yN (v:=.int 4) (by rfl) u ⟨_,rfl⟩) (fun _ _=>rfl)) zD)))) yU)
   (zK (z6 (zPf rfl (zS gO (yM vE (pv 1) (yN (v:=.int 4) (by rfl) u ⟨_,rfl⟩) (fun _ _=>rfl)) (pv 0)) (by rfl) B.sorted lN (by rfl) q (by decide+kernel)))),?_⟩
  refine⟨_,rfl,a,_,5,.bl to,rfl,rfl,.of ha,rfl,_,rfl,?_⟩
  cases to with
  |true=>
   refine yK ?_
   refine⟨_,rfl,a,_,4,.ref b,rfl,rfl,.of ha,rfl,b,_,rfl,.inr (.of hb),fun l hl=>?_⟩
   refine k l g _ (zA.upd1 hl) hl zE (fun x=>?_) (by omega) id
   unfold jJ;simp
  |false=>
   refine yO ?_
   refine⟨_,rfl,a,_,4,.ref b,rfl,rfl,.of ha,rfl,_,rfl,?_⟩
   have bl:∀l:List S,(zF l).length=l.length:=fun l=>by unfold zF;rw[ah]
   refine⟨b,c,_,_,rfl,rfl,hb,I,by rw[bl,bl,aF];omega,fun p X r C=>?_⟩
   have ep:zF g++zF bk=((g++bk).map tx).map V.str:=by rw[<-zQM];unfold zF;rw[aQ]
   rw[ep]at C
   refine⟨p,(g++bk).map tx,rfl,.of C,by rw[ah,au];omega,fun out l d i hl=>?_⟩
   have J:out.map V.str=zF (out.map fun x=>x.cps.toList):=by
    unfold zF
    rw[aU]
    refine dM fun x _=>?_
    show V.str x=V.str (tx x.cps.toList)
    rw[zHD]
   rw[J]
   have j:(out.map fun x=>x.cps.toList).Nodup:=by
    rw[de,bq]
    exact i.imp fun{a b} z e=>by rw[e]at z;exact fG _ z
   have m:∀x∈(out.map fun x=>x.cps.toList),x∈g++bk:=fun x L=>by
    obtain⟨y,t,rfl⟩:=av.mp L
    obtain⟨z,hz,e⟩:=av.mp ((d y).mp t)
    have:z=y.cps.toList:=by rw[<-e,vW]
    rw[<-this];exact hz
   have n:=qB _ _ j m
   rw[au]at n
   refine k l _ _ (r.upd_new (r.free hl)) (r.free hl) zE (fun x=>?_) n (fun _=>j)
   have e1:x∈(out.map fun x=>x.cps.toList)↔x∈g\/x∈bk:=by
    rw[av]
    constructor
    ·rintro⟨y,t,rfl⟩
     obtain⟨z,hz,e⟩:=av.mp ((d y).mp t)
     have:z=y.cps.toList:=by rw[<-e,vW]
     rw[<-this]
     exact bw.mp hz
    ·intro h
     refine⟨tx x,(d _).mpr (av.mpr ⟨x,bw.mpr h,rfl⟩),vW x⟩
   unfold jJ
   have M:decide (x∈(out.map fun x=>x.cps.toList))=(decide (x∈g)||decide (x∈bk)):=by
    rw[dN,jl,decide_eq_true_eq,decide_eq_true_eq,decide_eq_true_eq]
    exact e1
   rw[M]
   rfl
end
theorem zCf {X:Cx}(a:ag)(b:X.K=a):IxR X (zFe a):=by
 subst b
 exact vE
noncomputable def jW (ps:List (S×S)) (o n:Nat) (U:Int) (p:List S):zH:=vG n (vZ ps (zN ps) (qJ ps (zN ps) o n (U^9) p))
noncomputable def qL (ps:List (S×S)) (o n:Nat) (U:Int) (out:List S) (pats:List (List S)):zH:=pats.flatMap fun p=>(jW ps o n U p).filter fun q=>decide (q.2∉out)
def qY (ps:List (S×S))(o:Nat)(U:Int)(N:List S):zH:=N.map fun x=>(Wn ps o (U^9) x,x)
theorem vU {ps:List (S×S)}{o:Nat}{U:Int}{N:List S}{q:Int×S}:q∈qY ps o U N↔q.2∈N/\q.1=Wn ps o (U^9) q.2:=by
 unfold qY
 rw[av]
 constructor
 ·rintro⟨x,a,rfl⟩;exact⟨a,rfl⟩
 ·rintro⟨b,c⟩;exact⟨q.2,b,eK c.symm rfl⟩
section
variable{o n:Nat}{bk:List S}{U:Int}
theorem zAs (a:0<U)(b:∀e l,(zN (zB o bk) e l).2∣U)(c:1<=n){p:List S}(d:p.length<=8):TopN n (qY (zB o bk) o U (jK (zB o bk) o p)) (jW (zB o bk) o n U p):=by
 have hf:=zCM a b c p p.length (ay _) (by omega)
 rw[bo]at hf
 exact hf.fin a b d
theorem zJC (a:0<U)(c:∀e l,(zN (zB o bk) e l).2∣U)(d:1<=n){p:List S}(f:p.length<=8):(jW (zB o bk) o n U p).length<=min n (jK (zB o bk) o p).length:=by
 have T:=zAs (o:=o) (bk:=bk) a c d f
 have g:=T.len
 have b:=qB _ _ (k8 T.srt) T.sub
 unfold qY at b
 rw[ah]at b
 omega
theorem zEu (a:0<U)(b:∀e l,(zN (zB o bk) e l).2∣U)(c:1<=n)(out:List S):∀(pats:List (List S)),(∀p∈pats,p.length<=8)->(qL (zB o bk) o n U out pats).length<=(pats.map fun p=>min n (jK (zB o bk) o p).length).sum
 | [],_=>by simp[qL]
 |p::pats,h=>by
  have ih:=zEu a b c out pats fun q d=>h q (aC _ d)
  unfold qL at ih⊢
  rw[fj,au,aR,cw]
  have f:=zJC (o:=o) (bk:=bk) a b c (h p (az ..))
  have g:=bX (fun q:Int×S=>decide (q.2∉out)) (jW (zB o bk) o n U p)
  omega
theorem zJD (c:0<U)(d:∀e l,(zN (zB o bk) e l).2∣U)(f:1<=n)(out:List S){pats:List (List S)}(g:∀p∈pats,p.length<=8)(h:pats.Pairwise fun p q=>p.length≠q.length):(qL (zB o bk) o n U out pats).Nodup:=by
 unfold qL
 rw[de,dS]
 refine⟨fun p i=>(k8 (zAs c d f (g p i)).srt).filter _,cg ?_ h⟩
 intro p q i m j x r y s e
 have a:=(vU.mp ((zAs c d f (g p i)).sub x (aL.mp r).1)).1
 have b:=(vU.mp ((zAs c d f (g q m)).sub y (aL.mp s).1)).1
 have t:=jG ((zAr (k3 o bk)).mp a).1
 have u:=jG ((zAr (k3 o bk)).mp b).1
 rw[e]at t
 exact j (by omega)
theorem zJE {α:Type}(f:α->Bool):∀l:List α,l.length=(l.filter f).length+(l.filter fun a=>!f a).length
 | []=>rfl
 |a::l=>by
  have ih:=zJE f l
  cases h:f a with
  |true=>rw[cV h,cX (by simp[h]),aM,aM];omega
  |false=>rw[cX (by simp[h]),cV (by simp[h]),aM,aM];omega
theorem zRB {m lo hi:Nat}{hd tl:S}{out:List S}(c:0<U)(f:∀e l,(zN (zB o bk) e l).2∣U)(D:1<=m)(E:hi<=8) :
  TopN m (qY (zB o bk) o U ((gP (zB o bk) o lo hi hd tl).filter fun x=>decide (x∉out))) (vG m (qL (zB o bk) o (m+out.length) U out (yJ lo hi hd tl))):=by
 have g:1<=m+out.length:=by omega
 have l8:∀p∈yJ lo hi hd tl,p.length<=8:=fun p b=>by have:=(zCX b).2;omega
 refine top_of (zJD c f g out l8 (zCZ ..)) (fun q d=>?_) fun a ha=>?_
 ·obtain⟨p,b,d⟩:=bf.mp d
  obtain⟨hq1,hq2⟩:=aL.mp d
  obtain⟨h,i⟩:=vU.mp ((zAs c f g (l8 p b)).sub q hq1)
  exact vU.mpr ⟨aL.mpr ⟨bf.mpr ⟨p,b,h⟩,hq2⟩,i⟩
 ·obtain⟨h,i⟩:=vU.mp ha
  obtain⟨t,u⟩:=aL.mp h
  obtain⟨p,b,v⟩:=bf.mp t
  have T:=zAs (o:=o) (bk:=bk) c f g (l8 p b)
  rcases T.cmp a (vU.mpr ⟨v,i⟩)with z|⟨F,w⟩
  ·exact .inl (bf.mpr ⟨p,b,aL.mpr ⟨z,u⟩⟩)
  ·right
   refine⟨(jW (zB o bk) o (m+out.length) U p).filter fun q=>decide (q.2∉out),(k8 T.srt).filter _,?_,fun l hl=>⟨bf.mpr ⟨p,b,hl⟩,w l (aL.mp hl).1⟩⟩
   have G:=zJE (fun q:Int×S=>decide (q.2∉out)) (jW (zB o bk) o (m+out.length) U p)
   have A:((jW (zB o bk) o (m+out.length) U p).filter fun a=>!decide (a.2∉out)).length<=out.length:=by
    have s:=qB (((jW (zB o bk) o (m+out.length) U p).filter fun a=>!decide (a.2∉out)).map (·.2)) out (by
     rw[de,bq]
     refine cg ?_ ((k8 T.srt).filter _)
     intro x y j B r e
     obtain⟨_,e1⟩:=vU.mp (T.sub x (aL.mp j).1)
     obtain⟨_,C⟩:=vU.mp (T.sub y (aL.mp B).1)
     exact r (eK (by rw[e1,C,e]) e)) fun x j=>by
      obtain⟨q,d,rfl⟩:=av.mp j
      have:=(aL.mp d).2
      simpa using this
    rw[ah]at s
    exact s
   omega
end
def qD (K:ag)(H:Hp)(D:ak)(ps:List (S×S))(o:Nat)(ns:List S):Prop:=∃ts:List V,H D=some (.lst ts)/\ts.length=ns.length/\∀(i:Nat) (x:S),ns[i]?=some x->∃a v,ts[i]?=some (.ref a)/\zY K H a [v,sv x]/\vA K H v (qI ps o x)
theorem kK {T:ak}{H:Hp}(h:yX T H){a:ak}{u:HO}(e:H a=some u)(b:∀ps,u≠.tbl ps):a≠T:=fun z=>by
 obtain⟨ps,c⟩:=kH h
 rw[z,c]at e
 exact b ps (aD e).symm
theorem zX.freeT {T:ak}{H c:Hp}(d:zX T H c)(tb:yX T c){b:ak}(hb:c b=none):H b=none:=by
 cases z:H b with
 |none=>rfl
 |some u=>
  by_cases a:b=T
  ·obtain⟨f,e⟩:=kH tb
   rw[a,e]at hb;cases hb
  ·rw[d _ _ a z]at hb;cases hb
section
variable{P:aJ}{w:aY}{K:ag}{mg:Str->Option aj}{base:bE}
abbrev sHF:c8:=top 61
theorem zJF:FnScope ["rows","order","wish","many","barred","parts","whole","found","pattern","pairs"] ["rows","order","wish","many","barred"] (defScope sHF):=yE
theorem zRC:(["barred","pair"]:List Str).Nodup:=by decide+kernel
theorem zJG:(["whole","weight","name"]:List Str).Nodup:=by decide+kernel
def zJH (K:ag)(T:ak):Sp:=fun vs H Q _=>∃(d a l:ak) (o m:Nat) (bk:List S) (lo hi:Nat) (hd tl:S) (ba:List S) (to:Bool) (out:List S),vs=[.ref d,.int o,.ref a,.int m,.ref l]/\Bk bk o/\(zB o bk).length<=60/\zAE H d (zB o bk)/\vT H a lo hi hd tl ba to/\lo<=hi/\hi<=8/\hd.length<=8/\tl.length<=8/\H l=some (.lst (zF out))/\1<=m/\m+out.length<=900/\yX T H/\
 (∀U,Unit9 (zB o bk) U->∀p∈yJ lo hi hd tl,HvOk (zB o bk) (zN (zB o bk)) o (m+out.length) (U^9) p)/\((yJ lo hi hd tl).map fun p=>min (m+out.length) (jK (zB o bk) o p).length).sum<64/\
 ∀D H' U B,zX T H H'->yX T H'->H D=none->Unit9 (zB o bk) U->TopN m (qY (zB o bk) o U ((gP (zB o bk) o lo hi hd tl).filter fun x=>decide (x∉out))) B->qD K H' D (zB o bk) o (B.map (·.2))->Q (.ref D) H'
theorem zRD {f T:ak}{fd:bg}(F:Fun K "heaviest_fitting" "heaviest_fitting" sHF f fd)(B:Blt mg)(cPa:zV P w K mg base 4 "parts_by_rows" ["rows"] (zHf K))(cW:zV P w K mg base 3 "whole_weight" ["rows"] zHi)(cP:zV P w K mg base 3 "patterns" ["wish"] zIp)(cA:zV P w K mg base 3 "heaviest_along" ["parts","order","weight","pattern","many"] (zHy K T))(cH:zV P w K mg base 1 "heaviest" ["pairs","many"] (zCD K T))(cL:zV P w K mg base 2 "lowest" ["up","down"] zEq) :
  FnOk P w K mg base z7 5 f fd ["rows","order","wish","many","barred"] (zJH K T):=by
 refine F.ok zJF (fun vs H Q E h=>?_) (fun cdv A outer s H vs Q E hr h=>?_)
 ·obtain⟨d,a,l,o,m,bk,lo,hi,hd,tl,ba,to,out,rfl,_⟩:=h;rfl
 ·obtain⟨d,a,l,o,m,bk,lo,hi,hd,tl,ba,to,out,rfl,hb,h60,R,hw,hle,h8,hh,ht,hl,hm,hn,tab,hv,h64,k⟩:=h
  have nd:=zJF.nd
  have r3:=hr.mono (j:=3) (by decide)
  have r2:=hr.mono (j:=2) (by decide)
  have r1:=hr.mono (j:=1) (by decide)
  refine⟨_,zQ (yH (i:=5) nd rfl (Or.inl rfl) (zT cPa hr rfl (zC (pv 0) zD)))
   (zQ (yH (i:=6) nd rfl (Or.inr rfl) (zT cW r3 rfl (zC (pv 0) zD)))
   (zQ (yH (i:=7) nd rfl (Or.inl rfl) (uG zD))
   (zQ (uE bM rfl (jA (zT cP r3 rfl (zC (pv 2) zD))) (z8 (i:=8) nd rfl (Or.inl rfl))
    (zQ (yH (i:=9) nd rfl (Or.inl rfl) (zT cA r3 rfl (zC (pv 5) (zC (pv 1) (zC (pv 6) (zC (pv 8) (zC (zS yY (pv 3) (yL j4 (by rfl) B.len bL (zC (pv 4) zD))) zD)))))))
    (zK (q8 (jM ee fB fC zBc (pv 7) (zC
     (uY (N:=["barred","pair"]) (caps:=[4]) rfl (uH (by kernel_rfl)) (jA (pv 9)) (fun cl X s H ex=>z8 (i:=1) zRC rfl (Or.inl rfl))
      (fun cl X s H ex=>zBi (vY (zQY K rfl) (yM (zCf K rfl) (pv 1) zO (fun _ _=>rfl)) (pv 0) (by with_unfolding_all rfl))) (fun cl X s H ex=>pv 1)) zD))))))
   (zK (z6 (uY (N:=["whole","weight","name"]) (caps:=[6]) rfl (uH (by kernel_rfl)) (jA (zT cH r1 rfl (zC (pv 7) (zC (pv 3) zD))))
     (fun cl X s H ex=>zAF K 2 rfl rfl (yW (z8 (i:=1) zJG rfl (Or.inl rfl)) (yW (z8 (i:=2) zJG rfl (Or.inl rfl)) uS)) rfl rfl) (fun cl X s H ex=>qP)
     (fun cl X s H ex=>v9 (zC (zT cL r2 rfl (zC (pv 1) (zC (pv 0) zD))) (zC (pv 2) zD))))))))),?_⟩
  refine⟨_,rfl,d,zB o bk,rfl,R,by omega,fun pd H1 s1 hpd hP=>?_⟩
  refine⟨_,rfl,d,zB o bk,rfl,R.same s1,h60,fun U H2 s2 hU0 hUd hUl=>?_⟩
  have hU:Unit9 (zB o bk) U:=⟨hU0,hUd,hUl⟩
  have hP2:=hP.same s2
  have hsm:Smf (zN (zB o bk)):=zQk (zNL hb).1 (by omega)
  have s12:=s1.trans s2
  refine⟨bp _,fun fo hfo=>?_⟩
  have s3:zA H2 (upd H2 fo (.lst [])):=zA.upd1 hfo
  have hf3:upd H2 fo (.lst []) fo=some (.lst []):=zE
  generalize upd H2 fo (.lst [])=H3 at s3 hf3
  have s13:=s12.trans s3
  refine⟨_,rfl,a,lo,hi,hd,tl,ba,to,rfl,hw.same s13,hle,h8,hh,ht,fun pl H4 s4 hpl ⟨as,p1,p2,p3,p4⟩=>?_⟩
  have hP4:=(hP2.same s3).same s4
  have s14:=s13.trans s4
  have hf4:=s4 _ _ hf3
  have hl4:=s14 _ _ hl
  have tab4:=uJ tab s14
  have h8':∀p∈yJ lo hi hd tl,p.length<=8:=fun p hp=>by have:=(zCX hp).2;omega
  have hn1:1<=m+out.length:=by omega
  have plT:=kK tab4 p1 fun _=>nofun
  have plf:pl≠fo:=fun z=>by rw[z,hf3]at hpl;cases hpl
  have flT:=kK tab4 hf4 fun _=>nofun
  have lT:=kK tab4 hl4 fun _=>nofun
  have lf:l≠fo:=fun z=>by rw[z]at hl;rw[s12 _ _ hl]at hfo;cases hfo
  refine⟨pl,rfl,⟨_,.of p1⟩,?_⟩
  refine j8 (jD K pl (as.map V.ref)) (fun i σ H'=>(∃x8 x9:Option V,σ=[some (.ref d),some (.int o),some (.ref a),some (.int m),some (.ref l),some (.ref pd),some (.int (U^9)),some (.ref fo),x8,x9])/\yX T H'/\(∀b u,b≠T->b≠fo->H4 b=some u->H' b=some u)/\v5 K H' fo (qL (zB o bk) o (m+out.length) U out ((yJ lo hi hd tl).take i)))
   ⟨⟨_,_,rfl⟩,tab4,fun b u _ _ e=>e,[],hf4,rfl,fun i p hi=>by cases hi⟩ (fun i σ H' _ h=>.of (h.2.2.1 _ _ plT plf p1)) ?_ ?_
  ·rintro i x σ H' Nx hN hx ⟨⟨x8,x9,rfl⟩,tb,sx,hpf⟩
   rw[aw]at hx
   cases ei:as[i]? with
   |none=>rw[ei]at hx;cases hx
   |some pa=>
   rw[ei]at hx
   have hx2:x=V.ref pa:=(aD hx).symm
   subst hx2
   have hi':i<(yJ lo hi hd tl).length:=by rw[<-p2];exact(ai.mp ei).1
   have ep:(yJ lo hi hd tl)[i]?=some (yJ lo hi hd tl)[i]:=aq hi'
   have hpm:=c9 hi'
   have etk:(yJ lo hi hd tl).take (i+1)=(yJ lo hi hd tl).take i++[(yJ lo hi hd tl)[i]]:=aB hi'
   have hpa4:=p4 i pa _ ei ep
   generalize(yJ lo hi hd tl)[i]=pat at*
   have paf:pa≠fo:=fun z=>by
    have:=(p3 pa (aZ ei)).1
    rw[z,hf3]at this;cases this
   have paT:=kK tab4 hpa4 fun _=>nofun
   have hpa:=sx _ _ paT paf hpa4
   have hl':=sx _ _ lT lf hl4
   have hfoT:∀ys,¬Rd H4 fo (.tup ys):=by
    rintro ys (z|⟨o',z⟩)
    ·rw[hf4]at z;cases z
    ·rw[hf4]at z;cases z
   have hP':k6 K H' pd (zB o bk) (zN (zB o bk)):=by
    obtain⟨pa0,g1,g2,g3⟩:=hP4
    have ndk:∀{c:ak} {kvs:List (zJ×V)},H4 c=some (.dK kvs)->H' c=some (.dK kvs):=fun{c kvs} e=>sx _ _ (kK tab4 e fun _=>nofun) (fun z=>by rw[z,hf4]at e;cases e) e
    have nfr:∀{v:V} {q:Int×Int},vA K H4 v q->vA K H' v q:=fun{v q} ⟨c,e1,e2⟩=>by
     refine⟨c,e1,?_⟩
     rcases e2 with e2|e2
     ·left
      have hcf:c≠fo:=fun z=>hfoT _ (by rw[<-z];exact e2)
      have hcT:c≠T:=fun z=>zAI tab4 _ (by rw[<-z];exact e2)
      rcases e2 with e2|⟨o',e2⟩
      ·exact .inl (sx _ _ hcT hcf e2)
      ·exact .inr ⟨o',sx _ _ hcT hcf e2⟩
     ·exact .inr e2
    exact⟨pa0,g1,ndk g2,fun r hr=>⟨(g3 r hr).1,ndk (g3 r hr).2.1,(g3 r hr).2.2.1,fun q hq=>nfr ((g3 r hr).2.2.2 q hq)⟩⟩
   refine⟨_,rfl,_,rfl,_,rfl,_,rfl,_,rfl,_,rfl,l,_,rfl,.inl (.of hl'),_,_,rfl,rfl,?_⟩
   have eln:((zF out).length:Int)=(out.length:Int):=by unfold zF;rw[ah]
   refine⟨pd,pa,o,m+out.length,bk,zN (zB o bk),U^9,pat,by rw[eln];rfl,hb,hP',hsm,hpa,by have:=h8' pat hpm;omega,by omega,tb,hv U hU pat hpm,fun D H5 sx5 tb5 hD hpD=>?_⟩
   have eB:vG (m+out.length) (vZ (zB o bk) (zN (zB o bk)) (qJ (zB o bk) (zN (zB o bk)) o (m+out.length) (U^9) pat))=jW (zB o bk) o (m+out.length) U pat:=rfl
   rw[eB]at hpD
   have hl5:=sx5 _ _ lT hl'
   have hpf5:=hpf.sameX sx5 (zAI tb) flT
   have hBl:=zJC (o:=o) (bk:=bk) (n:=m+out.length) hU0 hUd hn1 (h8' pat hpm)
   have eF:qL (zB o bk) o (m+out.length) U out ((yJ lo hi hd tl).take (i+1))=qL (zB o bk) o (m+out.length) U out ((yJ lo hi hd tl).take i)++(jW (zB o bk) o (m+out.length) U pat).filter fun q=>decide (q.2∉out):=by
    rw[etk];unfold qL;rw[eC];simp
   have hfl:=zEu (o:=o) (bk:=bk) (n:=m+out.length) hU0 hUd hn1 out ((yJ lo hi hd tl).take i) fun p hp=>h8' p (cf hp)
   have hfl2:(qL (zB o bk) o (m+out.length) U out ((yJ lo hi hd tl).take i)).length<=9000:=by
    have go:∀L:List (List S),(L.map fun p=>min (m+out.length) (jK (zB o bk) o p).length).sum<=L.length*(m+out.length):=by
     intro L
     induction L with
     |nil=>simp
     |cons p L ih=>rw[aR,cw,aM,mw];omega
    have h1:=go ((yJ lo hi hd tl).take i)
    have h2:=zQT lo hi hd tl
    have h3:((yJ lo hi hd tl).take i).length<=9:=by rw[aI];omega
    have h4:((yJ lo hi hd tl).take i).length*(m+out.length)<=9*900:=Nat.mul_le_mul h3 hn
    omega
   generalize jW (zB o bk) o (m+out.length) U pat=BP at hpD hBl eF
   obtain⟨td,d1,d2,d3⟩:=hpD
   obtain⟨tf,f1,f2,f3⟩:=hpf5
   have hfoD:fo≠D:=fun z=>by
    obtain⟨ts,e,_⟩:=hpf
    rw[z]at e
    rw[e]at hD;cases hD
   refine⟨_,rfl,.inl ⟨rfl,_,.of f1⟩,_,rfl,D,rfl,⟨_,.of d1⟩,?_⟩
   refine zBJ (jD K D td) [some (.ref l)] 1 (by rw[d2];omega) (fun j acc H6=>H6=H5/\acc.length<=j/\acc.length=((BP.take j).filter fun q=>decide (q.2∉out)).length/\∀(i':Nat) (p:Int×S),((BP.take j).filter fun q=>decide (q.2∉out))[i']?=some p->∃c,acc[i']?=some (.ref c)/\zY K H5 c [.int p.1,sv p.2])
    ⟨rfl,ay _,rfl,fun i' p h=>by cases h⟩ (fun j acc H6 _ h=>⟨.of (by rw[h.1];exact d1),h.2.1⟩) ?_ ?_
   ·rintro j y acc H6 ys Nx2 hN2 hy hys ⟨rfl,haj,hal,hac⟩
    obtain⟨y',rfl⟩:=zBP hys
    have hj:j<BP.length:=by rw[<-d2];exact(ai.mp hy).1
    obtain⟨c,c1,c2⟩:=d3 j BP[j] (aq hj)
    rw[hy]at c1
    cases c1
    have etj:BP.take (j+1)=BP.take j++[BP[j]]:=aB hj
    generalize BP[j]=q at c2 etj
    refine⟨_,rfl,c,_,1,sv q.2,rfl,rfl,c2,rfl,_,rfl,l,zF out,rfl,.inl (.of hl5),rfl,zCC _,_,rfl,?_⟩
    rw[zCB]
    by_cases hq:q.2∈out
    ·rw[decide_eq_true hq]
     refine yO (hN2 _ _ [_] rfl ⟨rfl,by omega,?_,?_⟩)
     ·rw[etj,c6,cX (by simpa using hq)];simpa using hal
     ·rw[etj,c6,cX (by simpa using hq)]
      simpa using hac
    ·rw[decide_eq_false hq]
     refine yK ⟨_,rfl,hN2 _ _ [_] rfl ⟨rfl,by rw[au,br];omega,?_,?_⟩⟩
     ·rw[etj,c6,cV (by simpa using hq),au,au,hal];rfl
     ·rw[etj,c6,cV (by simpa using hq)]
      intro i' p hp
      by_cases hi2:i'<((BP.take j).filter fun q=>decide (q.2∉out)).length
      ·rw[aT hi2]at hp
       obtain⟨c',e1,e2⟩:=hac i' p hp
       exact⟨c',by rw[aT (by omega)];exact e1,e2⟩
      ·rw[aP (by omega)]at hp
       have h0:i'- ((BP.take j).filter fun q=>decide (q.2∉out)).length=0:=by
        have h9:i'- ((BP.take j).filter fun q=>decide (q.2∉out)).length<1:=(ai.mp hp).1
        omega
       rw[h0]at hp
       have:p=q:=(aD hp).symm
       subst this
       exact⟨c,by rw[aP (by omega),hal,h0];rfl,c2⟩
   ·rintro acc H6 ⟨rfl,_,hal,hac⟩ D2 hD2
    rw[d2,bo]at hal hac
    have sD:zA H6 (upd H6 D2 (.lst acc)):=zA.upd1 hD2
    have f1':=sD _ _ f1
    have hac0:=bX (fun q:Int×S=>decide (q.2∉out)) BP
    refine⟨fo,D2,tf,acc,rfl,rfl,f1',zE,by rw[f2,hal,aF];omega,hN _ _ ⟨⟨_,_,rfl⟩,?_,fun b u hbT hbf e=>?_,?_⟩⟩
    ·have tb6:=uJ tb5 sD
     rcases tb6 with z|⟨c',oc,u',vs,t,z1,z2,z3⟩
     ·exact .inl (by rw[zG flT.symm];exact z)
     ·refine .inr ⟨c',oc,u',vs,t,by rw[zG flT.symm];exact z1,?_,z3⟩
      have:c'≠fo:=fun z=>by rw[z,f1']at z2;cases z2
      rw[zG this];exact z2
    ·rw[zG hbf]
     exact sD _ _ (sx5 _ _ hbT (sx _ _ hbT hbf e))
    ·rw[eF]
     refine⟨tf++acc,zE,by rw[au,au,f2,hal],fun i' p hp=>?_⟩
     have nt:∀ys,¬Rd (upd H6 D2 (.lst acc)) fo (.tup ys):=by
      rintro ys (z|⟨o',z⟩)
      ·rw[f1']at z;cases z
      ·rw[f1']at z;cases z
     by_cases hlt:i'<(qL (zB o bk) o (m+out.length) U out ((yJ lo hi hd tl).take i)).length
     ·rw[aT hlt]at hp
      obtain⟨c,z1,z2⟩:=f3 i' p hp
      exact⟨c,by rw[aT (by omega)];exact z1,(uQ (u:=.lst (tf++acc))).seqT nt (sD.seqT z2)⟩
     ·rw[aP (by omega)]at hp
      obtain⟨c,z1,z2⟩:=hac (i'- (qL (zB o bk) o (m+out.length) U out ((yJ lo hi hd tl).take i)).length) p hp
      exact⟨c,by rw[aP (by omega),f2];exact z1,(uQ (u:=.lst (tf++acc))).seqT nt (sD.seqT z2)⟩
  ·rintro σ H' ⟨⟨x8,x9,rfl⟩,tb,sx,hpf⟩
   rw[ah,p2,bo]at hpf
   have fnd:=zJD (o:=o) (bk:=bk) (n:=m+out.length) hU0 hUd hn1 out h8' (zCZ lo hi hd tl)
   have fln:=zEu (o:=o) (bk:=bk) (n:=m+out.length) hU0 hUd hn1 out (yJ lo hi hd tl) h8'
   have ftop:=zRB (o:=o) (bk:=bk) (m:=m) (lo:=lo) (hi:=hi) (hd:=hd) (tl:=tl) (out:=out) hU0 hUd hm h8
   have sxT:zX T H H':=fun b u hbT e=>sx _ _ hbT (fun z=>by rw[z]at e;rw[s12 _ _ e]at hfo;cases hfo) (s14 _ _ e)
   generalize qL (zB o bk) o (m+out.length) U out (yJ lo hi hd tl)=FL at hpf fnd fln ftop
   refine⟨_,rfl,_,rfl,fo,FL,m,rfl,hpf,fnd,by omega,by omega,tb,fun D H5 rs sx5 tb5 hD srt hpD=>?_⟩
   rw[zCG srt]at hpD
   have hBm:=ftop.len
   have hBs:=ftop.sub
   have k':=k
   generalize vG m FL=BB at hpD ftop hBm hBs
   obtain⟨td,d1,d2,d3⟩:=hpD
   refine⟨D,rfl,⟨_,.of d1⟩,?_⟩
   have sxT5:=sxT.trans sx5
   refine j7 (jD K D td) [some (.int (U^9))] 2 (by rw[d2];omega) (fun j acc H6=>zA H5 H6/\acc.length=j/\∀(i':Nat) (x:S),i'<j->(BB.map (·.2))[i']?=some x->∃c v,acc[i']?=some (.ref c)/\zY K H6 c [v,sv x]/\vA K H6 v (qI (zB o bk) o x))
    ⟨zA.refl _,rfl,fun i' p h=>absurd h (mN _)⟩ (fun j acc H6 _ h=>⟨.of (h.1 _ _ d1),fN h.2.1⟩) ?_ ?_
   ·rintro j y acc H6 ys Nx2 hN2 hy hys ⟨s6,hal,hac⟩
    obtain⟨y1,y2,rfl⟩:=zBQ hys
    have hj:j<BB.length:=by rw[<-d2];exact(ai.mp hy).1
    obtain⟨c,c1,c2⟩:=d3 j BB[j] (aq hj)
    rw[hy]at c1
    cases c1
    have hqm:=c9 hj
    have hq?:(BB.map (·.2))[j]?=some BB[j].2:=by rw[aw,aq hj];rfl
    generalize BB[j]=q at c2 hqm hq?
    obtain⟨g1,g2⟩:=vU.mp (hBs q hqm)
    have gf:=((zIt (k3 o bk)).mp (aL.mp g1).1).1
    obtain⟨n1,e1⟩:=zDx (o:=o) hU0 hUd (x:=q.2) (by have:=gf.2.1;omega)
    have hw1:=zQd hU0 hUl
    have hw2:=zQl (a:=60*9) (b:=8000) (by decide)
    refine⟨c,[.int q.1,sv q.2],rfl,s6.seqT c2,rfl,_,_,rfl,_,_,rfl,rfl,?_⟩
    refine⟨_,rfl,_,rfl,q.1,U^9,rfl,by rw[g2];exact n1,gn hU0,by omega,fun pf hpf=>?_⟩
    have s7:zA H6 (upd H6 pf (frO (low q.1 (U^9)))):=zA.upd1 hpf
    have hfr:vA K (upd H6 pf (frO (low q.1 (U^9)))) (.ref pf) (qI (zB o bk) o q.2):=by rw[<-e1,g2];exact vA.new
    generalize upd H6 pf (frO (low q.1 (U^9)))=H7 at s7 hfr
    refine⟨_,rfl,by show 2<=sizeLine;decide,fun t ht=>hN2 _ _ [some (.int q.1),some (sv q.2)] rfl ⟨(s6.trans s7).trans (zA.upd1 ht),by rw[au,hal];rfl,fun i' x hi2 hx=>?_⟩⟩
    by_cases hij:i'=j
    ·subst hij
     rw[hq?]at hx
     cases hx
     exact⟨t,.ref pf,by rw[aP (by omega),hal,gv];rfl,.inl (.of zE),hfr.same (zA.upd1 ht)⟩
    ·obtain⟨c',v',z1,z2,z3⟩:=hac i' x (by omega) hx
     have s8:=s7.trans (zA.upd1 (o:=.tup [.ref pf,sv q.2]) ht)
     exact⟨c',v',by rw[aT (by omega)];exact z1,s8.seqT z2,z3.same s8⟩
   ·rintro acc H6 ⟨s6,hal,hac⟩ D2 hD2
    have sD:zA H6 (upd H6 D2 (.lst acc)):=zA.upd1 hD2
    have sx6:zX T H5 (upd H6 D2 (.lst acc)):=zX.of (s6.trans sD)
    refine k' D2 _ U BB (sxT5.trans sx6) (uJ tb5 (s6.trans sD)) ((sxT5.trans (zX.of s6)).freeT (uJ tb5 s6) hD2) hU ftop ⟨acc,zE,by rw[ah,hal,d2],fun i' x hx=>?_⟩
    have hi2:i'<td.length:=by
     have:=(ai.mp hx).1
     rw[ah]at this;omega
    obtain⟨c',v',z1,z2,z3⟩:=hac i' x hi2 hx
    exact⟨c',v',z1,sD.seqT z2,z3.same sD⟩
end
theorem zRE {H:Hp}{p:ak}{bk:List S}(h:H p=some (.tup (zF bk))):vH H (.tuple (bk.map fun x=>PyData.str (tx x))) (.ref p):=⟨p,_,rfl,h,Thgs.strs bk⟩
theorem zRF {bk:List S}(h:isBk bk):sml (.tuple (bk.map fun x=>PyData.str (tx x)))=true :=
 (vO (n:=5) (fun d hd=>by obtain⟨x,a,rfl⟩:=av.mp hd;exact zCd (h.nm x a)) (by rw[ah];have:=h.hi;omega)).1
theorem zRG {H:Hp}{a:ak}{lo hi:Int}{hd tl:S}{b:List S}{to:Bool}(h:vT H a lo hi hd tl b to):vH H (zEe lo hi hd tl b to) (.ref a):=by
 obtain⟨xs,c,d,_⟩:=zQv h
 exact⟨a,xs,rfl,c,d⟩
theorem zJI {lo hi:Int}{hd tl:S}{a:List S}{to:Bool}(g:GW lo hi hd tl a):v7 7 (zEe lo hi hd tl a to):=vO (n:=6) (zQu g) (by show 6<=900;omega)
structure LkOk (bk:List S) (o lo hi:Nat) (hd tl:S) (n:Nat):Prop where
 hv:∀U,Unit9 (zB o bk) U->∀p∈yJ lo hi hd tl,HvOk (zB o bk) (zN (zB o bk)) o n (U^9) p
 sum:((yJ lo hi hd tl).map fun p=>min n (jK (zB o bk) o p).length).sum<64
theorem _root_.Kn.GW.nats {lo hi:Int}{hd tl:S}{a:List S}(g:GW lo hi hd tl a):∃l h:Nat,lo=(l:Int)/\hi=(h:Int)/\1<=l/\l<=h/\h<=8/\hd.length<=3/\tl.length<=3:=by
 have b:=g.glo
 have c:=g.gle
 have d:=g.ghi
 obtain⟨l,rfl⟩:=cp (show 0<=lo by omega)
 obtain⟨h,rfl⟩:=cp (show 0<=hi by omega)
 refine⟨l,h,rfl,rfl,by omega,by omega,by omega,?_,?_⟩
 ·rcases g.ghd with z|z
  ·rw[z];simp
  ·exact z.2
 ·rcases g.gtl with z|z
  ·rw[z];simp
  ·exact z.2
theorem _root_.Kn.GW.bnd {lo hi:Int}{hd tl:S}{c:List S}(g:GW lo hi hd tl c):c.Nodup:=((zBU c).mp g.ris).imp fun{a b} z e=>by rw[e]at z;exact fG _ z
theorem zEv {o:Nat}{bk:List S}{lo hi:Nat}{hd tl:S}{a:List S}{to:Bool}(h:hi<=8):∀x∈uR o bk lo hi hd tl a to,x.length<=8:=fun x b=>by
 have:=(gB.mp b).1.2.1;omega
theorem zRH {vs:List V}{H:Hp}{Q:VK}{E:XK}(h:zDP vs H Q E):zBS vs H Q E:=by
 obtain⟨x,rfl,a,k⟩:=h
 exact⟨_,.str (tx x),rfl,rfl,(zCd a).1,fun b c=>by rw[zCQ a];exact k b c⟩
theorem zRI {vs:List V}{H:Hp}{Q:VK}{E:XK}(h:zDR vs H Q E):zIH vs H Q E:=by
 obtain⟨a,bk,rfl,ha,hb,k⟩:=h
 exact⟨_,_,rfl,zRE ha,zRF hb,fun b c=>by rw[zOs hb];exact k b c⟩
theorem zRJ {vs:List V}{H:Hp}{Q:VK}{E:XK}(h:zDT vs H Q E):zCR vs H Q E:=by
 obtain⟨o,a,b,rfl,c,d,k⟩:=h
 refine⟨_,.int o,_,_,rfl,rfl,?_⟩
 have e:uD a b (.int (o:Int))=true:=by simp only[uD,aO,decide_eq_true_eq];omega
 rw[e];exact k
theorem zRK {vs:List V}{H:Hp}{Q:VK}{E:XK}(h:zDV vs H Q E):zII vs H Q E:=by
 obtain⟨o,rfl,a,b,k⟩:=h
 refine⟨_,.int o,rfl,rfl,?_⟩
 have e:zCP (.int (o:Int))=true:=by simp only[zCP,aO,decide_eq_true_eq];omega
 rw[e];exact k
section
variable{P:aJ}{w:aY}{K:ag}{mg:Str->Option aj}{base:bE}
def zJJ:Sp:=fun vs H Q _=>∃(a:ak) (lo hi:Int) (hd tl:S) (ba:List S) (to:Bool),vs=[.ref a]/\vT H a lo hi hd tl ba to/\GW lo hi hd tl ba/\∀H',zA H H'->Q .non H'
theorem zRL {f:ak}{fd:bg}(F:Fun K "need_wish" "need_wish" zEf f fd)(d:zV P w K mg base 3 "is_wish" ["thing"] zIX):FnOk P w K mg base z7 4 f fd ["thing"] zJJ:=by
 refine F.ok zQI (fun vs H Q E h=>?_) (fun g A outer s H vs Q E i h=>?_)
 ·obtain⟨a,lo,hi,hd,tl,c,to,rfl,_⟩:=h;rfl
 ·obtain⟨a,lo,hi,hd,tl,c,to,rfl,j,b,k⟩:=h
  refine⟨_,zK (yV (v1 (vX (zT d i rfl (zC (pv 0) zD)))) (zK zAw) yU),?_⟩
  refine⟨_,rfl,_,_,rfl,zRG j,(zJI b).1,(zJI b).sh (by decide),fun l m=>⟨_,rfl,?_⟩⟩
  have e:v6 (zEe lo hi hd tl c to)=true:=zQw b
  rw[e]
  exact yO (k l m)
structure NeedsW (P:aJ) (w:aY) (K:ag) (mg:Str->Option aj) (base:bE):Prop extends Needs P w K mg base where
 ws:zV P w K mg base 4 "need_wish" ["thing"] zJJ
abbrev sLk:c8:=top 62
theorem zRM:FnScope ["book","order","wish","many"] ["book","order","wish","many"] (defScope sLk):=yE
def zCg (K:ag)(T:ak):Sp:=fun vs H Q _=>∃(c a:ak) (bk:List S) (o lo hi:Nat) (hd tl:S) (ba:List S) (to:Bool) (m:Nat),vs=[.ref c,.int o,.ref a,.int m]/\H c=some (.tup (zF bk))/\Bk bk o/\vT H a lo hi hd tl ba to/\GW lo hi hd tl ba/\(zB o bk).length<=60/\1<=m/\m<=20/\yX T H/\(∀j,j<=ba.length+bk.length->LkOk bk o lo hi hd tl (m+j))/\
 ∀D H' U B,zX T H H'->yX T H'->H D=none->Unit9 (zB o bk) U->TopN m (qY (zB o bk) o U (uR o bk lo hi hd tl ba to)) B->qD K H' D (zB o bk) o (B.map (·.2))->Q (.ref D) H'
theorem zRN {f T:ak}{fd:bg}(F:Fun K "likeliest" "likeliest" sLk f fd)(z:∃t,mg "MOST_LIKELIEST"=some (.int 20 t))(N:NeedsW P w K mg base)(C:zV P w K mg base 2 "need_whole" ["thing","least","most"] zIs)
  (cR:zV P w K mg base 3 "counted_rows" ["book","order"] zDd) (cO:zV P w K mg base 1 "left_out" ["book","wish"] zEt) (G:zV P w K mg base 5 "heaviest_fitting" ["rows","order","wish","many","barred"] (zJH K T)) :
  FnOk P w K mg base z7 6 f fd ["book","order","wish","many"] (zCg K T):=by
 obtain⟨tM,z⟩:=z
 refine F.ok zRM (fun vs H Q E h=>?_) (fun ab A outer s H vs Q E e h=>?_)
 ·obtain⟨c,a,bk,o,lo,hi,hd,tl,g,to,m,rfl,_⟩:=h;rfl
 ·obtain⟨c,a,bk,o,lo,hi,hd,tl,g,to,m,rfl,I,hb,J,u,L,m1,M,tab,O,kQ⟩:=h
  have r1:=e.mono (j:=1) (by decide)
  have r2:=e.mono (j:=2) (by decide)
  have W:=e.mono (j:=3) (by decide)
  have r4:=e.mono (j:=4) (by decide)
  refine⟨_,zQ (q8 (zT N.bk W rfl (zC (pv 0) zD))) (zQ (q8 (zT N.od W rfl (zC (pv 1) zD))) (zQ (q8 (zT N.ws r4 rfl (zC (pv 2) zD))) (zQ (q8 (zT C r2 rfl (zC (pv 3) (zC zO (zC (yN (v:=.int 20) (by rfl) z ⟨_,rfl⟩) zD)))))
   (zK (z6 (zT G e rfl (zC (zT cR W rfl (zC (pv 0) (zC (pv 1) zD))) (zC (pv 1) (zC (pv 2) (zC (pv 3) (zC (zT cO r1 rfl (zC (pv 0) (zC (pv 2) zD))) zD))))))))))),?_⟩
  refine⟨_,rfl,c,bk,rfl,I,hb.toisBk,fun H1 s1=>?_⟩
  refine⟨_,rfl,o,rfl,hb.o1,hb.o3,?_⟩
  refine⟨_,rfl,a,lo,hi,hd,tl,g,to,rfl,J.same s1,u,fun H3 X=>?_⟩
  have s3:=s1.trans X
  refine⟨_,rfl,m,1,20,rfl,m1,M,?_⟩
  obtain⟨l',h',e1,e2,hl1,i,n,ac,al⟩:=u.nats
  have n:hi<=8:=by omega
  have i:lo<=hi:=by omega
  refine⟨_,rfl,_,rfl,c,bk,o,rfl,s3 _ _ I,hb.hi,hb.l8,hb.o1,fun dr H4 Y am R=>?_⟩
  have Z:=s3.trans Y
  refine⟨_,rfl,_,rfl,_,rfl,_,rfl,_,rfl,c,a,bk,lo,hi,hd,tl,g,to,rfl,Z _ _ I,hb.hi,J.same Z,u.len,fun l out H6 p an hl q d aa=>?_⟩
  have y:=Z.trans p
  have r:(gP (zB o bk) o lo hi hd tl).filter (fun x=>decide (x∉out))=uR o bk lo hi hd tl g to:=by
   unfold uR
   refine List.filter_congr fun x _=>?_
   rw[<-q x];simp
  have b:=O out.length d
  refine⟨dr,a,l,o,m,bk,lo,hi,hd,tl,g,to,out,rfl,hb,L,R.same p,J.same y,i,n,by omega,by omega,hl,by omega,by have:=u.len;have:=hb.hi;omega,uJ tab y,b.hv,b.sum,fun D H7 U B sx tb hD hU hT hL=>?_⟩
  rw[r]at hT
  exact kQ D H7 U B ((zX.of y).trans sx) tb (y.free hD) hU hT hL
def zJK:Sp:=fun vs H Q _=>∃(c a:ak) (bk:List S) (lo hi:Int) (hd tl:S) (ba:List S) (to:Bool) (x:S),vs=[.ref c,.ref a,sv x]/\H c=some (.tup (zF bk))/\isBk bk/\vT H a lo hi hd tl ba to/\GW lo hi hd tl ba/\vI x/\
 ∀H',zA H H'->Q (.bl (zAP bk lo hi hd tl ba to x)) H'
theorem zRO {f:ak}{fd:bg}(F:Fun K "fits" "fits" zEj f fd)(N:NeedsW P w K mg base)(v:zV P w K mg base 1 "has_form" ["wish","name"] zIZ)(y:zV P w K mg base 1 "left_out" ["book","wish"] zEh):FnOk P w K mg base z7 5 f fd ["book","wish","name"] zJK:=by
 refine F.ok zQN (fun vs H Q E h=>?_) (fun z A outer s H vs Q E g h=>?_)
 ·obtain⟨c,a,bk,lo,hi,hd,tl,b,to,x,rfl,_⟩:=h;rfl
 ·obtain⟨c,a,bk,lo,hi,hd,tl,b,to,x,rfl,p,hb,i,q,r,k⟩:=h
  have t:=g.mono (j:=1) (by decide)
  have B:=g.mono (j:=2) (by decide)
  have C:=g.mono (j:=3) (by decide)
  refine⟨_,zQ (q8 (zT N.bk C rfl (zC (pv 0) zD))) (zQ (q8 (zT N.ws g rfl (zC (pv 1) zD))) (zQ (q8 (zT N.nm B rfl (zC (pv 2) zD)))
   (zK (z6 (zAT (zT v t rfl (zC (pv 1) (zC (pv 2) zD))) (gE (qO zCw (pv 2) (zT y t rfl (zC (pv 0) (zC (pv 1) zD))) (by with_unfolding_all rfl)))))))),?_⟩
  refine⟨_,rfl,c,bk,rfl,p,hb,fun I u=>?_⟩
  refine⟨_,rfl,a,lo,hi,hd,tl,b,to,rfl,i.same u,q,fun J m=>?_⟩
  have D:=u.trans m
  refine⟨_,rfl,x,rfl,r,fun L n=>?_⟩
  have d:=D.trans n
  have M:=nm8 r
  refine⟨_,rfl,_,rfl,a,lo,hi,hd,tl,b,to,x,rfl,i.same d,by omega,_,rfl,?_⟩
  cases e1:qX lo hi hd tl x with
  |false=>
   have o:zAP bk lo hi hd tl b to x=false:=by simp only[zAP,e1,c7]
   rw[o]at k
   exact yO (k _ d)
  |true=>
   refine yK ?_
   refine⟨_,rfl,_,rfl,_,rfl,c,a,bk,lo,hi,hd,tl,b,to,rfl,d _ _ p,hb.hi,i.same d,q.len,fun l out O G hl e=>?_⟩
   refine⟨l,_,rfl,.inl (.of hl),rfl,zQH _,?_⟩
   have o:zAP bk lo hi hd tl b to x=!jJ bk b to x:=by simp only[zAP,e1,gc]
   rw[zQG,e x]
   rw[o]at k
   exact k _ (d.trans G)
end
section
variable{o n:Nat}{bk:List S}{U:Int}{ly:List (S×zH)}{pat:List S}{w:S}
theorem zRP (h:LInv (zB o bk) o n U (Tx (zU (zB o bk)) o pat) ly){r:S×zH}(e:r∈vC (ly.flatMap (y8 (zU (zB o bk)) (zN (zB o bk)) o w))){q:Int×S}(a:q∈r.2):q∈(Tx (zU (zB o bk)) o (pat++[w])).map fun t=>(Wt (zN (zB o bk)) o (U^9) t,t):=by
 rw[zCH e]at a
 obtain⟨s,f,a⟩:=bf.mp a
 obtain⟨g,hr0,c,i,j,rfl⟩:=zCL (aL.mp f).1
 obtain⟨b,hq0,rfl⟩:=av.mp a
 obtain⟨e1,d,l⟩:=uK.mp ((h.top g hr0).sub b hq0)
 refine av.mpr ⟨b.2++[c],?_,?_⟩
 ·rw[zAm]
  exact bf.mpr ⟨b.2,e1,av.mpr ⟨[c],aL.mpr ⟨(qT _ _ _).mpr (by rw[d];exact i),j⟩,rfl⟩⟩
 ·rw[zEM,d,l]
theorem zRQ (h:LInv (zB o bk) o n U (Tx (zU (zB o bk)) o pat) ly){q:Int×S}(a:q∈vZ (zB o bk) (zN (zB o bk)) ly):q∈(Tx (zU (zB o bk)) o pat).map fun t=>(Wn (zB o bk) o (U^9) t,t):=by
 obtain⟨r,b,f,p,c,rfl⟩:=zCN.mp a
 obtain⟨e1,d,e⟩:=uK.mp ((h.top r b).sub p c)
 refine av.mpr ⟨p.2,e1,?_⟩
 unfold Wn
 rw[d,e]
def Sh3 (bk:List S):Prop:=∀nm∈bk,nm.length<=3
theorem zCh {e:S}{c:Nat}(h:(e,[c])∈zB o bk):∃nm∈bk,∃p,p<nm.length/\zW (nm.take p) o=e/\(nm.drop p).take 1=[c]:=by
 obtain⟨nm,b,a⟩:=bf.mp h
 rw[zBO]at a
 rcases bw.mp a with z|z
 ·unfold pp at z
  obtain⟨p,a,z⟩:=av.mp z
  obtain⟨d,f⟩:=bP z
  exact⟨nm,b,p,bI.mp a,d,f⟩
 ·have z:=aS.mp z
  have:=congrArg eE (bP z).2
  simp at this
theorem zRR (e:1<=o){c:Nat}(h:([],[c])∈zB o bk):[c]∈bk.map fun nm=>nm.take 1:=by
 obtain⟨nm,a,p,f,e1,b⟩:=zCh h
 have d:p=0:=by
  have:=congrArg eE e1
  unfold zW at this
  rw[bQ,aI]at this
  simp at this
  omega
 subst d
 exact av.mpr ⟨nm,a,b⟩
theorem zRS (j:1<=o)(g:Sh3 bk){c d:Nat}(h:([c],[d])∈zB o bk):[c,d]∈bk.flatMap fun nm=>[nm.take 2,(nm.drop 1).take 2]:=by
 obtain⟨nm,f,p,b,e1,a⟩:=zCh h
 have hl:=g nm f
 refine bf.mpr ⟨nm,f,?_⟩
 unfold zW at e1
 cases nm with
 |nil=>simp at b
 |cons x nm=>
  cases nm with
  |nil=>
   have:p=0:=by simp at b;omega
   subst this
   simp at e1
  |cons y nm=>
   have e:p=0\/p=1\/p=2:=by
    have:p<3:=by omega
    omega
   rcases e with rfl|rfl|rfl
   ·simp at e1
   ·simp at e1 a
    have hd:List.drop (1-o) [x]=[x]:=by rw[show 1-o=0 by omega];rfl
    rw[hd]at e1
    simp at e1
    simp[e1,a]
   ·cases nm with
    |nil=>simp at b
    |cons z nm=>
     have i:o=1:=by
      have:=congrArg eE e1
      rw[bQ,aI]at this
      simp at this
      omega
     subst i
     simp at e1 a
     simp[e1,a]
theorem zJL (ha:Abc bk):(Tx (zU (zB o bk)) o (pat++[w])).length<=(Tx (zU (zB o bk)) o pat).length*3:=by
 rw[zAm]
 have go:∀L:List S,(L.flatMap fun t=>((zU (zB o bk) (zW t o)).filter (mf w)).map fun l=>t++l).length<=L.length*3:=by
  intro L
  induction L with
  |nil=>simp
  |cons t L ih=>
   rw[fj,au,ah,aM,mw]
   have a:=qB ((zU (zB o bk) (zW t o)).filter (mf w)) [[97],[98],[122]] ((zEI _ _).filter _) fun l hl=>by
    obtain⟨a,d⟩:=aL.mp hl
    have e:=(qT _ _ _).mp a
    have b:l≠[]:=fun z=>by rw[z]at d;simp[mf]at d
    obtain⟨c,rfl⟩:=zAG (gN e) b
    obtain⟨nm,b,p,g,_,f⟩:=zCh e
    have:c∈nm:=nC (cf (by rw[f];exact cU _))
    rcases ha nm b c this with z|z|z<;>simp[z]
   simp at a
   omega
 exact go _
theorem zRT {c:Nat}{t:S}(a:1<=o):([],[c])∈pp o (c::t):=by
 unfold pp
 refine av.mpr ⟨0,bI.mpr (by simp),?_⟩
 simp[zW]
theorem zRU {c d:Nat}(a:1<=o):([c],[d])∈pp o [c,d]:=by
 unfold pp
 refine av.mpr ⟨1,bI.mpr (by simp),?_⟩
 have:1-o=0:=by omega
 simp[zW,this]
def cap:Nat->Nat
 |0=>1
 |1=>3
 |2=>6
 |3=>18
 |_=>54
theorem zJM {k:Nat}(h:pat.length=k+1):∃p w,pat=p++[w]/\p.length=k:=by
 have a:pat≠[]:=fun z=>by rw[z]at h;cases h
 refine⟨pat.dropLast,pat.getLast a,(List.dropLast_concat_getLast a).symm,?_⟩
 rw[List.length_dropLast,h];rfl
theorem zEw (f:1<=o)(ha:Abc bk)(q:Sh3 bk)(hb:bk.length<=3):∀{pat:List S},pat.length<=4->(Tx (zU (zB o bk)) o pat).length<=cap pat.length:=by
 have nd:=zIC (lts (zB o bk)) (k3 o bk) o
 have mem:=zCI (lts (zB o bk)) (k3 o bk) o
 have l:∀{pat:List S},pat.length=2->(Tx (zU (zB o bk)) o pat).length<=6:=fun{pat} h=>by
  have a:=qB _ (bk.flatMap fun nm=>[nm.take 2,(nm.drop 1).take 2]) (nd pat) fun t i=>by
   obtain⟨a,g⟩:=(mem pat t).mp i
   have b:=jG a
   rw[h]at b
   match t,b with
   | [c,d],_=>exact zRS f q (g _ (zRU f))
  have r:∀B:List S,(B.flatMap fun nm=>[nm.take 2,(nm.drop 1).take 2]).length=2*B.length:=by
   intro B
   induction B with
   |nil=>rfl
   |cons x B ih=>rw[fj,au,ih,aM];simp;omega
  rw[r]at a
  omega
 have m:∀{pat:List S},pat.length=3->(Tx (zU (zB o bk)) o pat).length<=18:=fun{pat} h=>by
  obtain⟨p,w,rfl,j⟩:=zJM h
  have:=zJL (o:=o) (pat:=p) (w:=w) ha
  have:=l j
  omega
 intro pat h
 match e:pat.length,h with
 |0,_=>
  have:pat=[]:=cq.mp e
  subst this
  show 1<=1
  exact ay _
 |1,_=>
  have a:=qB _ (bk.map fun nm=>nm.take 1) (nd pat) fun t i=>by
   obtain⟨a,g⟩:=(mem pat t).mp i
   have b:=jG a
   rw[e]at b
   match t,b with
   | [c],_=>exact zRR f (g _ (zRT f))
  rw[ah]at a
  show _<=3
  omega
 |2,_=>exact l e
 |3,_=>exact m e
 |4,_=>
  obtain⟨p,w,rfl,j⟩:=zJM e
  have a:=zJL (o:=o) (pat:=p) (w:=w) ha
  have g:=m j
  show _<=54
  omega
theorem zJN {k:Nat}(h:k<=4):cap k<=54:=by
 match k,h with
 |0,_=>decide
 |1,_=>decide
 |2,_=>decide
 |3,_=>decide
 |4,_=>decide
theorem zRV (h:1<=o)(ha:Abc bk)(j:Sh3 bk)(hb:bk.length<=3)(b:0<U)(m:∀e l,(zN (zB o bk) e l).2∣U)(c:1<=n)(p:pat.length<=4):HvOk (zB o bk) (zN (zB o bk)) o n (U^9) pat:=by
 have hf:=zCM (o:=o) (bk:=bk) b m c pat pat.length (ay _) (by omega)
 rw[bo]at hf
 refine⟨fun i hi r d=>?_,zEP hf,?_⟩
 ·have a:=zCM (o:=o) (bk:=bk) b m c pat i (by omega) (by omega)
  refine⟨zEN a d,?_⟩
  have f:=qB _ _ (zEN a d) fun q g=>zRP a d g
  rw[ah]at f
  have hl:(pat.take i++[pat.getD i []]).length<=4:=by rw[au,aI,br];omega
  have s:=zEw (o:=o) h ha j hb hl
  have t:=zJN hl
  omega
 ·have f:=qB _ _ (zEP hf) fun q g=>zRQ hf g
  rw[ah]at f
  have s:=zEw (o:=o) h ha j hb p
  have t:=zJN p
  omega
theorem zJO (c:Nat->Nat):∀(L M:List Nat),L.Nodup->(∀x∈L,x∈M)->(L.map c).sum<=(M.map c).sum
 | [],M,_,_=>bp _
 |x::L,M,h,b=>by
  have e:=b x (az ..)
  have g:=zJO c L (M.erase x) (bz.mp h).2 fun y d=>by
   have a:y≠x:=fun z=>(bz.mp h).1 (by rw[<-z];exact d)
   exact(jg a).mpr (b y (aC _ d))
  have f:=((List.perm_cons_erase e).map c).sum_nat
  rw[aR,cw]at f⊢
  omega
theorem zJP {α:Type}(f g:α->Nat):∀(L:List α),(∀x∈L,f x<=g x)->(L.map f).sum<=(L.map g).sum
 | [],_=>ay _
 |x::L,h=>by
  have b:=zJP f g L fun y a=>h y (aC _ a)
  have c:=h x (az ..)
  rw[aR,aR,cw,cw]
  omega
theorem zRW {lo hi:Nat}{hd tl:S}(f:1<=o)(ha:Abc bk)(g:Sh3 bk)(hb:bk.length<=3)(d:1<=n)(m:n<=36)(hl:1<=lo)(q:hi<=4):LkOk bk o lo hi hd tl n:=by
 have h:∀p∈yJ lo hi hd tl,p.length<=4:=fun p c=>by have:=(zCX c).2;omega
 refine⟨fun U i p c=>zRV f ha g hb i.pos i.dvd d (h p c),?_⟩
 have j:=zJP (fun p=>min n (jK (zB o bk) o p).length) (fun p=>(fun k=>min 36 (cap k)) p.length) (yJ lo hi hd tl) fun p c=>by
  have a:=zEw (o:=o) f ha g hb (h p c)
  have b:(jK (zB o bk) o p).length<=_:=bX _ _
  show min n _<=min 36 (cap p.length)
  omega
 have e:(yJ lo hi hd tl).map (fun p=>(fun k=>min 36 (cap k)) p.length)=((yJ lo hi hd tl).map eE).map fun k=>min 36 (cap k):=by rw[aU];rfl
 rw[e]at j
 have r:=zJO (fun k=>min 36 (cap k)) ((yJ lo hi hd tl).map eE) [1,2,3,4] (by
  rw[de,bq]
  exact zCZ lo hi hd tl) fun x l=>by
   obtain⟨p,c,rfl⟩:=av.mp l
   have a:=zCX c
   have b:p.length=1\/p.length=2\/p.length=3\/p.length=4:=by omega
   rcases b with z|z|z|z<;>rw[z]<;>simp
 have s:([1,2,3,4].map fun k=>min 36 (cap k)).sum=63:=by decide
 omega
end
end Kn.Ln
end
section
namespace L2
open PySem PySem.Spec PyProof.Rows
theorem tcS (a v:aj):checkTypeCall "enumerate" ⟨[a],[(b8 "start",v)]⟩=pure ():=by kernel_rfl
theorem ncS (a v:aj):checkBuiltinCall "enumerate.__new__" ⟨[.type "enumerate",a],[(b8 "start",v)]⟩=pure ():=by kernel_rfl
theorem oiS (b a v:aj):argsOk "object.__init__" ⟨[b,a],[(b8 "start",v)]⟩:=by
 unfold argsOk;rw[nU (id :="object.__init__") (n:=['_','_','t','i','n','i','_','_']) (o:=['t','c','e','j','b','o']) (by kernel_rfl) F.owner_object];kernel_rfl
theorem zRX (l:ak)(items:Array aj)(n:Nat)(e:Option ak)(f:Array (Option aj))(t:Tok) :
  Meets (cQ.«enumerate.__new__» ⟨[.type "enumerate",.ref l],[(b8 "start",.int 1 t)]⟩) (fun _ R s=>s.heap.get? l=some {cls:=.type "list",dict:=e,data:=.seq items n,slots:=f}/\
   R (.ok (.ret (.ref (s.heap.push {cls:=.type "list_iterator",data:=.fields #[.ref l,.int 0 0]}).objs.size)))
    {s with heap:=(s.heap.push {cls:=.type "list_iterator",data:=.fields #[.ref l,.int 0 0]}).push {cls:=.type "enumerate",data:=.fields #[.none,.bool false,.ref s.heap.objs.size,rawInt 1,.none,.none]}}) :=
 .of_wp fun prog w A R s h=>by
  obtain⟨i,g,d,tk,os⟩:=s;obtain⟨hl,h⟩:=h
  have b:=sub_enumerate
  have a:tH (lD ⟨i,g,d,tk,os⟩) l items:=⟨_,hl,rfl,n,rfl⟩
  wp_walk using fD hl
  refine wpAny_stack_any fun st=>ar ?_
  split
  ·rename_i c _ _ _ _ _
   cases(c==Value.type "enumerate")
   ·wp_walk using fD hl,d8 a
    exact⟨_,rfl,h⟩
   ·wp_walk using fD hl,d8 a
    exact⟨_,rfl,h⟩
  ·wp_walk using fD hl,d8 a
   exact⟨_,rfl,h⟩
theorem zRY {b a v:aj}:Meets (cQ.«object.__init__» ⟨[b,a],[(b8 "start",v)]⟩) (fun _ R s=>s.TypeIs b "enumerate"/\R (.ok (.ret .none)) s):=by
 refine Meets.of_wp fun prog w A R s c=>?_
 obtain⟨f,d⟩:=c
 have hl:=ck.init.lookup
 have g:=ck.made
 have e:(some "enumerate.__new__" !=some "object.__new__")=true:=by decide
 repeat(any_goals (first|assumption|wp_step))
 exact⟨_,rfl,d⟩
section
variable{prog:aJ}{w:aY}{A:bO}{E:aj->ao->Prop}{s:ao}
theorem zRZ {l:ak}{items:Array aj}{t:Tok}{Q:aj->ao->Prop}(hl:s.heap.IsList l items)
  (h:∀h',IsEnum h' (s.heap.objs.size+1) s.heap.objs.size 1 .none->h'.IsListIter s.heap.objs.size l 0->(∀b o,s.heap.get? b=some o->h'.get? b=some o)->Q (.ref (s.heap.objs.size+1)) {s with heap:=h'}) :
  wpAny (model prog w) A (call (.type "enumerate") [.ref l] [(b8 "start",.int 1 t)]) Q E s:=by
 obtain⟨⟨cls,B,data,C⟩,D,G,n,hd⟩:=hl
 have f:cls=.type "list" :=G
 have g:data=.seq items n:=hd
 subst f g
 obtain⟨c,tl,p⟩:=ck.mro
 have i:=ck.made
 have q:=ck.sub
 have O:=ck.notType
 have P:=ck.canCreate
 have H:=tcS (.ref l) (.int 1 t)
 have hz:(s.heap.push {cls:=.type "list_iterator",data:=.fields #[.ref l,.int 0 0]}).objs.size=s.heap.objs.size+1:=bF ..
 have u:IsEnum ((s.heap.push {cls:=.type "list_iterator",data:=.fields #[.ref l,.int 0 0]}).push {cls:=.type "enumerate",data:=.fields #[.none,.bool false,.ref s.heap.objs.size,rawInt 1,.none,.none]}) (s.heap.objs.size+1) s.heap.objs.size 1 .none:=by
  have:=aA (s.heap.push {cls:=.type "list_iterator",data:=.fields #[.ref l,.int 0 0]}) (o:={cls:=.type "enumerate",data:=.fields #[.none,.bool false,.ref s.heap.objs.size,rawInt 1,.none,.none]}) rfl
  rw[hz]at this;exact this
 have I:=h _ u ⟨_,ae _ (aA _ rfl),rfl,rfl⟩ fun b o x=>ae _ (ae _ x)
 refine nZ (mO ?_)
 show wpAny _ _ (callAny (.type "enumerate") _) _ _ _
 refine ar ⟨oa _ (by decide+kernel),dP oW ?_⟩
 rw[og (mV "enumerate" _ _) (units_type_call_type "enumerate" _ _)]
 repeat(any_goals (first|assumption|wp_step))
 refine fb (jj ck.plain F.entry_enumerate_new (ng (ncS (.ref l) (.int 1 t)) (zRX l items n B C t prog w A.in1 (wants (fun obj d=>obj=.ref (s.heap.objs.size+1)/\d.TypeIs obj "enumerate"/\Q obj d) E) s ⟨D,?_⟩))) fun r d j=>?_
 ·show _/\_
  rw[hz]
  exact⟨rfl,⟨_,u,rfl⟩,I⟩
 cases r with
 |error e=>exact j
 |ok J=>
  cases J with
  |ret obj=>
   obtain⟨rfl,v,y⟩:=j
   have L:=ck.init.lookup
   have M:=ck.init.bind (.ref (s.heap.objs.size+1))
   repeat(any_goals (first|assumption|wp_step))
   refine fb (jj ck.init.plain F.entry_object_init (ck.init.check _ _ _ _ _ _ _ _ v (oiS _ _ _) (zRY prog w A.in1 (wants (fun r z=>r=.none/\Q (.ref (s.heap.objs.size+1)) z) E) d ⟨v,rfl,y⟩))) fun N z a=>?_
   cases N with
   |error e=>exact a
   |ok m=>
    cases m with
    |ret r=>
     obtain⟨rfl,y⟩:=a
     repeat(any_goals (first|assumption|wp_step))
    |_=>exact a.elim
  |_=>exact j.elim
end
theorem zRa {prog:aJ}{w:aY}{A:bO}{it:ak}{fp:List ak}{n:Nat}{P:Nat->aj->Prop}{St:Nat->bE->Prop}(D:lV prog w A it fp n P St):lV prog w A it fp (n+1) (fun j=>P (j-1)) (fun j h=>1<=j/\St (j-1) h) where
 live:=fun _ _ st=>D.live _ _ st.2
 frame:=fun _ _ _ st d=>⟨st.1,D.frame _ _ _ st.2 d⟩
 item:=fun i s Q E hi st e=>by
  obtain⟨l,f⟩:=st
  refine D.item (i-1) s Q E (by omega) f fun x h' tk a b c=>e x h' tk a ⟨by omega,?_⟩ c
  rw[show i+1-1=i-1+1 by omega];exact b
 done:=fun s Q E st g=>D.done s Q E st.2 g
def zBW (K:ag)(a:ak):It :=
 ⟨fun i H=>∃xs x,zZ K H a xs/\xs[i]?=some x,fun i H x H'=>∃T y,x=.ref T/\H T=none/\H'=upd H T (.tup [.int ((i+1:Nat):Int),y])/\∀xs,zZ K H a xs->xs[i]?=some y,fun i H=>∃xs,zZ K H a xs/\xs.length=i⟩
theorem zRb {P:aJ}{w:aY}{K:ag}{B:List bJ}{k:Nat}{pos:Pos}(a e it:ak)(m:e≠it):Turn P w K (.Tuple B k pos) (zBW K a) [e,it] e (fun i h=>(∃old,IsEnum h e it ((i+1:Nat):Int) old)/\h.IsListIter it a i) where
 mem:=by simp
 obj:=fun i h st b hb=>by
  obtain⟨⟨old,f⟩,hit⟩:=st
  rcases aG.mp hb with z|z
  ·subst z;exact⟨_,f,fun v z=>by cases z⟩
  ·have O:b=it:=by simpa using z
   subst O
   obtain⟨o,e,c,d⟩:=hit
   exact⟨o,e,fun v z=>by rw[d]at z;cases z⟩
 keep:=fun i h h' st kk=>⟨let⟨old,f⟩:=st.1;⟨old,kk e (by simp) _ f⟩,st.2.at fun o x=>kk it (by simp) o x⟩
 item:=by
  intro X C R T U i F s σ H E I hf st W
  subst C R T
  obtain⟨xs,x,M,Y⟩:=W
  obtain⟨its,Z,p,hz⟩:=I.list M
  obtain⟨u,hu,ru⟩:=Z.get Y
  obtain⟨⟨old,f⟩,hit⟩:=id st
  have aa:e≠a:=fun z=>by
   subst z
   obtain⟨o,y,j,_⟩:=p.isList
   rw[f]at y;cases y
   have ab:Value.type "enumerate"=Value.type "list" :=j
   exact absurd ab (by decide)
  have n:a≠it:=fun z=>by
   subst z
   obtain⟨o,y,j,_⟩:=p.isList
   obtain⟨o',l,G,_⟩:=hit
   rw[y]at l;cases l;rw[j]at G;exact absurd G (by decide)
  have D:=zRa (iX (prog:=X.prog) (w:=X.w) (A:=X.A.in1) (show X.A.in1.handled=none from I.ok.hd U) it a n its.toArray)
  have ac:i+1<its.toArray.size+1:=by
   have:=(ai.mp hu).1
   simpa using this
  refine lW D f ⟨by omega,hit,p.isList⟩ ac m (by simp[m,aa]) fun N h' tk C ho al hT hsz hk=>?_
  have am:N=u:=by
   have:its[i]?=some N:=by simpa using C
   rw[hu]at this;exact(aD this).symm
  subst am
  refine⟨_,rfl,km ho fun j an r=>?_⟩
  have t:s.heap.get? s.heap.objs.size=none:=by
   cases g:s.heap.get? s.heap.objs.size with
   |none=>rfl
   |some o=>exact absurd (aE g) (bH _)
  have J:e<s.heap.objs.size:=aE f
  have ap:j.get? s.heap.objs.size=some {cls:=.type "tuple",data:=.seq #[.int ((i+1:Nat):Int) tk,N]}:=(r.2 _ (cS J)).trans hT
  refine⟨.ref s.heap.objs.size,upd H s.heap.objs.size (.tup [.int ((i+1:Nat):Int),x]),I.turnedT (fp:=[e,it]) (h':=j) (t':=tk+1) (fun b o hb q=>?_) hf t ⟨by show 2<=sizeLine;decide,[.int ((i+1:Nat):Int) tk,N],.cons ⟨tk,rfl⟩ (.cons ru .nil),⟨_,ap,rfl,_,rfl⟩⟩,rfl,
   ⟨_,x,rfl,I.hok.free t,rfl,fun ys hy=>by rw[I.list_inj hy M];exact Y⟩,⟨⟨_,by simpa using an⟩,al.2.1.at fun o q=>(r.2 it (d5 m)).trans q⟩,fun b hb=>?_⟩
  ·have L:b≠e:=fun z=>hb (by simp[z])
   have as:b≠it:=fun z=>hb (by simp[z])
   exact(r.2 b L).trans (hk b o L as q)
  ·rw[zG]
   ·exact(hf b hb).1
   ·rintro rfl
    rcases aG.mp hb with z|z
    ·exact absurd J (by rw[z];exact bH _)
    ·have O:s.heap.objs.size=it:=by simpa using z
     obtain⟨o,l,_⟩:=hit
     rw[<-O,t]at l;cases l
 done:=by
  intro X C R T U i F s σ H E I hf st W
  subst C R T
  obtain⟨xs,M,Y⟩:=W
  obtain⟨its,Z,p,hz⟩:=I.list M
  obtain⟨⟨old,f⟩,hit⟩:=id st
  have hl:=Z.length
  have n:a≠it:=fun z=>by
   subst z
   obtain⟨o,y,j,_⟩:=p.isList
   obtain⟨o',l,G,_⟩:=hit
   rw[y]at l;cases l;rw[j]at G;exact absurd G (by decide)
  have D:=iX (prog:=X.prog) (w:=X.w) (A:=X.A.in1) (show X.A.in1.handled=none from I.ok.hd U) it a n its.toArray
  obtain⟨f0,f1,f2,f3,f4,f5⟩:=hf it (by simp)
  have hi:its.toArray.size=i:=by rw[aH];omega
  refine mD D f ⟨by rw[hi];exact hit,p.isList⟩ fun h' eb=>⟨rfl,I.turned (t':=s.toks) (fun b o hb e=>eb b o hb e) f0 f1 f3 f4 f5⟩
 self:=fun A i s Q E st h=>let⟨old,f⟩:=st.1;iI f h
theorem zRc {M:Model}{A:bO}{E:aj->ao->Prop}{s:ao}{env:Env}{pos:Pos}{T:String}{e:bJ}{yT:List bJ}{b:List mm}{Q:aj->ao->Prop}
  (h:wpAny M A (spliced (backTo pos (starEach (e::yT) env))) (fun vs c=>wpAny M A (evalAll ((backToKw pos (keywordEach b env)).map (·.2)))
   (fun kvs d=>wpAny M A (call (.type T) vs (((backToKw pos (keywordEach b env)).filterMap (·.1)).zip kvs)) Q E d) E c) E s)
  (f:backTo pos (starEach (e::yT) env)=(false,eval e env)::backTo pos (starEach yT env))
  (g:(backTo pos (starEach (e::yT) env)).any (·.1)=false)
  (ha:(backToKw pos (keywordEach b env)).all (·.1.isSome)=true)
  (i:(backToKw pos (keywordEach b env)).any (·.1.isNone)=false) :
  wpAny M A (callWith pos (.type T) [] (backTo pos (starEach (e::yT) env)) (backToKw pos (keywordEach b env))) Q E s:=by
 have j:wpAny M A (evalArgs (.type T) true (backTo pos (starEach (e::yT) env)) (backToKw pos (keywordEach b env))) (fun a c=>wpAny M A (call (.type T) ([]++a.pos) a.kw) Q E c) E s:=by
  rw[f]at h⊢
  exact evalArgs_kwB ha h
 unfold callWith
 refine af (cY (cy j (fun a c h₁=>af (nS ?_)) fun _ _ x=>x))
 simp only[g,i,rT]
 exact af (ar (af (cy h₁ (fun r d l=>af (cY (wpAny_point (ar l)))) fun _ _ x=>x)))
section
variable{X:Cx}{elts:List bJ}{k:Nat}{tpos:Pos}
def zRd (K:ag)(ta:TA):TI:=fun σ H R=>ta σ H fun vs H1=>∃a xs,vs=[.ref a]/\H1 a=some (.lst xs)/\R (zBW K a) H1
theorem zRe {e:bJ}{m:TA}{p t kp pos:Pos}{v:Nat}(w:Gl X "enumerate")(x:X.mg "enumerate"=none)(ha:PA X [e] m)(i:backTo pos (starEach [e] X.env)=(false,eval e X.env)::backTo pos (starEach [] X.env):=by rfl)
  (j:(backTo pos (starEach [e] X.env)).any (·.1)=false:=by rfl):PI X (.Tuple elts k tpos) (.Call (.Name "enumerate" p) [e] [⟨some "start",.Constant (.int 1) v t,kp⟩] pos) (zRd X.K m):=by
 intro d s σ H R I h
 refine dW (qZ I w x qm ?_ (by decide) (by decide))
 refine zRc (zI (ha pos d s σ H _ I h) fun G c ⟨vs,y,l,A,B⟩=>kws_cons ?_) i j rfl rfl
 obtain⟨a,xs,rfl,hl,q⟩:=B
 obtain⟨u,rfl,C⟩:=uF A
 cases C
 refine iu (kws_nil ?_)
 have f:=l.tok (c.toks+1)
 obtain⟨z,its,n,r,D⟩:=f.hok a _ hl
 refine zRZ ⟨_,D,rfl,n,rfl⟩ fun h' o hit E=>?_
 have F:=f.kept (t':=c.toks+1) E
 refine iI o ⟨_,[c.heap.objs.size+1,c.heap.objs.size],_,_,y,rfl,F,zRb a _ _ (pA _),⟨⟨_,o⟩,hit⟩,fun b hb=>?_,q⟩
 have g:c.heap.objs.size<=b:=by
  rcases aG.mp hb with z|z
  ·rw[z];exact gm _
  ·have:b=c.heap.objs.size:=by simpa using z
   rw[this];exact ay _
 exact l.fpOk g (l.hok.fresh g)
theorem zRf {K:ag}{a:ak}{xs:List V}{g:TG}{tb:TS}{D:Ends}{σ:St}{H:Hp}(Pv:Nat->St->Hp->Prop)(r:Pv 0 σ H)(s:∀i σ H,i<=xs.length->Pv i σ H->zZ K H a xs)
  (d:∀(i:Nat) (x:V) (T:ak) (σ:St) (H:Hp) (h:St->Hp->Prop),(∀c b,Pv (i+1) c b->h c b)->xs[i]?=some x->Pv i σ H->H T=none->g (.ref T) σ (upd H T (.tup [.int ((i+1:Nat):Int),x])) fun j f=>tb {D with nx:=h,ct:=h,bk:=D.nx} j f)
  (fin:∀σ H,Pv xs.length σ H->D.nx σ H) :
  ∃W:Nat->Nat->St->Hp->Prop,(∃m,W 0 m σ H)/\∀i m σ H,W i m σ H->
   ((zBW K a).stop i H/\D.nx σ H)\/((zBW K a).go i H/\∃N:St->Hp->Prop,(∀c b,N c b->∃q,q<m/\W (i+1) q c b)/\∀x b,(zBW K a).yld i H x b->g x σ b fun j f=>tb {D with nx:=N,ct:=N,bk:=D.nx} j f):=by
 refine⟨fun i m σ H=>i<=xs.length/\m=xs.length-i/\Pv i σ H,⟨xs.length,bp _,rfl,r⟩,?_⟩
 rintro i m σ H ⟨hi,rfl,pv⟩
 have l:=s i σ H hi pv
 by_cases e:i=xs.length
 ·subst e
  exact .inl ⟨⟨xs,l,rfl⟩,fin σ H pv⟩
 ·have n:i<xs.length:=by omega
  refine .inr ⟨⟨xs,xs[i],l,aq n⟩,Pv (i+1),fun c b p=>⟨xs.length- (i+1),by omega,by omega,rfl,p⟩,fun x f o=>?_⟩
  obtain⟨T,y,rfl,t,rfl,u⟩:=o
  exact d i y T σ H (Pv (i+1)) (fun _ _ p=>p) (u xs l) pv t
end
section
open MyS PySem.W
variable{X:Cx}
def zRg (K:ag):List V->Hp->VK->Prop:=fun xs H Q=>∃(p:ak) (ss:List Str),xs=[.ref p]/\zY K H p (ss.map V.str)/\ss.Nodup/\ss.length<64/\
 ∀(out:List Str) (l:ak),out.Perm ss->out.Pairwise (fun a b=>a.cps.toList<b.cps.toList)->H l=none->Q (.ref l) (upd H l (.lst (out.map V.str)))
theorem zRh (hc:X.calm=true):uU X (.builtin "sorted") (zRg X.K):=by
 intro d s σ H xs us Q I M h
 obtain⟨p,ss,rfl,N,nd,O,q⟩:=h
 obtain⟨u,rfl,P⟩:=uF M
 cases P
 obtain⟨its,v,pl,_⟩:=I.tuple N
 have R:qc its ss:=zGX v
 have a:its.length=ss.length:=by have:=v.length;simpa using this.symm
 refine lq pI oN oO (args_sorted1 _) ?_
 unfold cQ.«sorted»
 refine af (m:=checkCount "sorted" 1 1 _) (ar ?_)
 obtain⟨ot,w,y,nt,z⟩:=pl
 refine af (wpAny_collect_seq (hsz:=by rw[aH,a,aF];omega) p (.inr rfl) w y z fun G T=>?_)
 have F:Inv X d σ H {s with heap:=G}:=I.kept (t':=s.toks) T
 have U:its.toArray.toList=its:=by simp
 rw[U]
 refine af (iZ ?_ (by rw[a,aF];omega))
 dsimp only
 generalize A:G.objs.size=B
 have f:(G.push {cls:=.type "list",data:=.seq its.toArray}).get? B=some (seqObj "list" its.toArray 0):=by
  rw[<-A];exact aA _ rfl
 have g:G.objs.size<=B:=by rw[<-A];exact ay _
 have old:∀b o,G.get? b=some o->(G.push {cls:=.type "list",data:=.seq its.toArray}).get? b=some o/\b≠B:=fun b o e=>⟨ae _ e,by rw[<-A];exact bc (aE e)⟩
 refine af (cY (bT nr ⟨_,f,rfl⟩ mK (zGS (ks:=ss) f R nd (by omega) fun pm J L C n D E=>⟨_,rfl,?_⟩) (qz _)))
 refine ar ⟨_,rfl,?_⟩
 have c:pm.Perm (bC ss.length):=by rw[<-a];exact C
 have r:∀b o,G.get? b=some o->J.get? b=some o:=fun b o e=>D b o (old _ _ e).2 (old _ _ e).1
 refine⟨.ref B,_,F.laid (t':=s.toks) (o:=.lst ((pm.map fun i=>ss.getD i ⟨#[]⟩).map V.str)) r g ⟨?_,_,_,?_,E⟩,rfl,q _ B ?_ ?_ (F.hok.fresh g)⟩
 ·rw[ah,ah,c.length_eq,bW,aF];omega
 ·have go:∀l:List Nat,(∀i∈l,i<ss.length)->zL ((l.map fun i=>ss.getD i ⟨#[]⟩).map V.str) (l.map fun i=>its.getD i Value.none):=by
   intro l
   induction l with
   |nil=>intro _;exact .nil
   |cons i l ih=>
    intro t
    have hi:i<ss.length:=t i (az ..)
    refine .cons ?_ (ih fun j W=>t j (aC _ W))
    obtain⟨u,e1,L⟩:=v.get (i:=i) (x:=.str (ss.getD i ⟨#[]⟩)) (by rw[aw];simp[hi])
    have Y:its.getD i Value.none=u:=by rw[bK,e1];rfl
    show zR (.str (ss.getD i ⟨#[]⟩)) (its.getD i Value.none)
    rw[Y]
    exact L
  exact go pm fun i hi=>bI.mp (c.mem_iff.mp hi)
 ·have e1:(bC ss.length).map (fun i=>ss.getD i (⟨#[]⟩:Str))=ss:=by
   apply gx
   ·simp
   ·intro i Z J
    have hi:i<ss.length:=by simpa using Z
    simp[hi]
  have:=c.map (fun i=>ss.getD i (⟨#[]⟩:Str))
  rw[e1]at this
  exact this
 ·rw[bq]
  rw[bq]at n
  exact n
end
end L2
end
section
namespace Kn.Ln
open PySem L2 Kn
section
variable{ps:List (S×S)}{o m:Nat}{N L:List S}{U V:Int}
theorem zCi (a:Unit9 ps U){x:S}(b:x.length<=8):(qI ps o x).1*U^9=Wn ps o (U^9) x*(qI ps o x).2:=by
 obtain⟨c,e⟩:=zDx (o:=o) a.pos a.dvd b
 have h:=zAC (u:=Wn ps o (U^9) x) (d:=U^9) (gn a.pos)
 rw[e]at h
 exact h
theorem zJQ (a:Unit9 ps U){x:S}(b:x.length<=8):0<(qI ps o x).2:=by
 obtain⟨c,e⟩:=zDx (o:=o) a.pos a.dvd b
 rw[<-e]
 exact(gM c (gn a.pos)).dn
theorem zEx (a:Unit9 ps U)(b:Unit9 ps V){x y:S}(c:x.length<=8)(d:y.length<=8)(h:Wn ps o (U^9) x<Wn ps o (U^9) y):Wn ps o (V^9) x<Wn ps o (V^9) y:=by
 have j:=zCi (o:=o) a c
 have l:=zCi (o:=o) a d
 have n:=zCi (o:=o) b c
 have p:=zCi (o:=o) b d
 have q:=zJQ (o:=o) a c
 have py:=zJQ (o:=o) a d
 have r:0<U^9:=gn a.pos
 have w:0<V^9:=gn b.pos
 generalize qI ps o x=s at*
 generalize qI ps o y=t at*
 generalize Wn ps o (U^9) x=e at*
 generalize Wn ps o (U^9) y=f at*
 generalize Wn ps o (V^9) x=z at*
 generalize Wn ps o (V^9) y=A at*
 generalize U^9=u at*
 generalize V^9=v at*
 have pp:0<s.2*t.2:=lF q py
 have g:e*(s.2*t.2)<f*(s.2*t.2):=gj h pp
 have e1:e*(s.2*t.2)=(s.1*t.2)*u:=by rw[<-il,<-j,iw]
 have B:f*(s.2*t.2)=(t.1*s.2)*u:=by rw[fi s.2,<-il,<-l,iw]
 rw[e1,B]at g
 have C:s.1*t.2<t.1*s.2:=gp g (cZ r)
 have i:(s.1*t.2)*v<(t.1*s.2)*v:=gj C w
 have D:z*(s.2*t.2)=(s.1*t.2)*v:=by rw[<-il,<-n,iw]
 have E:A*(s.2*t.2)=(t.1*s.2)*v:=by rw[fi s.2,<-il,<-p,iw]
 rw[<-D,<-E]at i
 exact gp i (cZ pp)
theorem zRi (a:Unit9 ps U)(b:Unit9 ps V){x y:S}(c:x.length<=8)(d:y.length<=8)(h:vB (Wn ps o (U^9) x,x) (Wn ps o (U^9) y,y)):vB (Wn ps o (V^9) x,x) (Wn ps o (V^9) y,y):=by
 unfold vB qA at h⊢
 dsimp only at h⊢
 by_cases e:-Wn ps o (U^9) x=-Wn ps o (U^9) y
 ·rw[if_pos e]at h
  have f:-Wn ps o (V^9) x=-Wn ps o (V^9) y:=by
   rcases oQ (Wn ps o (V^9) x) (Wn ps o (V^9) y)with z|z|z
   ·have:=zEx (o:=o) b a c d z;omega
   ·omega
   ·have:=zEx (o:=o) b a d c z;omega
  rw[if_pos f];exact h
 ·rw[if_neg e]at h
  have g:=of_decide_eq_true h
  have i:=zEx (o:=o) a b d c (by omega)
  rw[if_neg (by omega)]
  exact decide_eq_true (by omega)
def vQ (ps:List (S×S))(o m:Nat)(N L:List S):Prop:=∃U B,Unit9 ps U/\TopN m (qY ps o U N) B/\L=B.map (·.2)
theorem vQ.at (h:vQ ps o m N L)(i:∀x∈N,x.length<=8)(n:Unit9 ps V):∃B,TopN m (qY ps o V N) B/\L=B.map (·.2):=by
 obtain⟨U,B,p,T,rfl⟩:=h
 have f:∀q∈B,q.2∈N/\q=(Wn ps o (U^9) q.2,q.2):=fun q g=>by
  obtain⟨a,b⟩:=vU.mp (T.sub q g)
  exact⟨a,eK b rfl⟩
 have tr:∀{q r:Int×S},q.2∈N->r.2∈N->q=(Wn ps o (U^9) q.2,q.2)->r=(Wn ps o (U^9) r.2,r.2)->vB q r->vB (Wn ps o (V^9) q.2,q.2) (Wn ps o (V^9) r.2,r.2):=fun{q r} a b c d z=>by
  rw[c,d]at z
  exact zRi p n (i _ a) (i _ b) z
 refine⟨B.map fun q=>(Wn ps o (V^9) q.2,q.2),⟨?_,by rw[ah];exact T.len,fun q g=>?_,fun a ha=>?_⟩,by rw[aU];rfl⟩
 ·rw[bq]
  refine cg ?_ T.srt
  intro q r g e z
  exact tr (f q g).1 (f r e).1 (f q g).2 (f r e).2 z
 ·obtain⟨r,e,rfl⟩:=av.mp g
  exact vU.mpr ⟨(f r e).1,rfl⟩
 ·obtain⟨j,s⟩:=vU.mp ha
  have l:a=(Wn ps o (V^9) a.2,a.2):=eK s rfl
  rcases T.cmp (Wn ps o (U^9) a.2,a.2) (vU.mpr ⟨j,rfl⟩)with z|⟨t,u⟩
  ·left
   rw[l]
   exact av.mpr ⟨_,z,rfl⟩
  ·right
   refine⟨by rw[ah];exact t,fun b hb=>?_⟩
   obtain⟨r,e,rfl⟩:=av.mp hb
   rw[l]
   exact tr (r:=(Wn ps o (U^9) a.2,a.2)) (f r e).1 j (f r e).2 rfl (u r e)
theorem zRj (h:N.Nodup):(qY ps o U N).Nodup:=by
 unfold qY
 rw[de,bq]
 exact h.imp fun{a b} c e=>c (bP e).2
theorem vQ.one {a:List S}(nd:N.Nodup)(b:∀x∈N,x.length<=8)(h:vQ ps o m N L)(h':vQ ps o m N a):L=a:=by
 obtain⟨U,B,c,T,rfl⟩:=h
 obtain⟨e,d,rfl⟩:=h'.at b c
 rw[TopN.unique (zRj nd) T d]
theorem vQ.mem {b:List S}(e:∀x,x∈N↔x∈b)(h:vQ ps o m N L):vQ ps o m b L:=by
 obtain⟨U,B,d,T,rfl⟩:=h
 have c:∀q,q∈qY ps o U N↔q∈qY ps o U b:=fun q=>by rw[vU,vU,e]
 exact⟨U,B,d,⟨T.srt,T.len,fun q f=>(c q).mp (T.sub q f),fun a ha=>T.cmp a ((c a).mpr ha)⟩,rfl⟩
theorem vQ.len (h:vQ ps o m N L):L.length<=m:=by
 obtain⟨U,B,a,T,rfl⟩:=h
 rw[ah];exact T.len
theorem vQ.sub (h:vQ ps o m N L){x:S}(a:x∈L):x∈N:=by
 obtain⟨U,B,c,T,rfl⟩:=h
 obtain⟨q,b,rfl⟩:=av.mp a
 exact(vU.mp (T.sub q b)).1
theorem vQ.nd (h:vQ ps o m N L):L.Nodup:=by
 obtain⟨U,B,d,T,rfl⟩:=h
 rw[de,bq]
 refine cg ?_ (k8 T.srt)
 intro a b ha hb c e
 exact c (eK (by rw[(vU.mp (T.sub a ha)).2,(vU.mp (T.sub b hb)).2,e]) e)
theorem vQ.take {k:Nat}(h:vQ ps o m N L)(g:k<=m):vQ ps o k N (L.take k):=by
 obtain⟨U,B,d,T,rfl⟩:=h
 have c:=T.srt
 rw[<-eT k B,ji]at c
 refine⟨U,B.take k,d,⟨c.1,by rw[aI];omega,fun q e=>T.sub q (cf e),fun a ha=>?_⟩,by rw[lL]⟩
 rcases T.cmp a ha with z|⟨i,f⟩
 ·rw[<-eT k B]at z
  rcases bw.mp z with z|z
  ·exact .inl z
  ·refine .inr ⟨?_,fun b hb=>c.2.2 b hb a z⟩
   have:0<(B.drop k).length:=iK z
   rw[bQ]at this
   rw[aI];omega
 ·exact .inr ⟨by rw[aI];omega,fun b hb=>f b (cf hb)⟩
theorem vQ.filter (h:vQ ps o m N L)(hl:L.length<m)(f:S->Bool):vQ ps o m (N.filter f) (L.filter f):=by
 obtain⟨U,B,g,T,rfl⟩:=h
 rw[ah]at hl
 refine⟨U,B.filter fun q=>f q.2,g,⟨T.srt.sublist nN,by have:=bX (fun q:Int×S=>f q.2) B;omega,fun q i=>?_,fun a ha=>?_⟩,by rw[List.filter_map];rfl⟩
 ·obtain⟨b,c⟩:=aL.mp i
  obtain⟨d,e⟩:=vU.mp (T.sub q b)
  exact vU.mpr ⟨aL.mpr ⟨d,c⟩,e⟩
 ·obtain⟨b,c⟩:=vU.mp ha
  obtain⟨d,e⟩:=aL.mp b
  rcases T.cmp a (vU.mpr ⟨d,c⟩)with z|⟨z,_⟩
  ·exact .inl (aL.mpr ⟨z,e⟩)
  ·omega
end
theorem zAt {c A B:Prop} [Decidable c] (a:c)(h:A):if decide c=true then A else B:=by
 rw[if_pos (decide_eq_true a)];exact h
section
variable{P:aJ}{w:aY}{K:ag}{mg:Str->Option aj}{base:bE}
abbrev sPl:c8:=top 63
theorem zJR:FnScope ["book","order","wish","name","place","pair"] ["book","order","wish","name"] (defScope sPl):=yE
def zJS (L:List S)(x:S)(v:V):Prop:=(∃i:Nat,L[i]?=some x/\v=.int ((i+1:Nat):Int))\/(x∉L/\v=.non)
def zEy (K:ag)(T:ak):Sp:=fun vs H Q _=>∃(c a:ak) (bk:List S) (o lo hi:Nat) (hd tl:S) (ba:List S) (to:Bool) (x:S),vs=[.ref c,.int o,.ref a,sv x]/\H c=some (.tup (zF bk))/\Bk bk o/\vT H a lo hi hd tl ba to/\GW lo hi hd tl ba/\(zB o bk).length<=60/\yX T H/\(∀j,j<=ba.length+bk.length->LkOk bk o lo hi hd tl (20+j))/\
 ∀H' L v,zX T H H'->yX T H'->vQ (zB o bk) o 20 (uR o bk lo hi hd tl ba to) L->zJS L x v->Q v H'
theorem zRk {f T:ak}{fd:bg}(F:Fun K "place_of" "place_of" sPl f fd)(n:mg "enumerate"=none)(p:∃t,mg "MOST_LIKELIEST"=some (.int 20 t))(Y:zV P w K mg base 6 "likeliest" ["book","order","wish","many"] (zCg K T)):FnOk P w K mg base z7 7 f fd ["book","order","wish","name"] (zEy K T):=by
 obtain⟨tM,p⟩:=p
 refine F.ok zJR (fun vs H Q E h=>?_) (fun Z A outer s H vs Q E hr h=>?_)
 ·obtain⟨c,a,bk,o,lo,hi,hd,tl,r,to,x,rfl,_⟩:=h;rfl
 ·obtain⟨c,a,bk,o,lo,hi,hd,tl,r,to,x,rfl,hc,hb,hw,gw,u,tab,C,k⟩:=h
  have nd:=zJR.nd
  refine⟨_,zQ (uE bM rfl (zRe rfl n (zC (zT Y hr rfl (zC (pv 0) (zC (pv 1) (zC (pv 2) (zC (yN (v:=.int 20) (by rfl) p ⟨_,rfl⟩) zD))))) zD)) (kO rfl (yW (z8 (i:=4) nd rfl (Or.inl rfl)) (yW (z8 (i:=5) nd rfl (Or.inl rfl)) uS)))
    (zK (yV (vY zAz (yM vE (pv 5) zO (fun _ _=>rfl)) (pv 3) (vD _)) (zK (z6 (pv 4))) yU)))
   (zK (z6 zFD)),?_⟩
  refine⟨_,rfl,_,rfl,_,rfl,c,a,bk,o,lo,hi,hd,tl,r,to,20,rfl,hc,hb,hw,gw,u,by decide,by decide,tab,C,fun D H1 U B N tb hD hU hT O=>?_⟩
  have G:vQ (zB o bk) o 20 (uR o bk lo hi hd tl r to) (B.map (·.2)):=⟨U,B,hU,hT,rfl⟩
  generalize B.map (·.2)=L at O G
  obtain⟨ts,R,W,h3⟩:=O
  refine⟨D,ts,rfl,R,?_⟩
  refine zRf (K:=K) (xs:=ts) (fun i σ l=>(∃y z:Option V,σ=[some (.ref c),some (.int o),some (.ref a),some (sv x),y,z])/\zA H1 l/\x∉L.take i)
   ⟨⟨_,_,rfl⟩,zA.refl _,by simp⟩ (fun i σ l _ h=>.of (h.2.1 _ _ R)) ?_ ?_
  ·rintro i y Tt σ l Nx hN X ⟨⟨y4,y5,rfl⟩,g,d⟩ I
   have j:i<L.length:=by rw[<-W];exact(ai.mp X).1
   obtain⟨b,v,e1,e2,e3⟩:=h3 i L[i] (aq j)
   rw[X]at e1
   cases e1
   have m:zA l (upd l Tt (.tup [.int ((i+1:Nat):Int),.ref b])):=zA.upd1 I
   have J:L.take (i+1)=L.take i++[L[i]]:=aB j
   have M:L[i]?=some L[i]:=aq j
   generalize L[i]=z at*
   refine⟨Tt,_,rfl,.of zE,rfl,_,_,rfl,_,_,rfl,rfl,?_⟩
   refine⟨_,rfl,b,_,1,sv z,rfl,rfl,(g.trans m).seqT e2,rfl,_,rfl,rfl,_,rfl,?_⟩
   by_cases hz:z=x
   ·subst hz
    refine zAt rfl ?_
    refine⟨_,rfl,k _ L _ (N.trans (zX.of (g.trans m))) (uJ tb (g.trans m)) G (.inl ⟨i,M,rfl⟩)⟩
   ·refine uZ (fun e=>hz (jE (V.str.inj e))) ?_
    refine hN _ _ ⟨⟨_,_,rfl⟩,g.trans m,?_⟩
    rw[J,bw]
    rintro(q|q)
    ·exact d q
    ·exact hz (aS.mp q).symm
  ·rintro σ l ⟨⟨y4,y5,rfl⟩,g,d⟩
   rw[W,bo]at d
   exact k _ L _ (N.trans (zX.of g)) (uJ tb g) G (.inr ⟨d,rfl⟩)
end
section
variable{K:ag}{H H':Hp}{T D:ak}{ps:List (S×S)}{o:Nat}{L:List S}{ts:List V}
theorem sqX {c:ak}{xs:List V}(h:zY K H c xs)(e:zX T H H')(tb:yX T H):zY K H' c xs:=by
 rcases h with h|h
 ·left
  have a:c≠T:=fun z=>zAI tb _ (by rw[<-z];exact h)
  rcases h with h|⟨b,h⟩
  ·exact .inl (e _ _ a h)
  ·exact .inr ⟨b,e _ _ a h⟩
 ·exact .inr h
def v8 (K:ag)(H:Hp)(ps:List (S×S))(o:Nat)(ts:List V)(L:List S):Prop:=ts.length=L.length/\∀(i:Nat) (x:S),L[i]?=some x->∃a v,ts[i]?=some (.ref a)/\zY K H a [v,sv x]/\vA K H v (qI ps o x)
theorem v8.sameX (h:v8 K H ps o ts L)(e:zX T H H')(tb:yX T H):v8 K H' ps o ts L :=
 ⟨h.1,fun i x hi=>let⟨a,v,e1,b,c⟩:=h.2 i x hi;⟨a,v,e1,sqX b e tb,e.frA (zAI tb) c⟩⟩
theorem v8.same (h:v8 K H ps o ts L)(e:zA H H'):v8 K H' ps o ts L :=
 ⟨h.1,fun i x hi=>let⟨a,v,e1,b,c⟩:=h.2 i x hi;⟨a,v,e1,e.seqT b,c.same e⟩⟩
theorem v8.take (h:v8 K H ps o ts L)(k:Nat):v8 K H ps o (ts.take k) (L.take k):=by
 refine⟨by rw[aI,aI,h.1],fun i x hi=>?_⟩
 have b:i<k:=by
  have:=(ai.mp hi).1
  rw[aI]at this;omega
 rw[fu b]at hi
 obtain⟨a,v,e1,c⟩:=h.2 i x hi
 exact⟨a,v,by rw[fu b];exact e1,c⟩
theorem v8.nil:v8 K H ps o [] []:=⟨rfl,fun i x hi=>by cases hi⟩
theorem v8.snoc (h:v8 K H ps o ts L){a:ak}{v:V}{x:S}(e:zY K H a [v,sv x])(f:vA K H v (qI ps o x)):v8 K H ps o (ts++[.ref a]) (L++[x]):=by
 refine⟨by rw[au,au,h.1];rfl,fun i y hi=>?_⟩
 by_cases c:i<L.length
 ·rw[aT c]at hi
  obtain⟨b,u,g,j⟩:=h.2 i y hi
  exact⟨b,u,by rw[aT (by rw[h.1];exact c)];exact g,j⟩
 ·rw[aP (by omega)]at hi
  have l:i-L.length<1:=(ai.mp hi).1
  have d:i-L.length=0:=by omega
  rw[d]at hi
  have:y=x:=(aD hi).symm
  subst this
  exact⟨a,v,by rw[aP (by have:=h.1;omega),h.1,d];rfl,e,f⟩
theorem jX:qD K H D ps o L↔∃ts,H D=some (.lst ts)/\v8 K H ps o ts L:=ub
theorem zBt (xs:List V)(k:Nat)(b:k<=1000):v2 xs none (some (k:Int))=xs.take k:=by
 unfold v2
 have e1:HT.sIx xs.length 0 none=0:=rfl
 have a:HT.sIx xs.length xs.length (some (k:Int))=min k xs.length:=by
  unfold HT.sIx
  simp
  try omega
 rw[e1,a,eO,iH,List.take_eq_take_iff]
 omega
structure EnvP (K:ag) (T:ak) (H:Hp) (b pw rD nD:ak) (o:Nat) (bk:List S) (lo hi:Nat) (hd tl:S) (ba:List S) (to:Bool) (L:List S):Prop where
 hb:H b=some (.tup (zF bk))
 ws:vT H pw lo hi hd tl ba to
 rw:qD K H rD (zB o bk) o L
 nm:H nD=some (.lst (zF L))
 tb:yX T H
variable{b pw rD nD:ak}{bk:List S}{lo hi:Nat}{hd tl:S}{ba:List S}{to:Bool}
theorem zAu {xs:List V}{c:ak}(h:H c=some (.tup xs))(e:zX T H H')(tb:yX T H):H' c=some (.tup xs):=e _ _ (kK tb h fun _=>nofun) h
theorem zJT {lo hi:Int}(h:vT H pw lo hi hd tl ba to)(e:zX T H H')(tb:yX T H):vT H' pw lo hi hd tl ba to:=by
 obtain⟨a,c,d⟩:=h
 exact⟨a,zAu c e tb,zAu d e tb⟩
theorem qD.sameT (h:qD K H D ps o L)(e:zX T H H')(tb:yX T H):qD K H' D ps o L:=by
 obtain⟨ts,a,c⟩:=jX.mp h
 exact jX.mpr ⟨ts,e _ _ (kK tb a fun _=>nofun) a,c.sameX e tb⟩
theorem qD.same (h:qD K H D ps o L)(e:zA H H'):qD K H' D ps o L:=by
 obtain⟨ts,a,c⟩:=jX.mp h
 exact jX.mpr ⟨ts,e _ _ a,c.same e⟩
theorem EnvP.sameX (h:EnvP K T H b pw rD nD o bk lo hi hd tl ba to L)(e:zX T H H')(a:yX T H'):EnvP K T H' b pw rD nD o bk lo hi hd tl ba to L :=
 ⟨zAu h.hb e h.tb,zJT h.ws e h.tb,h.rw.sameT e h.tb,e _ _ (kK h.tb h.nm fun _=>nofun) h.nm,a⟩
theorem EnvP.same (h:EnvP K T H b pw rD nD o bk lo hi hd tl ba to L)(e:zA H H'):EnvP K T H' b pw rD nD o bk lo hi hd tl ba to L :=
 ⟨e _ _ h.hb,h.ws.same e,h.rw.same e,e _ _ h.nm,uJ h.tb e⟩
def zCj (ps:List (S×S))(o:Nat)(ns:List S):List bG:=ns.map fun x=>.tuple [.tuple [.int (qI ps o x).1,.int (qI ps o x).2],.str (tx x)]
theorem zAv (h:qD K H D ps o L):vN K H (.list (zCj ps o L)) (.ref D):=by
 obtain⟨ts,e,c,f⟩:=h
 refine⟨D,ts,rfl,.of e,?_⟩
 clear e
 induction L generalizing ts with
 |nil=>
  have:ts=[]:=cq.mp c
  subst this;rfl
 |cons x ns ih=>
  cases ts with
  |nil=>cases c
  |cons t ts=>
   obtain⟨a,v,e1,g,j⟩:=f 0 x rfl
   have d:t=.ref a:=aD e1
   subst d
   refine⟨_,ts,rfl,⟨a,_,rfl,g,v,[sv x],rfl,j.rep,sv x,[],rfl,rfl,rfl⟩,ih ts (by simpa using c) fun i y l=>f (i+1) y l⟩
theorem zRl (h:∀x∈L,x.length<=900/\∀c∈x,c<=122)(hl:L.length<=900):v7 8 (.list (zCj ps o L)):=by
 refine okL (n:=7) (fun d hd=>?_) (by unfold zCj;rw[ah];exact hl)
 obtain⟨x,g,rfl⟩:=av.mp hd
 refine vO (n:=6) (fun e f=>?_) (by show 2<=900;decide)
 rcases aG.mp f with rfl|f
 ·refine vO (n:=5) (fun i hi=>?_) (by show 2<=900;decide)
  have a:∀j:Int,v7 5 (.int j):=fun j=>⟨rfl,rfl,by simp only[eD];decide⟩
  rcases aG.mp hi with rfl|hi
  ·exact a _
  ·rw[aS.mp hi];exact a _
 ·rw[aS.mp f]
  exact(zCc (h x g).2 (h x g).1).mono (by decide)
end
section
variable{o:Nat}{bk:List S}{lo hi:Nat}{hd tl:S}{ba:List S}{to:Bool}
theorem zCk (ha:Abc bk){x:S}(h:zBT (zB o bk) o x):∀c∈x,c=97\/c=98\/c=122:=fun c b=>by
 obtain⟨i,hi⟩:=List.getElem?_of_mem b
 have a:i<x.length:=(ai.mp hi).1
 have d:(zW (x.take i) o,[c])∈zB o bk:=h _ (by
  rw[zBO]
  refine cb _ (av.mpr ⟨i,bI.mpr a,?_⟩)
  rw[(ai.mp hi).2.symm]
  congr 1
  rw[lg a];rfl)
 obtain⟨nm,e,p,g,_,f⟩:=zCh d
 exact ha nm e c (nC (cf (by rw[f];exact cU _)))
theorem zRm {f:List S}{g:S}(h:∀x,x∈f↔x∈ba\/x=g)(x:S):x∈(uR o bk lo hi hd tl ba to).filter (fun x=>decide (x≠g))↔x∈uR o bk lo hi hd tl f to:=by
 rw[aL,gB,gB]
 have e:jJ bk f to x=(decide (x=g)||jJ bk ba to x):=by
  unfold jJ
  by_cases i:x∈ba
  ·rw[decide_eq_true ((h x).mpr (.inl i)),decide_eq_true i];simp
  ·by_cases j:x=g
   ·rw[decide_eq_true ((h x).mpr (.inr j)),decide_eq_true j];simp
   ·rw[decide_eq_false (fun z=>((h x).mp z).elim i j),decide_eq_false i,decide_eq_false j];simp
 rw[e,Bool.or_eq_false_iff,decide_eq_true_eq,decide_eq_false_iff_not]
 constructor
 ·rintro⟨⟨a,b,c⟩,d⟩;exact⟨a,b,d,c⟩
 ·rintro⟨a,b,d,c⟩;exact⟨⟨a,b,c⟩,d⟩
theorem zRn {c:Nat}(x:S):x∈(uR o bk lo hi hd tl ba to).filter (fun x=>decide (x.take (hd.length+1)=hd++[c]))↔x∈uR o bk lo hi (hd++[c]) tl ba to:=by
 rw[aL,gB,gB,decide_eq_true_eq]
 unfold zAQ
 rw[au,br]
 constructor
 ·rintro⟨⟨⟨b,d,g,e⟩,f⟩,a⟩;exact⟨⟨b,d,a,e⟩,f⟩
 ·rintro⟨⟨b,d,a,e⟩,f⟩
  refine⟨⟨⟨b,d,?_,e⟩,f⟩,a⟩
  have:=congrArg (List.take hd.length) a
  rw[List.take_take,fL (ay _),bo,p9 (by omega)]at this
  exact this
end
theorem zRo {B:List S}{o:Nat}(h:∀x∈B,x.length<=3):(zB o B).length<=4*B.length:=by
 have a:((zB o B).length:Int)<=4*(B.length:Int):=by
  rw[zBr]
  have go:∀l:List S,(∀x∈l,x.length<=3)->(l.map fun x=>(x.length:Int)+1).sum<=4*(l.length:Int):=by
   intro l
   induction l with
   |nil=>intro _;simp
   |cons x r ih=>
    intro hl
    have c:=hl x (az ..)
    have a:=ih fun y b=>hl y (aC _ b)
    rw[aR,cw,aM]
    have:((r.length+1:Nat):Int)=(r.length:Int)+1:=rfl
    omega
  exact go B h
 omega
theorem zRp {X:Cx}(i:ag)(j:X.K=i){o e:bJ}{c:List bJ}{to:TE}{t:TA}{name:Str}{apos a:Pos}{T id:String}{r:V->List V->Hp->VK->Prop}(l:n6 T)(slot:Slot T name id)(h:typeOf (.builtin id)=pure (.type "method_descriptor"))(m:gH X id r)(n:PE X o to)(ha:PA X (e::c) t)
  (d:attributeBase o name X.env (eval o X.env)=eval o X.env:=by rfl)
  (g:((backTo a (starEach (e::c) X.env)).all (fun x=>!x.1)&& (backToKw a (keywordEach [] X.env)).all (fun x=>x.1.isSome)
   &&decide ((e::c).length+([]:List mm).length+(if([]:List mm).isEmpty then 0 else 1)<30))=true:=by rfl)
  (f:(apos.endLine==a.line)=true:=by rfl) (p:starEach (e::c) X.env=(false,eval e X.env)::starEach c X.env:=by rfl) (b:(backTo a (starEach c X.env)).any (·.1)=false:=by rfl) :
  PE X (.Call (.Attribute o name apos) (e::c) [] a) (tBM i T r to t):=by
 subst j
 exact jM l slot h m n ha d g f p b
theorem zJU {K:ag}{H b:Hp}{T a:ak}{xs:List V}(h:zZ K H a xs)(e:zX T H b)(tb:yX T H):zZ K b a xs:=by
 rcases h with z|z
 ·left
  have hz:a≠T:=fun q=>by
   obtain⟨f,c⟩:=kH tb
   rw[q]at z
   rcases z with z|⟨d,z⟩
   ·rw[c]at z;cases z
   ·rw[c]at z;cases z
  rcases z with z|⟨d,z⟩
  ·exact .inl (e _ _ hz z)
  ·exact .inr ⟨d,e _ _ hz z⟩
 ·exact .inr z
def zAR:List S:=[[122,122,122,122],[97,98,97,98],[98]]
theorem zRq:[V.str "zzzz",V.str "abab",V.str "b"]=zF zAR:=by rfl
theorem zRr {α:Type}{L:List α}(h:L.Nodup){i j:Nat}{x:α}(e:L[i]?=some x)(f:L[j]?=some x):i=j:=by
 obtain⟨a,b⟩:=ai.mp e
 obtain⟨c,d⟩:=ai.mp f
 rw[de,gz]at h
 rcases oM i j with z|z|z
 ·exact absurd (b.trans d.symm) (h i j a c z)
 ·exact z
 ·exact absurd (d.trans b.symm) (h j i c a z)
theorem zRs {D:Ends}{σ:St}{H:Hp}(h:D.nx σ H):zFI D σ H:=h
def gQ:List S:=[[97],[98]]
theorem zRt:[V.str "a",V.str "b"]=zF gQ:=by rfl
theorem zRu {e:S}{c:Nat}(h:e=[]\/(vI e/\e.length<=3))(hl:e.length<3)(a:97<=c/\c<=122):vI (e++[c])/\(e++[c]).length<=3:=by
 refine⟨⟨by rw[au,br];omega,by rw[au,br];omega,fun x b=>?_⟩,by rw[au,br];omega⟩
 rcases bw.mp b with z|z
 ·rcases h with h|h
  ·rw[h]at z;cases z
  ·exact h.1.2.2 x z
 ·rw[aS.mp z];exact a
theorem zRv (L:List S):dX (.list (L.map fun x=>PyData.str (tx x))) (.list [])=L.isEmpty:=by
 cases L<;>rfl
theorem zRw (z:Str):tx z.cps.toList=z:=MyS.Str_ext (by rw[vW])
theorem zRx (a b:S):tx a++tx b=tx (a++b):=by
 refine MyS.Str_ext ?_
 show((tx a).cps++(tx b).cps).toList=_
 rw[Array.toList_append,vW,vW,vW]
section
variable{P:aJ}{w:aY}{K:ag}{mg:Str->Option aj}{base:bE}
structure LawC (P:aJ) (w:aY) (K:ag) (mg:Str->Option aj) (base:bE) (T:ak):Prop where
 dr:zV P w K mg base 2 "_law_drawn" ["_law_script","_law_k","_law_many"] (zBw K)
 bk:zV P w K mg base 4 "_law_book" ["_law_script","_law_at","_law_many","_law_most"] (zHK K)
 ws:zV P w K mg base 3 "_law_wish" ["_law_script","_law_at"] (zIv K)
 lk:zV P w K mg base 6 "likeliest" ["book","order","wish","many"] (zCg K T)
 pl:zV P w K mg base 7 "place_of" ["book","order","wish","name"] (zEy K T)
 ft:zV P w K mg base 5 "fits" ["book","wish","name"] zJK
def zBX (K:ag)(T:ak):Sp:=fun vs H Q _=>∃(a:ak) (ns:List Int),vs=[.ref a]/\zZ K H a (ns.map V.int)/\ns.length<=63/\yX T H/\∀H',Q (.bl true) H'
abbrev kL:c8:=top 70
theorem zJV:FnScope ["_law_script","_law_book_here","_law_order","_law_wish_here","_law_rows","_law_names","_law_k","_law_name_here","_law_gone","_law_fewer","_law_letter","_law_narrow","_law_some"] ["_law_script"] (defScope kL):=yE
theorem zJW:(["_law_part","_law_name_here"]:List Str).Nodup:=by decide+kernel
theorem zRy:(["_law_gone","_law_row"]:List Str).Nodup:=by decide+kernel
theorem zRz:(["_law_narrow","_law_row"]:List Str).Nodup:=by decide+kernel
theorem zSA:(["_law_book_here","_law_wish_here","_law_name_here"]:List Str).Nodup:=by decide+kernel
theorem zSB {f T:ak}{fd:bg}(F:Fun K "law" "law" kL f fd)(B:Blt mg)(hen:mg "enumerate"=none)(C:LawC P w K mg base T):FnOk P w K mg base z7 8 f fd ["_law_script"] (zBX K T):=by
 refine F.ok zJV (fun vs H Q E h=>?_) (fun cdv A outer s H vs Q E hr h=>?_)
 ·obtain⟨a,ns,rfl,_⟩:=h;rfl
 ·obtain⟨a,ns,rfl,ha,hl,tab,k⟩:=h
  have nd:=zJV.nd
  have hu:=hr.units
  have r6:=hr.mono (j:=6) (by decide)
  have r5:=hr.mono (j:=5) (by decide)
  have r4:=hr.mono (j:=4) (by decide)
  have r3:=hr.mono (j:=3) (by decide)
  have r2:=hr.mono (j:=2) (by decide)
  refine⟨_,zQ (yH (i:=1) nd rfl (Or.inr rfl) (zT C.bk r4 rfl (z5 (pv 0) (z5 zO (z5 zO (z5 zO zD))))))
   (zQ (yH (i:=2) nd rfl (Or.inl rfl) (zS yY zO (zT C.dr r2 rfl (z5 (pv 0) (z5 zO (z5 zO zD))))))
   (zQ (yH (i:=3) nd rfl (Or.inr rfl) (zT C.ws r3 rfl (z5 (pv 0) (z5 zO zD))))
   (zQ (yH (i:=3) nd rfl (Or.inr rfl) (zS gO (zS gO (j2 zAN (pv 3) jB (qF zO)) (v9 (z5 (yL (zKZ rfl) (by rfl) B.min sY (z5 zO (z5 (yM vE (pv 3) zO (fun _ _=>rfl)) zD))) zD))) (j2 zAN (pv 3) (qF zO) jB)))
   (zQ (yH (i:=4) nd rfl (Or.inl rfl) (zT C.lk r6 rfl (z5 (pv 1) (z5 (pv 2) (z5 (pv 3) (z5 zO zD))))))
   (zQ (zIr (j:=5) (N:=["_law_part","_law_name_here"]) (caps:=[]) nd rfl (Or.inl rfl) rfl (uH (by kernel_rfl)) (jA (pv 4))
     (fun cl X s H ex=>zAF K 2 rfl rfl (yW (z8 (i:=0) zJW rfl (Or.inl rfl)) (yW (z8 (i:=1) zJW rfl (Or.inl rfl)) uS)) rfl rfl) (fun cl X s H ex=>qP) (fun cl X s H ex=>pv 1))
   (zQ (uE bM rfl (zGc rfl hen (z5 (j2 zCv (pv 5) jB (qF zO)) zD)) (kO rfl (yW (z8 (i:=6) nd rfl (Or.inl rfl)) (yW (z8 (i:=7) nd rfl (Or.inl rfl)) uS)))
    (zQ (yV (vY zAX (zT C.pl hr rfl (z5 (pv 1) (z5 (pv 2) (z5 (pv 3) (z5 (pv 7) zD))))) (zS yY (pv 6) zO) (vD _)) (zK (z6 qN)) yU)
    (zK (yV (vY (zBj hu) (zT C.lk r6 rfl (z5 (pv 1) (z5 (pv 2) (z5 (pv 3) (z5 (zS yY (pv 6) zO) zD))))) (j2 zCv (pv 4) jB (qF (zS yY (pv 6) zO))) (vD _)) (zK (z6 qN)) yU))))
   (zQ (uE bM rfl (zAx (v9 (z5 y9 (z5 y9 (z5 y9 zD))))) (z8 (i:=7) nd rfl (Or.inl rfl))
    (zK (yV (vY zAX (qO zKW (zT C.pl hr rfl (z5 (pv 1) (z5 (pv 2) (z5 (pv 3) (z5 (pv 7) zD))))) zFD (vD _)) (qO zCw (pv 7) (pv 5) (by with_unfolding_all rfl)) (vD _)) (zK (z6 qN)) yU)))
   (zQ (yV (PW.pt (zFG (vY (zBj hu) (pv 5) (uG zD) (vD _)) (zFG (vY zBA (yL j4 (by rfl) B.len bL (z5 (yM vE (pv 3) zO (fun _ _=>rfl)) zD)) zO (vD _)) (zJr (vY zBA (yL j4 (by rfl) B.len bL (z5 (pv 5) zD)) zO (vD _))))))
     (zQ (yH (i:=8) nd rfl (Or.inr rfl) (yM zBE (pv 5) (zT C.dr r2 rfl (z5 (pv 0) (z5 zO (z5 (yL j4 (by rfl) B.len bL (z5 (pv 5) zD)) zD)))) (fun _ _=>rfl)))
     (zQ (yH (i:=9) nd rfl (Or.inl rfl) (zS gO (zS gO (j2 zAN (pv 3) jB (qF zO)) (v9 (z5 (gY zFh (by rfl) B.tuple ef (z5 (yL (zRh rfl) (by rfl) B.sorted lN (z5 (zS gO (yM vE (pv 3) zO (fun _ _=>rfl)) (v9 (z5 (pv 8) zD))) zD)) zD)) zD))) (j2 zAN (pv 3) (qF zO) jB)))
     (zK (yV (vY (zBj hu) (zT C.lk r6 rfl (z5 (pv 1) (z5 (pv 2) (z5 (pv 9) (z5 zO zD)))))
      (uY (N:=["_law_gone","_law_row"]) (caps:=[8]) rfl (uH (by kernel_rfl)) (jA (pv 4)) (fun cl X s H ex=>z8 (i:=1) zRy rfl (Or.inl rfl)) (fun cl X s H ex=>zBi (vY zAX (yM (zCf K rfl) (pv 1) zO (fun _ _=>rfl)) (pv 0) (vD _))) (fun cl X s H ex=>pv 1)) (vD _)) (zK (z6 qN)) yU)))) yU)
   (zQ (yV (vY zBA (yL j4 (by rfl) B.len bL (z5 (pv 5) zD)) zO (vD _))
     (zK (uE bM rfl (zAx (v9 (z5 y9 (z5 y9 zD)))) (z8 (i:=10) nd rfl (Or.inl rfl))
      (zQ (yH (i:=11) nd rfl (Or.inr rfl) (zS gO (zS gO (j2 zAN (pv 3) jB (qF zO)) (v9 (z5 (zS zCs (yM vE (pv 3) zO (fun _ _=>rfl)) (pv 10)) zD))) (j2 zAN (pv 3) (qF zO) jB)))
      (zK (yV (vY zBA (yL j5 (by rfl) B.len bL (z5 (yM vE (pv 11) zO (fun _ _=>rfl)) zD)) zO (vD _))
       (zQ (zIr (j:=12) (N:=["_law_narrow","_law_row"]) (caps:=[11]) nd rfl (Or.inl rfl) rfl (uH (by kernel_rfl)) (jA (pv 4)) (fun cl X s H ex=>z8 (i:=1) zRz rfl (Or.inl rfl))
         (fun cl X s H ex=>zBi (vX (zRp K rfl fT jy jz zIY (yM (zCf K rfl) (pv 1) zO (fun _ _=>rfl)) (z5 (yM (zCf K rfl) (pv 0) zO (fun _ _=>rfl)) zD)))) (fun cl X s H ex=>pv 1))
       (zK (yV (vY (zBj hu) (zT C.lk r6 rfl (z5 (pv 1) (z5 (pv 2) (z5 (pv 11) (z5 zO zD))))) (pv 12) (vD _)) (zK (z6 qN)) yU))) yU))))) yU)
   (zK (z6 (qO (zDB hu) (uY (N:=["_law_book_here","_law_wish_here","_law_name_here"]) (caps:=[1,3]) rfl (uH (by kernel_rfl)) (jA (pv 5)) (fun cl X s H ex=>z8 (i:=2) zSA rfl (Or.inl rfl)) (fun cl X s H ex=>zBi (v1 (vX (zT C.ft r5 rfl (z5 (pv 0) (z5 (pv 1) (z5 (pv 2) zD))))))) (fun cl X s H ex=>pv 2)) (uG zD) (vD _))))))))))))),?_⟩
  refine⟨_,rfl,a,ns,0,3,3,rfl,ha,hl,by decide,by decide,by decide,by decide,fun b bk H1 s1 hb1 bl1 bl2 bn=>?_⟩
  refine⟨_,rfl,a,ns,50,3,rfl,s1.seq ha,hl,by decide,by decide,fun d2 H2 hd2 s2'=>⟨_,_,rfl,rfl,?_⟩⟩
  have s2:=s1.trans s2'
  obtain⟨o,ho,o1,o3⟩:∃o:Nat,(1:Int)+(d2:Int)=(o:Int)/\1<=o/\o<=3:=⟨1+d2,by omega,by omega,by omega⟩
  dsimp only
  rw[ho]
  refine⟨_,rfl,a,ns,60,rfl,s2.seq ha,hl,fun pw0 lo hi hd tl ba to H3 s3' gw lw hw=>?_⟩
  have s3:=s2.trans s3'
  have tab3:=uJ tab s3
  have hb3:=s3' _ _ (s2' _ _ hb1)
  have ha3:=s3.seq ha
  clear s1 s2' s2 s3' s3 hb1 ha tab
  have isb:isBk bk:=⟨bl1,by omega,fun x hx=>(bn x hx).1⟩
  have hB:Bk bk o:=⟨isb,o1,o3⟩
  have abc:Abc bk:=fun x hx c hc=>(bn x hx).2.2 c hc
  have sh3:Sh3 bk:=fun x hx=>(bn x hx).2.1
  have p60:(zB o bk).length<=60:=by
   have:=zRo (o:=o) fun x hx=>(bn x hx).2.1
   omega
  obtain⟨lo,hi,rfl,rfl,hl1,hlh,hh8,hd3,tl3⟩:=gw.nats
  have hi4:hi<=4:=by have:=lw.2.1;omega
  obtain⟨bb,hpw,hbb⟩:=hw
  refine⟨_,rfl,1,rfl,pw0,_,rfl,hpw,fun p1 H4 t4 hp1=>?_⟩
  refine⟨_,rfl,pw0,_,1,.int hi,rfl,rfl,.of (t4 _ _ hpw),rfl,_,_,rfl,by show 1<=sizeLine;decide,fun p2 hp2=>?_⟩
  have emn:(if(hi:Int)<4 then(hi:Int)else 4)=(hi:Int):=by
   by_cases z:(hi:Int)<4
   ·rw[if_pos z]
   ·rw[if_neg z];omega
  rw[emn]
  have t5:zA H4 (upd H4 p2 (.tup [.int (hi:Int)])):=zA.upd1 hp2
  have hp2':upd H4 p2 (.tup [.int (hi:Int)]) p2=some (.tup [.int (hi:Int)]):=zE
  generalize upd H4 p2 (.tup [.int (hi:Int)])=H5 at t5 hp2'
  refine⟨p1,p2,_,_,rfl,rfl,t5 _ _ hp1,hp2',by rw[aF];show 1+1<=_;omega,fun p3 H6 t6 hp3=>?_⟩
  have t46:=t4.trans (t5.trans t6)
  refine⟨_,rfl,2,rfl,pw0,_,rfl,t46 _ _ hpw,fun p4 H7 t7 hp4=>?_⟩
  refine⟨p3,p4,_,_,rfl,rfl,t7 _ _ hp3,hp4,by rw[aF];show 2+4<=_;omega,fun pw H8 t8 hpw8=>?_⟩
  have t48:=(t46.trans t7).trans t8
  have hw8:vT H8 pw lo hi hd tl ba to:=⟨bb,hpw8,t48 _ _ hbb⟩
  have hb8:=t48 _ _ hb3
  have tab8:=uJ tab3 t48
  have ha8:=t48.seq ha3
  clear t4 hp1 hp2 t5 hp2' t6 hp3 t46 t7 hp4 t8 hpw8 t48 hpw hbb hb3 tab3 ha3 emn p1 p2 p3 p4 H4 H5 H6 H7 H3
  have lkok:∀{hd' tl':S} {n:Nat},1<=n->n<=36->LkOk bk o lo hi hd' tl' n:=fun h1 h2=>zRW o1 abc sh3 (by omega) h1 h2 hl1 hi4
  refine⟨_,rfl,_,rfl,_,rfl,b,pw,bk,o,lo,hi,hd,tl,ba,to,20,rfl,hb8,hB,hw8,gw,p60,by decide,by decide,tab8,fun j hj=>lkok (by omega) (by have:=gw.len;omega),fun rD H9 U BB sx9 tab9 hrD hU hT hL=>?_⟩
  have hS:vQ (zB o bk) o 20 (uR o bk lo hi hd tl ba to) (BB.map (·.2)):=⟨U,BB,hU,hT,rfl⟩
  generalize BB.map (·.2)=L at hL hS
  have hb9:=zAu hb8 sx9 tab8
  have hw9:=zJT hw8 sx9 tab8
  have ha9:zZ K H9 a (ns.map V.int):=zJU ha8 sx9 tab8
  clear hT hU U BB hrD hb8 hw8 tab8 ha8 sx9
  have l8:∀x∈uR o bk lo hi hd tl ba to,x.length<=8:=zEv hh8
  have L20:=hS.len
  have Lnd:=hS.nd
  have okL':∀{M:List S},(∀x∈M,x∈L)->M.length<=20->v7 8 (.list (zCj (zB o bk) o M)):=fun{M} h1 h2=>zRl (fun x hx=>⟨by have:=l8 x (hS.sub (h1 x hx));omega,fun c hc=>by rcases zCk abc (gB.mp (hS.sub (h1 x hx))).2.1 c hc with z|z|z<;>omega⟩) (by omega)
  obtain⟨ts,q1,q2⟩:=jX.mp hL
  refine⟨_,rfl,rD,rfl,⟨_,.of q1⟩,?_⟩
  refine j7 (jD K rD ts) [] 2 (by rw[q2.1];omega) (fun i acc G=>G=H9/\acc=zF (L.take i))
   ⟨rfl,rfl⟩ (fun i acc G _ h=>⟨.of (by rw[h.1];exact q1),by rw[h.2];unfold zF;rw[ah,aI];omega⟩) ?_ ?_
  ·rintro i x acc G ys Nx hN hx hy ⟨rfl,rfl⟩
   have hi':i<L.length:=by rw[<-q2.1];exact(ai.mp hx).1
   obtain⟨c,v,e1,e2,e3⟩:=q2.2 i L[i] (aq hi')
   rw[hx]at e1
   cases e1
   have etk:L.take (i+1)=L.take i++[L[i]]:=aB hi'
   match ys,hy with
   | [y1,y2],_=>
    refine⟨c,_,rfl,e2,rfl,_,_,rfl,_,_,rfl,rfl,_,rfl,hN _ _ [_,_] rfl ⟨rfl,?_⟩⟩
    rw[etk];unfold zF;rw[aQ];rfl
  rintro acc G ⟨rfl,rfl⟩ nD hnD
  rw[q2.1,bo]at*
  have t10:zA G (upd G nD (.lst (zF L))):=zA.upd1 hnD
  have E10:EnvP K T (upd G nD (.lst (zF L))) b pw rD nD o bk lo hi hd tl ba to L:=⟨t10 _ _ hb9,hw9.same t10,hL.same t10,zE,uJ tab9 t10⟩
  have ha10:=t10.seq ha9
  generalize upd G nD (.lst (zF L))=H10 at t10 E10 ha10
  clear t10 hnD q1 q2 ts hb9 hw9 hL tab9 ha9
  have LK:∀{G:Hp} {pw':ak} {m:Nat} {mv:Int} {hd':S} {ba':List S} {Z:VK},mv=(m:Int)->EnvP K T G b pw rD nD o bk lo hi hd tl ba to L->vT G pw' lo hi hd' tl ba' to->GW lo hi hd' tl ba'->1<=m->m<=20->
    (∀D G' L',EnvP K T G' b pw rD nD o bk lo hi hd tl ba to L->zX T G G'->G D=none->vQ (zB o bk) o m (uR o bk lo hi hd' tl ba' to) L'->qD K G' D (zB o bk) o L'->Z (.ref D) G')->zCg K T [.ref b,.int o,.ref pw',.int mv] G Z E0:=fun{G pw' m mv hd' ba' Z} hmv EG hw gw' h1 h2 hZ=>
   hmv▸ ⟨b,pw',bk,o,lo,hi,hd',tl,ba',to,m,rfl,EG.hb,hB,hw,gw',p60,h1,h2,EG.tb,fun j hj=>lkok (by omega) (by have:=gw'.len;omega),fun D G' U BB sx tb hD hU hT hL=>hZ D G' _ (EG.sameX sx tb) sx hD ⟨U,BB,hU,hT,rfl⟩ hL⟩
  have PL:∀{G:Hp} {x:S} {Z:VK},EnvP K T G b pw rD nD o bk lo hi hd tl ba to L->(∀G' v,EnvP K T G' b pw rD nD o bk lo hi hd tl ba to L->zX T G G'->zJS L x v->Z v G')->zEy K T [.ref b,.int o,.ref pw,sv x] G Z E0:=fun{G x Z} EG hZ=>
   ⟨b,pw,bk,o,lo,hi,hd,tl,ba,to,x,rfl,EG.hb,hB,EG.ws,gw,p60,EG.tb,fun j hj=>lkok (by omega) (by have:=gw.len;omega),fun G' L' v sx tb hS' hp=>hZ G' v (EG.sameX sx tb) sx (by rw[hS.one (zCe ..) l8 hS'];exact hp)⟩
  refine⟨_,rfl,4,rfl,nD,_,rfl,.of E10.nm,fun cD hcD=>?_⟩
  have ecut:v2 (zF L) none (some 4)=zF (L.take 4):=by
   have:=zBt (zF L) 4 (by decide)
   unfold zF at this⊢
   rw[lL];exact this
  rw[ecut]
  have t11:zA H10 (upd H10 cD (.lst (zF (L.take 4)))):=zA.upd1 hcD
  have E11:=E10.same t11
  have ha11:=t11.seq ha10
  have hc11:upd H10 cD (.lst (zF (L.take 4))) cD=some (.lst (zF (L.take 4))):=zE
  generalize upd H10 cD (.lst (zF (L.take 4)))=H11 at t11 E11 ha11 hc11
  clear t11 hcD E10 ha10
  refine⟨cD,_,rfl,hc11,?_⟩
  have scrX:∀{G G':Hp},yX T G->zX T G G'->zZ K G a (ns.map V.int)->zZ K G' a (ns.map V.int):=fun{G G'} tb sx h=>zJU h sx tb
  refine zGd (K:=K) (xs:=zF (L.take 4)) (fun i σ G=>(∃y z:Option V,σ=[some (.ref a),some (.ref b),some (.int o),some (.ref pw),some (.ref rD),some (.ref nD),y,z,none,none,none,none,none])/\EnvP K T G b pw rD nD o bk lo hi hd tl ba to L/\zZ K G a (ns.map V.int)/\G cD=some (.lst (zF (L.take 4))))
   ⟨⟨_,_,rfl⟩,E11,ha11,hc11⟩ (fun i σ G _ h=>.of h.2.2.2) ?_ ?_
  ·rintro i y Tt σ G Nx hN hx ⟨⟨y6,y7,rfl⟩,EG,haG,hcG⟩ hTt
   obtain⟨x,hnm,rfl⟩:=zAO hx
   have hi4':i<4:=by
    have:=(ai.mp hnm).1
    rw[aI]at this;omega
   rw[fu hi4']at hnm
   have t1:zA G (upd G Tt (.tup [.int i,sv x])):=zA.upd1 hTt
   refine⟨Tt,_,rfl,.of zE,rfl,_,_,rfl,_,_,rfl,rfl,?_⟩
   have E1:=EG.same t1
   have a1:=t1.seq haG
   have c1:=t1 _ _ hcG
   generalize upd G Tt (.tup [.int i,sv x])=G1 at t1 E1 a1 c1
   refine⟨_,rfl,_,rfl,_,rfl,_,rfl,PL E1 fun G2 v E2 sx2 hv=>?_⟩
   have a2:=scrX E1.tb sx2 a1
   have c2:=sx2 _ _ (kK E1.tb c1 fun _=>nofun) c1
   have hv':v=.int ((i+1:Nat):Int):=by
    rcases hv with⟨j,h1,h2⟩|⟨h1,_⟩
    ·rw[zRr Lnd h1 hnm]at h2;exact h2
    ·exact absurd (aZ hnm) h1
   subst hv'
   refine⟨_,rfl,_,_,rfl,rfl,rfl,_,rfl,kU rfl ?_⟩
   refine⟨_,rfl,_,rfl,_,rfl,_,rfl,_,_,rfl,rfl,?_⟩
   dsimp only[zBb,zBC,zBD,cT,eg]
   have e1:(i:Int)+1=((i+1:Nat):Int):=rfl
   rw[e1]
   refine LK (m:=i+1) rfl E2 E2.ws gw (by omega) (by omega) fun D G3 L' E3 sx3 hD hS3 hL3=>?_
   have a3:=scrX E2.tb sx3 a2
   have c3:=sx3 _ _ (kK E2.tb c2 fun _=>nofun) c2
   have eL:L'=L.take (i+1):=hS3.one (zCe ..) l8 (hS.take (by omega))
   subst eL
   obtain⟨ts,q1,q2⟩:=jX.mp E3.rw
   refine⟨_,rfl,_,rfl,_,_,rfl,rfl,((i+1:Nat):Int),rfl,rD,_,rfl,.of q1,fun p hp=>?_⟩
   rw[zBt ts (i+1) (by omega)]
   have t4:zA G3 (upd G3 p (.lst (ts.take (i+1)))):=zA.upd1 hp
   have r4:qD K (upd G3 p (.lst (ts.take (i+1)))) p (zB o bk) o (L.take (i+1)):=jX.mpr ⟨_,zE,(q2.take (i+1)).same t4⟩
   have okk:=okL' (M:=L.take (i+1)) (fun x hx=>cf hx) (by rw[aI];omega)
   refine⟨_,_,zAv (hL3.same t4),zAv r4,okk.sh (by decide),okk.sh (by decide),_,rfl,zDs okk.2.1 ?_⟩
   exact hN _ _ ⟨⟨_,_,rfl⟩,E3.same t4,t4.seq a3,t4 _ _ c3⟩
  rintro σ H12 ⟨⟨y6,y7,rfl⟩,E12,ha12,_⟩
  clear E11 ha11 hc11
  refine⟨by show 3<=sizeLine;decide,fun tp htp=>?_⟩
  rw[zRq]
  have t13:zA H12 (upd H12 tp (.tup (zF zAR))):=zA.upd1 htp
  have E13:=E12.same t13
  have ha13:=t13.seq ha12
  have hc13:upd H12 tp (.tup (zF zAR)) tp=some (.tup (zF zAR)):=zE
  generalize upd H12 tp (.tup (zF zAR))=H13 at t13 E13 ha13 hc13
  clear t13 htp E12 ha12
  refine⟨tp,rfl,⟨_,.of hc13⟩,?_⟩
  refine j8 (zBI K tp (zF zAR)) (fun i σ G=>(∃z:Option V,σ=[some (.ref a),some (.ref b),some (.int o),some (.ref pw),some (.ref rD),some (.ref nD),y6,z,none,none,none,none,none])/\EnvP K T G b pw rD nD o bk lo hi hd tl ba to L/\zZ K G a (ns.map V.int)/\G tp=some (.tup (zF zAR)))
   ⟨⟨_,rfl⟩,E13,ha13,hc13⟩ (fun i σ G _ h=>.of h.2.2.2) ?_ ?_
  ·rintro i y σ G Nx hN hx ⟨⟨y7',rfl⟩,EG,haG,hcG⟩
   obtain⟨x,hnm,rfl⟩:=zAO hx
   refine⟨_,rfl,_,rfl,_,rfl,_,rfl,PL EG fun G2 v E2 sx2 hv=>?_⟩
   have a2:=scrX EG.tb sx2 haG
   have c2:=zAu hcG sx2 EG.tb
   refine⟨rfl,_,rfl,_,rfl,nD,zF L,rfl,.inl (.of E2.nm),rfl,zCC _,rfl,_,rfl,?_⟩
   rw[zCB]
   refine kU ?_ (hN _ _ ⟨⟨_,rfl⟩,E2,a2,c2⟩)
   rcases hv with⟨j,h1,rfl⟩|⟨h1,rfl⟩
   ·rw[decide_eq_true (aZ h1)];rfl
   ·rw[decide_eq_false h1];rfl
  rintro σ H14 ⟨⟨y7',rfl⟩,E14,ha14,_⟩
  clear E13 ha13 hc13
  refine zRs ?_
  dsimp only
  refine zEF (fun σ' G=>(∃x8 x9:Option V,σ'=[some (.ref a),some (.ref b),some (.int o),some (.ref pw),some (.ref rD),some (.ref nD),y6,y7',x8,x9,none,none,none])/\EnvP K T G b pw rD nD o bk lo hi hd tl ba to L) ?cont fun N hN=>?main
  case main=>
   refine⟨_,rfl,bp _,fun e0 he0=>?_⟩
   have t15:zA H14 (upd H14 e0 (.lst [])):=zA.upd1 he0
   have E15:=E14.same t15
   have ha15:=t15.seq ha14
   have he1:upd H14 e0 (.lst []) e0=some (.lst []):=zE
   generalize upd H14 e0 (.lst [])=H15 at t15 E15 ha15 he1
   have okn:v7 6 (.list (L.map fun x=>PyData.str (tx x))):=okL (n:=5) (fun d hd=>by
    obtain⟨x,hx,rfl⟩:=av.mp hd
    exact zCc (fun c hc=>by rcases zCk abc (gB.mp (hS.sub hx)).2.1 c hc with z|z|z<;>omega) (by have:=l8 x (hS.sub hx);omega)) (by rw[ah];omega)
   refine⟨.list (L.map fun x=>PyData.str (tx x)),.list [],zQZ E15.nm,⟨e0,[],rfl,.of he1,rfl⟩,okn.sh (by decide),rfl,_,rfl,?_⟩
   rw[if_pos rfl,zRv]
   cases hE:L.isEmpty with
   |true=>exact yO (yO (hN _ _ ⟨⟨_,_,rfl⟩,E15⟩))
   |false=>
   obtain⟨bb,hpw,hbb⟩:=E15.ws
   refine yK ⟨_,rfl,pw,_,4,.ref bb,rfl,rfl,.of hpw,rfl,bb,_,rfl,.inr (.of hbb),_,_,rfl,rfl,_,rfl,?_⟩
   by_cases h6:((zF ba).length:Int)<6
   case neg=>exact uZ h6 (yO (hN _ _ ⟨⟨_,_,rfl⟩,E15⟩))
   refine zAt h6 ⟨_,rfl,nD,_,rfl,.inl (.of E15.nm),_,_,rfl,rfl,_,rfl,?_⟩
   by_cases h20:((zF L).length:Int)<20
   case neg=>exact uZ h20 (hN _ _ ⟨⟨_,_,rfl⟩,E15⟩)
   refine zAt h20 ?_
   have h6':ba.length<6:=by unfold zF at h6;rw[ah]at h6;omega
   have h20':L.length<20:=by unfold zF at h20;rw[ah]at h20;omega
   have eLn:(zF L).length=L.length:=by unfold zF;rw[ah]
   have hLp:0<L.length:=by
    cases L with
    |nil=>cases hE
    |cons x L=>simp
   refine⟨_,rfl,_,rfl,_,rfl,nD,_,rfl,.inl (.of E15.nm),a,ns,80,(zF L).length,rfl,ha15,hl,by omega,by omega,fun d G1 hd1 u1=>?_⟩
   rw[eLn]at hd1
   have hg:L[d]?=some L[d]:=aq hd1
   have hgL:L[d]∈L:=c9 hd1
   generalize L[d]=g at hg hgL
   have E16:=E15.same u1
   refine⟨nD,zF L,d,sv g,rfl,rfl,.of E16.nm,zAZ (by unfold zF;rw[aw,hg];rfl),?_⟩
   have hgW:=gB.mp (hS.sub hgL)
   have hgba:g∉ba:=fun z=>by
    have:=hgW.2.2
    unfold jJ at this
    rw[decide_eq_true z]at this
    cases this
   have hgn:vI g:=⟨by have:=hgW.1.1;omega,by have:=hgW.1.2.1;omega,fun c hc=>by rcases zCk abc hgW.2.1 c hc with z|z|z<;>omega⟩
   have hpw1:=u1 _ _ hpw
   have hbb1:=u1 _ _ hbb
   clear u1 E15 ha15 he1 he0 t15 hpw hbb
   refine⟨_,rfl,4,rfl,pw,_,rfl,hpw1,fun m1 G2 u2 hm1=>?_⟩
   refine⟨_,rfl,pw,_,4,.ref bb,rfl,rfl,.of (u2 _ _ hpw1),rfl,_,rfl,by show 1<=sizeLine;decide,fun m2 hm2=>?_⟩
   have u3:zA G2 (upd G2 m2 (.tup [sv g])):=zA.upd1 hm2
   have hm2':upd G2 m2 (.tup [sv g]) m2=some (.tup [sv g]):=zE
   generalize upd G2 m2 (.tup [sv g])=G3 at u3 hm2'
   have bal:(zF ba).length=ba.length:=by unfold zF;rw[ah]
   refine⟨bb,m2,_,_,rfl,rfl,u3 _ _ (u2 _ _ hbb1),hm2',by rw[aF,bal];show ba.length+1<=_;omega,fun m3 G4 u4 hm3=>?_⟩
   have ess:zF ba++[sv g]=((ba++[g]).map tx).map V.str:=by unfold zF;rw[aQ,aQ,aU];rfl
   rw[ess]at hm3
   refine⟨m3,(ba++[g]).map tx,rfl,.of hm3,?_,by rw[ah,au,br];omega,fun out sl hperm hris hsl=>?_⟩
   ·rw[de,bq]
    have ndg:(ba++[g]).Nodup:=by
     rw[de,ji]
     exact⟨gw.bnd,by simp,fun x hx y hy e=>by rw[aS.mp hy]at e;exact hgba (by rw[<-e];exact hx)⟩
    exact ndg.imp fun{x y} hne e=>hne (jE e)
   have u5:zA G4 (upd G4 sl (.lst (out.map V.str))):=zA.upd1 hsl
   have hsl':upd G4 sl (.lst (out.map V.str)) sl=some (.lst (out.map V.str)):=zE
   generalize upd G4 sl (.lst (out.map V.str))=G5 at u5 hsl'
   refine⟨sl,out.map V.str,rfl,.inl ⟨.of hsl',fun m4 hm4=>?_⟩⟩
   obtain⟨ba',hba'⟩:∃ba':List S,ba'=out.map fun z=>z.cps.toList:=⟨_,rfl⟩
   have eout:out.map V.str=zF ba':=by
    rw[hba'];unfold zF;rw[aU]
    refine dM fun z _=>?_
    show V.str z=V.str (tx z.cps.toList)
    rw[zRw]
   have pba:ba'.Perm (ba++[g]):=by
    rw[hba']
    have:=hperm.map fun z:Str=>z.cps.toList
    rw[aU]at this
    have e:(ba++[g]).map ((fun z:Str=>z.cps.toList) ∘ tx)=ba++[g]:=by
     rw[show((fun z:Str=>z.cps.toList) ∘ tx)=id from funext fun z=>vW z,pJ]
    rw[e]at this
    exact this
   have rba:ba'.Pairwise (· < ·):=by rw[hba',bq];exact hris
   have mba:∀x,x∈ba'↔x∈ba\/x=g:=fun x=>by rw[pba.mem_iff,bw,aS]
   have gw':GW lo hi hd tl ba':=⟨gw.glo,gw.gle,gw.ghi,gw.ghd,gw.gtl,by rw[pba.length_eq,au,br];omega,fun x hx=>((mba x).mp hx).elim (gw.nm x) fun e=>by rw[e];exact hgn,(zBU ba').mpr rba⟩
   rw[eout]at hsl'⊢
   clear hba' hperm hris eout pba rba
   have u6:zA G5 (upd G5 m4 (.tup (zF ba'))):=zA.upd1 hm4
   have hm4':upd G5 m4 (.tup (zF ba')) m4=some (.tup (zF ba')):=zE
   generalize upd G5 m4 (.tup (zF ba'))=G6 at u6 hm4'
   refine⟨by show 1<=sizeLine;decide,fun m5 hm5=>?_⟩
   have u7:zA G6 (upd G6 m5 (.tup [.ref m4])):=zA.upd1 hm5
   have hm5':upd G6 m5 (.tup [.ref m4]) m5=some (.tup [.ref m4]):=zE
   generalize upd G6 m5 (.tup [.ref m4])=G7 at u7 hm5'
   have u37:=(u3.trans u4).trans ((u5.trans u6).trans u7)
   refine⟨m1,m5,_,_,rfl,rfl,u37 _ _ hm1,hm5',by rw[aF];show 4+1<=_;omega,fun m6 G8 u8 hm6=>?_⟩
   have u28:=u2.trans (u37.trans u8)
   refine⟨_,rfl,5,rfl,pw,_,rfl,u28 _ _ hpw1,fun m7 G9 u9 hm7=>?_⟩
   refine⟨m6,m7,_,_,rfl,rfl,u9 _ _ hm6,hm7,by rw[aF];show 5+1<=_;omega,fun pf G10 u10 hpf=>?_⟩
   have E17:=E16.same (u28.trans (u9.trans u10))
   have hw17:vT G10 pf lo hi hd tl ba' to:=⟨m4,hpf,u10 _ _ (u9 _ _ (u8 _ _ (u7 _ _ hm4')))⟩
   clear hpf u10 hm7 u9 hm6 u8 u37 u28 hm5' u7 hm5 hm4' u6 hm4 hsl' u5 hsl hm3 u4 ess hm2' u3 hm2 hm1 u2 hpw1 hbb1 E16
   refine⟨_,rfl,_,rfl,_,rfl,?_⟩
   dsimp only[tC,zBb,zBC,zBD,cT,eg]
   refine LK (m:=20) (mv:=20) rfl E17 hw17 gw' (by decide) (by decide) fun D G11 L' E18 sx18 hD hS18 hL18=>?_
   have eL:L'=L.filter fun x=>decide (x≠g):=hS18.one (zCe ..) (zEv hh8) ((hS.filter h20' fun x=>decide (x≠g)).mem (zRm mba))
   subst eL
   obtain⟨ts,q1,q2⟩:=jX.mp E18.rw
   refine⟨_,rfl,rD,rfl,⟨_,.of q1⟩,?_⟩
   refine zBJ (jD K rD ts) [some (sv g)] 1 (by rw[q2.1];omega) (fun i acc G=>G=G11/\acc.length<=i/\v8 K G11 (zB o bk) o acc ((L.take i).filter fun x=>decide (x≠g)))
    ⟨rfl,ay _,v8.nil⟩ (fun i acc G _ h=>⟨.of (by rw[h.1];exact q1),h.2.1⟩) ?_ ?_
   ·rintro i x acc G ys Nx hNx hx hy ⟨rfl,hal,hel⟩
    obtain⟨y',rfl⟩:=zBP hy
    have hi':i<L.length:=by rw[<-q2.1];exact(ai.mp hx).1
    obtain⟨c,v,e1,e2,e3⟩:=q2.2 i L[i] (aq hi')
    rw[hx]at e1
    cases e1
    have etk:L.take (i+1)=L.take i++[L[i]]:=aB hi'
    generalize L[i]=z at e2 e3 etk
    refine⟨_,rfl,c,_,1,sv z,rfl,rfl,e2,rfl,_,rfl,rfl,_,rfl,?_⟩
    by_cases hz:z=g
    ·refine kU (by rw[hz]) (hNx _ _ [_] rfl ⟨rfl,by omega,?_⟩)
     rw[etk,c6,cX (by simpa using hz)];simpa using hel
    ·refine zAl (fun e=>hz (jE (V.str.inj e))) ⟨_,rfl,hNx _ _ [_] rfl ⟨rfl,by rw[au,br];omega,?_⟩⟩
     rw[etk,c6,cV (by simpa using hz)]
     exact hel.snoc e2 e3
   rintro acc G ⟨rfl,_,hel⟩ p hp
   rw[q2.1,bo]at hel
   have t19:zA G (upd G p (.lst acc)):=zA.upd1 hp
   have r19:qD K (upd G p (.lst acc)) p (zB o bk) o (L.filter fun x=>decide (x≠g)):=jX.mpr ⟨_,zE,hel.same t19⟩
   have okk:=okL' (M:=L.filter fun x=>decide (x≠g)) (fun x hx=>(aL.mp hx).1) (by have:=bX (fun x=>decide (x≠g)) L;omega)
   refine⟨_,_,zAv (hL18.same t19),zAv r19,okk.sh (by decide),okk.sh (by decide),_,rfl,zDs okk.2.1 ?_⟩
   exact hN _ _ ⟨⟨_,_,rfl⟩,E18.same t19⟩
  case cont=>
   clear E14 ha14
   rintro σ H20 ⟨⟨x8,x9,rfl⟩,E20⟩
   refine zEF (fun σ' G=>(∃x10 x11 x12:Option V,σ'=[some (.ref a),some (.ref b),some (.int o),some (.ref pw),some (.ref rD),some (.ref nD),y6,y7',x8,x9,x10,x11,x12])/\EnvP K T G b pw rD nD o bk lo hi hd tl ba to L) ?cont fun N hN=>?main
   case main=>
    refine⟨_,rfl,nD,_,rfl,.inl (.of E20.nm),_,_,rfl,rfl,_,rfl,?_⟩
    by_cases h20:((zF L).length:Int)<20
    case neg=>exact uZ h20 (hN _ _ ⟨⟨_,_,_,rfl⟩,E20⟩)
    refine zAt h20 ?_
    have h20':L.length<20:=by unfold zF at h20;rw[ah]at h20;omega
    refine⟨by show 2<=sizeLine;decide,fun tp htp=>?_⟩
    rw[zRt]
    have t21:zA H20 (upd H20 tp (.tup (zF gQ))):=zA.upd1 htp
    have E21:=E20.same t21
    have hc21:upd H20 tp (.tup (zF gQ)) tp=some (.tup (zF gQ)):=zE
    generalize upd H20 tp (.tup (zF gQ))=H21 at t21 E21 hc21
    clear t21 htp E20
    refine⟨tp,rfl,⟨_,.of hc21⟩,?_⟩
    refine j8 (zBI K tp (zF gQ)) (fun i σ G=>(∃x10 x11 x12:Option V,σ=[some (.ref a),some (.ref b),some (.int o),some (.ref pw),some (.ref rD),some (.ref nD),y6,y7',x8,x9,x10,x11,x12])/\EnvP K T G b pw rD nD o bk lo hi hd tl ba to L/\G tp=some (.tup (zF gQ)))
     ⟨⟨_,_,_,rfl⟩,E21,hc21⟩ (fun i σ G _ h=>.of h.2.2) ?_ ?_
    ·rintro i y σ G Nx hNx hx ⟨⟨x10,x11,x12,rfl⟩,EG,hcG⟩
     obtain⟨x,hnm,rfl⟩:=zAO hx
     obtain⟨c,rfl,hc⟩:∃c,x=[c]/\97<=c/\c<=122:=by
      have:=aZ hnm
      unfold gQ at this
      rcases aG.mp this with z|z
      ·exact⟨97,z,by decide⟩
      ·exact⟨98,aS.mp z,by decide⟩
     clear hx hnm
     obtain⟨bb,hpw,hbb⟩:=EG.ws
     refine⟨_,rfl,2,rfl,pw,_,rfl,hpw,fun m1 G1 u1 hm1=>?_⟩
     refine⟨_,rfl,pw,_,2,sv hd,rfl,rfl,.of (u1 _ _ hpw),rfl,_,rfl,tx hd,tx [c],rfl,rfl,by rw[z9,z9,aF];show hd.length+1<=_;omega,by show 1<=sizeLine;decide,fun m2 hm2=>?_⟩
     rw[zRx]
     have u2:zA G1 (upd G1 m2 (.tup [sv (hd++[c])])):=zA.upd1 hm2
     have hm2':upd G1 m2 (.tup [sv (hd++[c])]) m2=some (.tup [sv (hd++[c])]):=zE
     generalize upd G1 m2 (.tup [sv (hd++[c])])=G2 at u2 hm2'
     refine⟨m1,m2,_,_,rfl,rfl,u2 _ _ hm1,hm2',by rw[aF];show 2+1<=_;omega,fun m3 G3 u3 hm3=>?_⟩
     have u13:=u1.trans (u2.trans u3)
     refine⟨_,rfl,3,rfl,pw,_,rfl,u13 _ _ hpw,fun m4 G4 u4 hm4=>?_⟩
     refine⟨m3,m4,_,_,rfl,rfl,u4 _ _ hm3,hm4,by rw[aF];show 3+3<=_;omega,fun pn G5 u5 hpn=>?_⟩
     have u15:=u13.trans (u4.trans u5)
     have E5:=EG.same u15
     have hc5:=u15 _ _ hcG
     have hpn':G5 pn=some (.tup [.int lo,.int hi,sv (hd++[c]),sv tl,.ref bb,.bl to]):=hpn
     have hw5:vT G5 pn lo hi (hd++[c]) tl ba to:=⟨bb,hpn',u15 _ _ hbb⟩
     clear hpn u5 hm4 u4 hm3 u3 hm2' u2 hm2 hm1 u1 u13 u15 hpw hbb EG hcG
     refine⟨_,rfl,pn,_,2,sv (hd++[c]),rfl,rfl,.of hpn',rfl,tx (hd++[c]),rfl,by rw[z9,au,aF];show hd.length+1<=_;omega,_,_,rfl,rfl,_,rfl,?_⟩
     by_cases h4:((tx (hd++[c])).length:Int)<4
     case neg=>exact uZ h4 (hNx _ _ ⟨⟨_,_,_,rfl⟩,E5,hc5⟩)
     refine zAt h4 ?_
     have h4':hd.length<3:=by rw[z9,au,br]at h4;omega
     have gwn:GW lo hi (hd++[c]) tl ba:=⟨gw.glo,gw.gle,gw.ghi,.inr (zRu gw.ghd h4' hc),gw.gtl,gw.len,gw.nm,gw.ris⟩
     obtain⟨ts,q1,q2⟩:=jX.mp E5.rw
     refine⟨_,rfl,rD,rfl,⟨_,.of q1⟩,?_⟩
     refine zBJ (jD K rD ts) [some (.ref pn)] 1 (by rw[q2.1];omega) (fun i acc G=>G=G5/\acc.length<=i/\v8 K G5 (zB o bk) o acc ((L.take i).filter fun x=>decide (x.take (hd.length+1)=hd++[c])))
      ⟨rfl,ay _,v8.nil⟩ (fun i acc G _ h=>⟨.of (by rw[h.1];exact q1),h.2.1⟩) ?_ ?_
     ·rintro i x acc G ys Nx2 hNx2 hx hy ⟨rfl,hal,hel⟩
      obtain⟨y',rfl⟩:=zBP hy
      have hi':i<L.length:=by rw[<-q2.1];exact(ai.mp hx).1
      obtain⟨c',v,e1,e2,e3⟩:=q2.2 i L[i] (aq hi')
      rw[hx]at e1
      cases e1
      have etk:L.take (i+1)=L.take i++[L[i]]:=aB hi'
      generalize L[i]=z at e2 e3 etk
      refine⟨_,rfl,c',_,1,sv z,rfl,rfl,e2,rfl,rfl,_,rfl,pn,_,2,sv (hd++[c]),rfl,rfl,.of hpn',rfl,tx z,tx (hd++[c]),rfl,rfl,_,rfl,?_⟩
      rw[zJB,au,br]
      by_cases hz:z.take (hd.length+1)=hd++[c]
      ·refine zAt hz ⟨_,rfl,hNx2 _ _ [_] rfl ⟨rfl,by rw[au,br];omega,?_⟩⟩
       rw[etk,c6,cV (by simpa using hz)]
       exact hel.snoc e2 e3
      ·refine uZ hz (hNx2 _ _ [_] rfl ⟨rfl,by omega,?_⟩)
       rw[etk,c6,cX (by simpa using hz)];simpa using hel
     rintro acc G ⟨rfl,_,hel⟩ p hp
     rw[q2.1,bo]at hel
     have t6:zA G (upd G p (.lst acc)):=zA.upd1 hp
     have r6:qD K (upd G p (.lst acc)) p (zB o bk) o (L.filter fun x=>decide (x.take (hd.length+1)=hd++[c])):=jX.mpr ⟨_,zE,hel.same t6⟩
     have E6:=E5.same t6
     have hc6:=t6 _ _ hc5
     have hw6:=hw5.same t6
     generalize upd G p (.lst acc)=G6 at t6 r6 E6 hc6 hw6
     refine⟨_,rfl,_,rfl,_,rfl,?_⟩
     dsimp only[tC,zBb,zBC,zBD,cT,eg]
     refine LK (m:=20) (mv:=20) rfl E6 hw6 gwn (by decide) (by decide) fun D G7 L' E7 sx7 hD hS7 hL7=>?_
     have eL:L'=L.filter fun x=>decide (x.take (hd.length+1)=hd++[c]):=hS7.one (zCe ..) (zEv hh8) ((hS.filter h20' _).mem zRn)
     subst eL
     have okk:=okL' (M:=L.filter fun x=>decide (x.take (hd.length+1)=hd++[c])) (fun x hx=>(aL.mp hx).1) (by have:=bX (fun x=>decide (x.take (hd.length+1)=hd++[c])) L;omega)
     refine⟨_,rfl,_,_,zAv hL7,zAv (r6.sameT sx7 E6.tb),okk.sh (by decide),okk.sh (by decide),_,rfl,zDs okk.2.1 ?_⟩
     exact hNx _ _ ⟨⟨_,_,_,rfl⟩,E7,zAu hc6 sx7 E6.tb⟩
    rintro σ H22 ⟨⟨x10,x11,x12,rfl⟩,E22,_⟩
    exact hN _ _ ⟨⟨_,_,_,rfl⟩,E22⟩
   case cont=>
    clear E20
    rintro σ H23 ⟨⟨x10,x11,x12,rfl⟩,E23⟩
    refine⟨_,rfl,nD,rfl,⟨_,.of E23.nm⟩,?_⟩
    refine zBJ (jD K nD (zF L)) [some (.ref b),some (.ref pw)] 1 (by unfold zF;rw[ah];omega) (fun i acc G=>acc=[]/\zA H23 G)
     ⟨rfl,zA.refl _⟩ (fun i acc G _ h=>⟨.of (h.2 _ _ E23.nm),by rw[h.1];exact bp _⟩) ?_ ?_
    ·rintro i y acc G ys Nx hNx hx hy ⟨rfl,sm⟩
     obtain⟨y',rfl⟩:=zBP hy
     obtain⟨x,hnm,rfl⟩:=zAO hx
     have hxW:=gB.mp (hS.sub (aZ hnm))
     have hxn:vI x:=⟨by have:=hxW.1.1;omega,by have:=hxW.1.2.1;omega,fun c hc=>by rcases zCk abc hxW.2.1 c hc with z|z|z<;>omega⟩
     refine⟨_,rfl,_,rfl,_,rfl,b,pw,bk,lo,hi,hd,tl,ba,to,x,rfl,sm _ _ E23.hb,isb,E23.ws.same sm,gw,hxn,fun G8 t8=>⟨_,rfl,?_⟩⟩
     have hfit:zAP bk lo hi hd tl ba to x=true:=by
      unfold zAP
      rw[zQy.mpr hxW.1,hxW.2.2];rfl
     rw[hfit]
     exact yO (hNx _ _ [_] rfl ⟨rfl,sm.trans t8⟩)
    rintro acc G ⟨rfl,sm⟩ p hp
    have hp':upd G p (.lst []) p=some (.lst []):=zE
    generalize upd G p (.lst [])=G9 at hp'
    refine⟨bp _,fun e0 he0=>?_⟩
    refine⟨.list [],.list [],⟨p,[],rfl,.of ((zA.upd1 he0) _ _ hp'),rfl⟩,⟨e0,[],rfl,.of zE,rfl⟩,rfl,rfl,k _⟩
end
end Kn.Ln
end
section
namespace Kn
open PySem L2 Ln
def yC (K:ag)(x:Str)(st:c8)(ps:List Str):Prop :=
 ∃(f:ak) (fd:bg),aW K mainGlobals x=some (some (.ref f))/\Fun K x x st f fd/\dy K (.ref f)=true/\j0 K fd ps []
theorem zBY {K:ag}{x:Str}{st:c8}{f:ak}{oc kV d pm b ct:aj}{od e:Option ak}{g:Array (Option aj)}(ps:List Str)
  (hb:∀(fd:bg),Fun K x x st f fd->j0 K fd ps [])
  (a:aW K mainGlobals x=some (some (.ref f))) (l:K.lookup f=some ⟨oc,od,.func (dq x x (defArgs st) (defBody st) (defScope st) .none kV d pm e b ct),g⟩) (c:eJ K b x=true) (k:dy K (.ref f)=true):yC K x st ps :=
 ⟨f,_,a,zCz (st:=st) l c k,k,hb _ (zCz (st:=st) l c k)⟩
def zEz (K:ag)(x:Str)(st:c8)(ps:List Str)(c:ak):Prop :=
 ∃(f:ak) (fd:bg),aW K mainGlobals x=some (some (.ref f))/\FunC K x x st f fd c/\dy K (.ref f)=true/\j0 K fd ps []
theorem zSC {K:ag}{x:Str}{st:c8}{f c:ak}{oc kV b pm ct:aj}{od d:Option ak}{e:Array (Option aj)}(ps:List Str)
  (hb:∀(fd:bg),Fun K x x st f fd->j0 K fd ps [])
  (a:aW K mainGlobals x=some (some (.ref f))) (l:K.lookup f=some ⟨oc,od,.func (dq x x (defArgs st) (defBody st) (defScope st) .none kV b pm d (.ref c) ct),e⟩) (h:eJ K (.ref c) x=true) (k:dy K (.ref f)=true):zEz K x st ps c :=
 ⟨f,_,a,zHk (st:=st) l h k,k,hb _ (zHk (st:=st) l h k).fn⟩
structure Top (K:ag) (c:ak):Prop where
 hv:zEz K "heaviest" sHv ["pairs","many"] c
 is_name:yC K "is_name" zDQ ["thing"]
 is_book:yC K "is_book" zDS ["thing"]
 is_whole:yC K "is_whole" zDU ["thing","least","most"]
 is_order:yC K "is_order" zDW ["thing"]
 is_rising:yC K "is_rising" zEa ["things"]
 need_book:yC K "need_book" zDX ["thing"]
 need_order:yC K "need_order" zDY ["thing"]
 need_whole:yC K "need_whole" zEr ["thing","least","most"]
 need_name:yC K "need_name" zDZ ["thing"]
 end_of:yC K "end_of" zDN ["text","order"]
 ends:yC K "ends_and_letters" zDO ["name","order"]
 rows:yC K "counted_rows" zDe ["book","order"]
 gcd:yC K "greatest_divisor" zDi ["one","other"]
 low:yC K "lowest" zDk ["up","down"]
 part_in:yC K "part_in" zDn ["row","letter"]
 cm:yC K "common_multiple" sCM ["one","other"]
 ww:yC K "whole_weight" sWW ["rows"]
 partsR:yC K "parts_by_rows" zEC ["rows"]
 left:yC K "left_of" zDz ["weight","part"]
 follow:yC K "may_follow" zEB ["letter","wanted"]
 nexth:yC K "next_heaviest" zEH ["parts","order","layer","wanted","many"]
 ha:yC K "heaviest_along" sHA ["parts","order","weight","pattern","many"]
 is_edge:yC K "is_edge" zEb ["thing"]
 is_barred:yC K "is_barred" zEc ["thing"]
 is_wish:yC K "is_wish" zEd ["thing"]
 need_wish:yC K "need_wish" zEf ["thing"]
 form:yC K "has_form" zEg ["wish","name"]
 out:yC K "left_out" zEi ["book","wish"]
 fits:yC K "fits" zEj ["book","wish","name"]
 got:yC K "go_together" zEm ["one","other"]
 pl:yC K "patterns_of_length" sPL ["head","tail","length"]
 pats:yC K "patterns" zEo ["wish"]
 hf:yC K "heaviest_fitting" sHF ["rows","order","wish","many","barred"]
 lk:yC K "likeliest" sLk ["book","order","wish","many"]
 pof:yC K "place_of" sPl ["book","order","wish","name"]
 cell:yC K "_law_cell" zDo ["_law_script","_law_k"]
 drawn:yC K "_law_drawn" zDp ["_law_script","_law_k","_law_many"]
 lname:yC K "_law_name" zDq ["_law_script","_law_at","_law_most"]
 lbook:yC K "_law_book" zDr ["_law_script","_law_at","_law_many","_law_most"]
 lwish:yC K "_law_wish" sLW ["_law_script","_law_at"]
 letters:∃t,aW K mainGlobals "LETTERS"=some (some (.str letters t))
 ml:∃t,aW K mainGlobals "MOST_LETTERS"=some (some (.int 8 t))
 mn:∃t,aW K mainGlobals "MOST_NAMES"=some (some (.int 8 t))
 mo:∃t,aW K mainGlobals "MOST_ORDER"=some (some (.int 3 t))
 w0:∃t,aW K mainGlobals "LEAST"=some (some (.int 0 t))
 w1:∃t,aW K mainGlobals "MOST"=some (some (.int 1 t))
 w2:∃t,aW K mainGlobals "HEAD"=some (some (.int 2 t))
 w3:∃t,aW K mainGlobals "TAIL"=some (some (.int 3 t))
 w4:∃t,aW K mainGlobals "BARRED"=some (some (.int 4 t))
 w5:∃t,aW K mainGlobals "TOLD"=some (some (.int 5 t))
 w6:∃t,aW K mainGlobals "MANY_PARTS"=some (some (.int 6 t))
 w7:∃t,aW K mainGlobals "MOST_EDGE"=some (some (.int 3 t))
 w8:∃t,aW K mainGlobals "MOST_BARRED"=some (some (.int 6 t))
 mlk:∃t,aW K mainGlobals "MOST_LIKELIEST"=some (some (.int 20 t))
 ib:bx K (.type "int") (.type "bool")=some false
 nought:∃a,aW K mainGlobals "NOUGHT"=some (some (.ref a))/\∀H,zY K H a [.int 0,.int 1]
 kitf:KitF K
 kitb:KitB K
 anyC:∃t,aW K mainGlobals "ANY"=some (some (.str "" t))
 zlen:aW K mainGlobals "len"=some none
 zrange:aW K mainGlobals "range"=some none
 zall:aW K mainGlobals "all"=some none
 zisinstance:aW K mainGlobals "isinstance"=some none
 zstr:aW K mainGlobals "str"=some none
 ztuple:aW K mainGlobals "tuple"=some none
 zint:aW K mainGlobals "int"=some none
 zbool:aW K mainGlobals "bool"=some none
 zsorted:aW K mainGlobals "sorted"=some none
 zsum:aW K mainGlobals "sum"=some none
 zmin:aW K mainGlobals "min"=some none
 zmax:aW K mainGlobals "max"=some none
 zlist:aW K mainGlobals "list"=some none
 zset:aW K mainGlobals "set"=some none
 zzip:aW K mainGlobals "zip"=some none
 zenumerate:aW K mainGlobals "enumerate"=some none
 zdict:aW K mainGlobals "dict"=some none
theorem zSD:(b8 "abcdefghijklmnopqrstuvwxyz")=letters:=by decide+kernel
theorem zSE {K:ag}{t:Tok}(h:aW K mainGlobals "LETTERS"=some (some (.str (b8 "abcdefghijklmnopqrstuvwxyz") t))):∃t,aW K mainGlobals "LETTERS"=some (some (.str letters t)):=by
 rw[zSD]at h;exact⟨t,h⟩
theorem zSF {K:ag}{x:Str}{i:Int}{t:Tok}(h:aW K mainGlobals x=some (some (.int i t))):∃t,aW K mainGlobals x=some (some (.int i t)):=⟨t,h⟩
theorem zSG {K:ag}{x:Str}{a:ak}{i j:Int}{t t':Tok}{n:Nat}{b:Option ak}{c:Array (Option aj)}(h:aW K mainGlobals x=some (some (.ref a)))
  (l:K.lookup a=some ⟨.type "tuple",b,.seq #[.int i t,.int j t'] n,c⟩):∃a,aW K mainGlobals x=some (some (.ref a))/\∀H,zY K H a [.int i,.int j] :=
 ⟨a,h,fun H=>.inr ⟨_,_,_,l,rfl,rfl,by show 2<=sizeLine;decide,.cons ⟨t,rfl⟩ (.cons ⟨t',rfl⟩ .nil)⟩⟩
section
variable{P:aJ}{w:aY}{K:ag}{mg:Str->Option aj}{base:bE}{h:bE}
theorem zSH {x:Str}{st:c8}{ps:List Str}{k:Nat}{sp:Sp}(X:K.In h)(G:h.Ns mainGlobals mg)(H:yC K x st ps)(ok:∀(f:ak) (fd:bg),Fun K x x st f fd->FnOk P w K mg base z7 k f fd ps sp):zV P w K mg base k x ps sp:=by
 obtain⟨f,fd,a,F,kp,b⟩:=H
 exact⟨f,fd,ok f fd F,bY X G a,kp,b⟩
theorem zSI {x:Str}{st:c8}{ps:List Str}{k:Nat}{sp:Sp}{c:ak}(X:K.In h)(G:h.Ns mainGlobals mg)(H:zEz K x st ps c)(ok:∀(f:ak) (fd:bg),FunC K x x st f fd c->FnOk P w K mg base z7 k f fd ps sp):zV P w K mg base k x ps sp:=by
 obtain⟨f,fd,a,F,kp,b⟩:=H
 exact⟨f,fd,ok f fd F,bY X G a,kp,b⟩
theorem zSJ {c Tt:ak}(L:LamBase mg base c Tt)(X:K.In h)(G:h.Ns mainGlobals mg)(T:Top K c){f:ak}{fd:bg}(F:Fun K "law" "law" kL f fd):FnOk P w K mg base z7 8 f fd ["_law_script"] (zBX K Tt):=by
 have B:Blt mg:=⟨bD X G T.zlen,bD X G T.zrange,bD X G T.zall,bD X G T.zisinstance,bD X G T.zstr,bD X G T.ztuple,bD X G T.zint,bD X G T.zbool,bD X G T.zsorted,bD X G T.zsum,bD X G T.zmin⟩
 have C:Cst K mg:=⟨let⟨t,e⟩:=T.letters;⟨t,bY X G e⟩,let⟨t,e⟩:=T.ml;⟨t,bY X G e⟩,let⟨t,e⟩:=T.mn;⟨t,bY X G e⟩,let⟨t,e⟩:=T.mo;⟨t,bY X G e⟩,T.ib⟩
 have d {x:Str} {st:c8} {ps:List Str} {k:Nat} {sp:Sp} (a:yC K x st ps) (b:∀(f:ak) (fd:bg),Fun K x x st f fd->FnOk P w K mg base z7 k f fd ps sp):zV P w K mg base k x ps sp:=zSH X G a b
 have C2:Cst2 K mg:=⟨let⟨a,e,q⟩:=T.nought;⟨a,bY X G e,q⟩⟩
 have hA:∃t,mg "ANY"=some (.str "" t):=let⟨t,e⟩:=T.anyC;⟨t,bY X G e⟩
 have hM:∃t,mg "MOST_LIKELIEST"=some (.int 20 t):=let⟨t,e⟩:=T.mlk;⟨t,bY X G e⟩
 have D:=bD X G T.zlist
 have al:=bD X G T.zset
 have Q:=bD X G T.zzip
 have E:=bD X G T.zenumerate
 have am:=bD X G T.zdict
 have an:=bD X G T.zmax
 have ap:=bD X G T.zsorted
 have W:CstW mg:=⟨let⟨t,e⟩:=T.w0;⟨t,bY X G e⟩,let⟨t,e⟩:=T.w1;⟨t,bY X G e⟩,let⟨t,e⟩:=T.w2;⟨t,bY X G e⟩,let⟨t,e⟩:=T.w3;⟨t,bY X G e⟩,let⟨t,e⟩:=T.w4;⟨t,bY X G e⟩,let⟨t,e⟩:=T.w5;⟨t,bY X G e⟩,let⟨t,e⟩:=T.w6;⟨t,bY X G e⟩,let⟨t,e⟩:=T.w7;⟨t,bY X G e⟩,let⟨t,e⟩:=T.w8;⟨t,bY X G e⟩⟩
 have KF:=T.kitf
 have KB:=T.kitb
 have z:=d T.end_of fun f fd F=>zMq F
 have H:=d T.ends fun f fd F=>zMt F B z
 have r:=d T.rows fun f fd F=>zNH F H
 have g:=d T.is_name fun f fd F=>zOv F B C KF
 have s:=d T.is_book fun f fd F=>zOw F B C KF g
 have i:=d T.is_whole fun f fd F=>zOy F B C KF
 have n:=d T.is_order fun f fd F=>zOz F C i
 have R:=d T.is_rising fun f fd F=>zPr F B Q
 have o:=Ln.zV.imp (sp':=zDP) g fun h=>zRH h
 have p:=Ln.zV.imp (sp':=zDR) s fun h=>zRI h
 have l:=Ln.zV.imp (sp':=zDT) i fun h=>zRJ h
 have m:=Ln.zV.imp (sp':=zDV) n fun h=>zRK h
 have as:=d T.need_book fun f fd F=>zMz F p
 have ax:=d T.need_order fun f fd F=>zNB F m
 have aK:=d T.need_name fun f fd F=>zND F o
 have aN:=d T.need_whole fun f fd F=>zQj F l
 have a0:=d T.is_edge fun f fd F=>zPw F B W g
 have a1:=d T.is_barred fun f fd F=>zPz F B KF W g R
 have a2:=d T.is_wish fun f fd F=>zQF F B C KF KB W i a0 a1
 have a3:=d T.need_wish fun f fd F=>zRL F a2
 have N:NeedsW P w K mg base:=⟨⟨as,ax,aK,r⟩,a3⟩
 have a4:=d T.form fun f fd F=>zQK F B W
 have A:=d T.out fun f fd F=>zRA F B W D al
 have a5:=Ln.zV.imp (sp':=zEh) A fun h=>zQz h
 have a6:=d T.fits fun f fd F=>zRO F N a4 a5
 have u:=d T.gcd fun f fd F=>zQg F
 have U:=Ln.zV.imp (sp':=zDh) u fun h=>zQe h
 have v:=d T.low fun f fd F=>zQh F u
 have Y:=Ln.zV.imp (sp':=zDj) v fun h=>zQf h
 have y:=d T.part_in fun f fd F=>zOH F B C2 Y
 have a7:=d T.cm fun f fd F=>zOM F U
 have a8:=d T.ww fun f fd F=>zOP F B a7
 have Z:=d T.partsR fun f fd F=>zOJ F y am
 have aa:=d T.left fun f fd F=>zNu F
 have a9:=d T.follow fun f fd F=>zNw F hA
 have I:=zSI (P:=P) (w:=w) (base:=base) X G T.hv fun f fd F=>zOY F B L ap
 have ba:=d T.nexth fun f fd F=>zOe F D a9 z aa I
 have bb:=d T.ha fun f fd F=>zOj F ba aa I
 have bd:=d T.got fun f fd F=>zQV F hA
 have be:=d T.pl fun f fd F=>zQW F B an D Q hA bd
 have bi:=d T.pats fun f fd F=>zQX F B W be
 have bl:=d T.hf fun f fd F=>zRD F B Z a8 bi bb I v
 have ab:=d T.lk fun f fd F=>zRN F hM N aN r A bl
 have ac:=d T.pof fun f fd F=>zRk F E hM ab
 have J:=d T.cell fun f fd F=>zNO F B
 have j:=d T.drawn fun f fd F=>zNP F J
 have M:=d T.lname fun f fd F=>zNQ F B j
 have O:=d T.lbook fun f fd F=>zNR F B j M
 have bm:=d T.lwish fun f fd F=>zQs F B E j
 exact zSB F B E ⟨j,O,bm,ab,ac,a6⟩
end
theorem zSK {c Tt:ak}{l:mL}{w:aY}{K:ag}{h:bE}{mg:Str->Option aj}{q j:ak}(X:K.In h)(G:h.Ns mainGlobals mg)(m:mg "law"=some (.ref q))
  {n b:Option ak} {o:Array (Option aj)} {p d f g a i:aj} (T:Top K c)
  (r:aW K mainGlobals "law"=some (some (.ref j))) (t:K.lookup j=some ⟨p,n,.func (dq "law" "law" (defArgs kL) (defBody kL) (defScope kL) .none d f g b a i),o⟩) (u:eJ K a "law"=true) (x:dy K (.ref j)=true) :
  ∃fd:bg,(∀(s:ao) (v:aj),ox s fd ⟨[v],[]⟩ [("_law_script",v)])/\∀base:bE,K.In base->base.Ns mainGlobals mg->LamBase mg base c Tt->FnOk l.prog w K mg base z7 8 q fd ["_law_script"] (zBX K Tt):=by
 have e:=m.symm.trans (bY X G r)
 cases e
 have y:=zCz (st:=kL) t u x
 exact⟨dq "law" "law" (defArgs kL) (defBody kL) (defScope kL) .none d f g b a i,fun s v=>.of_eq rfl,fun base _ _ L=>zSJ L X G T y⟩
theorem zSL {c Tt:ak}{l:mL}{q:aJ}{loose:List Str}{XP:(Str->Option aj)->bE->Prop}{YP:aY->bE->Prop}{d:DefRec}{K:o5->ag}(i:l.most=some 63)(b:d.params.defaults=[])
  (j:∀(w:aY) (h:bE),YP w h->(K w.params).In h/\h.get? Tt=some (PySem.W.tabObj #[])) (e:∀w:aY,(K w.params).lookup Tt=none) (m:∀w:aY,zBq (K w.params) c Tt)
  (F:∀(w:aY) (mg:Str->Option aj) (g:ak) (h:bE),(K w.params).In h->h.Ns mainGlobals mg->mg d.name=some (.ref g)->
   ∃fd:bg,(∀(s:ao) (u:aj),ox s fd ⟨[u],[]⟩ [("_law_script",u)])/\∀base:bE,(K w.params).In base->base.Ns mainGlobals mg->LamBase mg base c Tt->FnOk l.prog w (K w.params) mg base z7 8 g fd ["_law_script"] (zBX (K w.params) Tt)) :
  r9 q loose XP YP l.row.toRowW d [] (fun f vs=>ql f vs) :=
 L2.zMZ (n:=63) (k:=8) (x :="_law_script") (sp:=fun w=>zBX (K w.params) Tt) i (by decide) b ⟨rfl,by decide,by decide⟩ j e (fun w h X=>zBq.hd X (m w)) F (fun _ _ a ns hl o p=>⟨a,ns,rfl,p,hl,.inl o,fun _=>rfl⟩)
end Kn
end
section
open PySem PySem.W PyProof.Rows
set_option maxRecDepth 100000 in
set_option maxHeartbeats 0 in
theorem PySem.Challenge.cw_kinnames_k33_whole_places_holds : PySem.Challenge.rw_kinnames_k33_whole_places.Holds := by
 w_on;o_law
 refine PySem.W.holds_open (q:=Kn.kq) (loose:=Kn.klo) (Xt:=fun s=>xlAt Kn.kq [] s&&recOk [] s) (XP:=XL Kn.kq []) (Yf:=Hook.obs (kHook Kn.kfr Kn.kas Kn.kas_e)) (Ya:=Hook.val (kHook Kn.kfr Kn.kas Kn.kas_e)) (YP:=Hook.says (kHook Kn.kfr Kn.kas Kn.kas_e)) (N:=5520) Kn.hl (Hook.of (kHook Kn.kfr Kn.kas Kn.kas_e)) (Hook.keeps (kHook Kn.kfr Kn.kas Kn.kas_e)) (fun s e=>xl_of s (Bool.and_eq_true_iff.mp e).1) XL.keeps (by rfl) (by rfl) (by rfl) (fun s e=>recFacts_of (Bool.and_eq_true_iff.mp e).2) (by rfl) (by first|assumption|decide+kernel) (by decide+kernel) ⟨rfl,rfl,rfl,rfl,rfl,by decide+kernel⟩ ?hw ?hc
 (case hw=>w_witness2)
 refine Kn.zSL (c:=224) (Tt:=220) (K:=Kn.kfr0) (l:=PySem.Challenge.rw_kinnames_k33_whole_places) rfl rfl (fun w h Y=>L2.zMa (PySem.W.kIn_of Y) (by first|rfl|kernel_rfl)) (fun w=>by first|rfl|kernel_rfl) (fun w=>⟨none,#[(.str (.ofString "heaviest") 462),(.str (.ofString "heaviest") 463),(.str (.ofString "/claim/cut.py") 464),(.int (91) 0),(.int (2) 0),(.int (0) 0),(.int (0) 0),(.int (3) 0),(.ref 219),(.bool true),(.int (181) 0),(.ref 220),.none,(.ref 221),(.ref 222),(.ref 223),(.int (467) 0),(.int (91) 0),(.str (.ofString "/claim/cut.py") 468)],#[],(.ofString "/claim/cut.py"),468,3,0,true,181,0,by first|rfl|kernel_rfl,rfl,rfl,rfl,rfl,rfl,rfl,by decide⟩) ?F
 case F=>
  k_fill
  intro w mg fa h KX G hmg
  refine' Kn.zSK KX G hmg ?T ?a4 ?l4 ?c4 ?k4
  (case T=>
   refine' ⟨?hv,?is_name,?is_book,?is_whole,?is_order,?is_rising,?need_book,?need_order,?need_whole,?need_name,?end_of,?ends,?rows,?gcd,?low,?part_in,?cm,?ww,?partsR,?left,?follow,?nexth,?ha,?is_edge,?is_barred,?is_wish,?need_wish,?form,?out,?fits,?got,?pl,?pats,?hf,?lk,?pof,?cell,?drawn,?lname,?lbook,?lwish,?letters,?ml,?mn,?mo,?w0,?w1,?w2,?w3,?w4,?w5,?w6,?w7,?w8,?mlk,?ib,?nought,?kitf,?kitb,?anyC,?zlen,?zrange,?zall,?zisinstance,?zstr,?ztuple,?zint,?zbool,?zsorted,?zsum,?zmin,?zmax,?zlist,?zset,?zzip,?zenumerate,?zdict⟩
   (case is_name|is_book|is_order|is_rising|need_book|need_order|need_name|ww|partsR|is_edge|is_barred|is_wish|need_wish|pats=>refine' Kn.zBY _ (fun fd F=>F.binds fun _ _ _ _ _ _ us hl=>match us,hl with| [_],_=>rfl) ?kna ?knl ?knc ?knk;(case kna=>k_is);(case knl=>k_is);(case knc=>k_is);(case knk=>k_is))
   (case end_of|ends|rows|gcd|low|part_in|cm|left|follow|form|out|got|cell|lwish=>refine' Kn.zBY _ (fun fd F=>F.binds fun _ _ _ _ _ _ us hl=>match us,hl with| [_,_],_=>rfl) ?kna ?knl ?knc ?knk;(case kna=>k_is);(case knl=>k_is);(case knc=>k_is);(case knk=>k_is))
   (case is_whole|need_whole|fits|pl|drawn|lname=>refine' Kn.zBY _ (fun fd F=>F.binds fun _ _ _ _ _ _ us hl=>match us,hl with| [_,_,_],_=>rfl) ?kna ?knl ?knc ?knk;(case kna=>k_is);(case knl=>k_is);(case knc=>k_is);(case knk=>k_is))
   (case lk|pof|lbook=>refine' Kn.zBY _ (fun fd F=>F.binds fun _ _ _ _ _ _ us hl=>match us,hl with| [_,_,_,_],_=>rfl) ?kna ?knl ?knc ?knk;(case kna=>k_is);(case knl=>k_is);(case knc=>k_is);(case knk=>k_is))
   (case nexth|ha|hf=>refine' Kn.zBY _ (fun fd F=>F.binds fun _ _ _ _ _ _ us hl=>match us,hl with| [_,_,_,_,_],_=>rfl) ?kna ?knl ?knc ?knk;(case kna=>k_is);(case knl=>k_is);(case knc=>k_is);(case knk=>k_is))
   (case hv=>refine' Kn.zSC _ (fun fd F=>F.binds fun _ _ _ _ _ _ us hl=>match us,hl with| [_,_],_=>rfl) ?kna ?knl ?knc ?knk;(case kna=>k_is);(case knl=>k_is);(case knc=>k_is);(case knk=>k_is))
   (case letters=>refine' Kn.zSE ?knq;(case knq=>k_is))
   (case ml|mn|mo|w0|w1|w2|w3|w4|w5|w6|w7|w8|mlk=>refine' Kn.zSF ?knq;(case knq=>k_is))
   (case ib=>first|rfl|kernel_rfl|decide+kernel)
   (case nought=>refine' Kn.zSG ?knq ?knr;(case knq=>k_is);(case knr=>k_is))
   (case kitf|kitb=>constructor<;>first|rfl|kernel_rfl|decide+kernel)
   (case anyC=>refine' Kn.Ln.zNq ?knq;(case knq=>k_is))
   (case zlen|zrange|zall|zisinstance|zstr|ztuple|zint|zbool|zsorted|zsum|zmin|zmax|zlist|zset|zzip|zenumerate|zdict=>k_is))
  (case a4=>k_is);(case l4=>k_is);(case c4=>k_is);(case k4=>k_is)
end
